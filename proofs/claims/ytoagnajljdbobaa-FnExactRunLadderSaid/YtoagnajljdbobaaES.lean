/- What the exact laws of chapter 3 keep: the image of the model at a floating place, the boxes of rungs. -/
import Derived.Test.YtoagnajljdbobaaEU
import Derived.Test.YtoagnajljdbobaaRZ
namespace Go.Proofs.Ytoagnajljdbobaa
open Go.RowKit
attribute [local go_sem ↓] Go.wp_at_zero Go.wp_at_succ

theorem bstep {a b c : World} (h : Below a.heap.size a b) (k : Below b.heap.size b c) : Below a.heap.size a c := h.trans (k.mono h.size)
theorem fine_mk {m : Img} (h : fineM m) (s : List Bool) (hs : s.length = m.bits.length) : fineM ⟨s, m.words⟩ := ⟨by rw [hs]; exact h.1, h.2.1, h.2.2⟩
theorem fine_nil : fineM ⟨[], []⟩ := ⟨by simp, by simp, by simp⟩
theorem fine_run {m : Img} (r : Rg) (h : fineM m) : fineM (runRungM m r) := by
  unfold runRungM
  split
  · exact fine_mk h _ (runB_length _ _)
  · exact fine_nil
theorem fine_lad {m : Img} (l : List Rg) (h : fineM m) : fineM (runLadM m l) := by
  unfold runLadM
  split
  · exact fine_mk h _ (runL_length _ _)
  · exact fine_nil
/-- A box of three words: a rung. -/
structure HC (w : World) (k t : Nat) (A : Option Addr) (n c : Nat) (x y : Int) : Prop where
  blk : w.heap[k]? = some (.cells #[.slice A n c, .int .i64 x, .int .i64 y] t (0, 0))
section
variable {w w' : World} {k t n c lo hi : Nat} {A : Option Addr} {x y : Int}
theorem HC.below (h : HC w k t A n c x y) (hb : Below w.heap.size w w') : HC w' k t A n c x y := ⟨(hb.block k (blk_lt h.blk)).trans h.blk⟩
theorem HC.out (h : HC w k t A n c x y) (ho : Out lo hi w w') (hd : k < lo ∨ hi ≤ k) : HC w' k t A n c x y := ⟨(ho.block k (blk_lt h.blk) hd).trans h.blk⟩
theorem HC.lt (h : HC w k t A n c x y) : k < w.heap.size := blk_lt h.blk
theorem HC.cells (h : HC w k t A n c x y) : w.cell? ⟨k, 0, none⟩ = some (.slice A n c) ∧ w.cell? ⟨k, 1, none⟩ = some (.int .i64 x) ∧ w.cell? ⟨k, 2, none⟩ = some (.int .i64 y) := blk3k h.blk
end
/-- An image of the call's own: its box may stand before or behind its rows. -/
structure HP (w : World) (k lo hi : Nat) (A1 : Option Addr) (c1 : Nat) (A2 : Option Addr) (c2 : Nat) (m : Img) : Prop where
  blk : w.heap[k]? = some (.cells #[.slice A1 m.bits.length c1, .slice A2 m.words.length c2] 26 (0, 0))
  own : OwnMX w lo hi (.agg #[.slice A1 m.bits.length c1, .slice A2 m.words.length c2]) m
  le : hi ≤ w.heap.size
section
variable {w w' : World} {k lo hi lo2 hi2 c1 c2 : Nat} {A1 A2 : Option Addr} {m : Img}
theorem HP.below (h : HP w k lo hi A1 c1 A2 c2 m) (hb : Below w.heap.size w w') : HP w' k lo hi A1 c1 A2 c2 m := ⟨(hb.block k (blk_lt h.blk)).trans h.blk, h.own.below hb, Nat.le_trans h.le hb.size⟩
theorem HP.out (h : HP w k lo hi A1 c1 A2 c2 m) (ho : Out lo2 hi2 w w') (hd : (hi ≤ lo2 ∨ hi2 ≤ lo) ∧ (k < lo2 ∨ hi2 ≤ k)) : HP w' k lo hi A1 c1 A2 c2 m := ⟨(ho.block k (blk_lt h.blk) hd.2).trans h.blk, h.own.out ho hd.1, Nat.le_trans h.le ho.size⟩
theorem HP.lt (h : HP w k lo hi A1 c1 A2 c2 m) : k < w.heap.size ∧ hi ≤ w.heap.size := ⟨blk_lt h.blk, h.le⟩
theorem HP.cells (h : HP w k lo hi A1 c1 A2 c2 m) : w.cell? ⟨k, 0, none⟩ = some (.slice A1 m.bits.length c1) ∧ w.cell? ⟨k, 1, none⟩ = some (.slice A2 m.words.length c2) := ⟨blk_cell h.blk 0, blk_cell h.blk 1⟩
end
/-- What stands behind a drawn call whose image is stored in a box. -/
structure HM (W w : World) (k lo hi : Nat) (A1 : Option Addr) (c1 : Nat) (A2 : Option Addr) (c2 : Nat) (m : Img) : Prop where
  hp : HP w k lo hi A1 c1 A2 c2 m
  bel : Below W.heap.size W w
  k1 : W.heap.size ≤ k
  l1 : W.heap.size ≤ lo
theorem hm_store {W u : World} {k lo : Nat} {A1 A2 : Option Addr} {c1 c2 : Nat} {m : Img} {x y : Value} (hB : Below W.heap.size W u) (ho : OwnM u lo (.agg #[.slice A1 m.bits.length c1, .slice A2 m.words.length c2]) m)
    (hz : u.heap[k]? = some (.cells #[x, y] 26 (0, 0))) (hk : W.heap.size ≤ k) (hl : W.heap.size ≤ lo) :
    HM W ((u.setCell ⟨k, 0, none⟩ (.slice A1 m.bits.length c1)).setCell ⟨k, 1, none⟩ (.slice A2 m.words.length c2)) k lo u.heap.size A1 c1 A2 c2 m := by
  have h1 := heap_setCell_same u k 0 _ _ (.slice A1 m.bits.length c1) hz
  have h2 := blk_set2 hz (.slice A1 m.bits.length c1) (.slice A2 m.words.length c2)
  obtain ⟨v1, v2, hv, o1, o2⟩ := ho
  simp at hv
  obtain ⟨rfl, rfl⟩ := hv
  refine ⟨⟨h2, ⟨_, _, rfl, ⟨?_, fun j hj => (o1.lt j hj).2⟩, ⟨?_, fun j hj => (o2.lt j hj).2⟩⟩, by simp [World.setCell]⟩, hB.trans (((Below.refl _ _).setCell (p := ⟨k, 0, none⟩) hk _).setCell (p := ⟨k, 1, none⟩) hk _), hk, hl⟩
  · exact own_setCell (p := ⟨k, 1, none⟩) (own_setCell (p := ⟨k, 0, none⟩) o1 hz (by decide) _) h1 (by decide) _
  · exact own_setCell (p := ⟨k, 1, none⟩) (own_setCell (p := ⟨k, 0, none⟩) o2 hz (by decide) _) h1 (by decide) _
theorem hm_alloc {W u : World} {lo : Nat} {A1 A2 : Option Addr} {c1 c2 : Nat} {m : Img} (hB : Below W.heap.size W u) (ho : OwnM u lo (.agg #[.slice A1 m.bits.length c1, .slice A2 m.words.length c2]) m) (hl : W.heap.size ≤ lo) :
    HM W (u.alloc (.cells #[.slice A1 m.bits.length c1, .slice A2 m.words.length c2] 26)) u.heap.size lo u.heap.size A1 c1 A2 c2 m :=
  ⟨⟨heap_alloc_new _ _, (OwnMX.of ho).below ((Below.refl _ _).alloc (Nat.le_refl _) _), by simp⟩, hB.alloc hB.size _, hB.size, hl⟩
theorem xtr {w : World} {l : List Nd} {x y : Int} {f : FuncId} {args : Array Value} (h : Calls Try.prog f args w (TRP l x y w)) : Calls Try.prog f args w fun e w' => (∃ A c, e = .returned (.agg #[.slice A l.length c, .int .i64 x, .int .i64 y]) ∧ XN w' w.heap.size w'.heap.size (.slice A l.length c) l) ∧ Below w.heap.size w w' :=
  h.mono fun _ _ ⟨A, c, he, ho, hb⟩ => ⟨⟨A, c, he, XO.of ho⟩, hb⟩
end Go.Proofs.Ytoagnajljdbobaa
