/- The contract of a drawn image. -/
import Derived.Test.YtoagnajljdbobabP
namespace Go.Proofs.Ytoagnajljdbobab
open Go.RowKit
attribute [local go_sem ↓] Go.wp_at_zero Go.wp_at_succ

theorem own_blk {w : World} {b e s n k t : Nat} {v : Value} {xs : List Value} {cs : Array Value} {fr : Nat × Nat} (h : w.ownsRow b e s v n xs) (hk : w.heap[k]? = some (.cells cs t fr)) (ht : e ≠ t) : v.ownBlock ≠ some k := by
  rcases h.2 with ⟨rfl, _⟩ | ⟨g, cap, cur, rfl, _, hg, _⟩
  · simp [Value.ownBlock]
  · simp only [Value.ownBlock, ne_eq, Option.some.injEq]
    rintro rfl
    rw [hg] at hk
    injection hk with hk
    injection hk with _ h _
    exact ht h
theorem blk_lt {w : World} {k : Nat} {o : Obj} (h : w.heap[k]? = some o) : k < w.heap.size := by
  rcases Nat.lt_or_ge k w.heap.size with h' | h'
  · exact h'
  · rw [Array.getElem?_eq_none h'] at h; cases h
/-- A known block behind a law on an owned row of another element type. -/
theorem grown_blk {w w' : World} {b e s n k t : Nat} {v : Value} {xs : List Value} {cs : Array Value} {fr : Nat × Nat} (h : w.ownsRow b e s v n xs) (hg : w.grownBy w' v.ownBlock) (hk : w.heap[k]? = some (.cells cs t fr)) (ht : e ≠ t) : w'.heap[k]? = some (.cells cs t fr) :=
  (hg.block k (blk_lt hk) (Ne.symm (own_blk h hk ht))).trans hk
theorem own_setCell {w : World} {b e s n t : Nat} {v : Value} {xs : List Value} {p : Addr} {cs : Array Value} {fr : Nat × Nat} (h : w.ownsRow b e s v n xs) (hk : w.heap[p.block]? = some (.cells cs t fr)) (ht : e ≠ t) (u : Value) : (w.setCell p u).ownsRow b e s v n xs :=
  h.kept (row := some p.block) ⟨rfl, rfl, rfl, by simp [World.setCell], fun k _ hne => Below.heap_setCell _ _ _ _ (fun e => hne (by rw [e]))⟩ (.inr (own_blk h hk ht))
theorem blk_alloc {w : World} {k : Nat} {o : Obj} (h : w.heap[k]? = some o) (x : Obj) : (w.alloc x).heap[k]? = some o := (Below.heap_alloc w x k (blk_lt h)).trans h
theorem blk_cell {w : World} {k t : Nat} {cs : Array Value} {fr : Nat × Nat} (h : w.heap[k]? = some (.cells cs t fr)) (i : Nat) : w.cell? ⟨k, i, none⟩ = cs[i]? := cell_of_row w k i cs t fr h
theorem blk_frozen {w : World} {k t : Nat} {cs : Array Value} (h : w.heap[k]? = some (.cells cs t (0, 0))) (i : Nat) : w.frozen? ⟨k, i, none⟩ = false := frozen_of_row w k i cs t h
/-- The drawn image while it is being made: it lies in block k. -/
structure ImgAt (w : World) (base k r : Nat) (v1 v2 : Value) (m : Img) : Prop where
  blk : w.heap[k]? = some (.cells #[v1, v2] 30 (0, 0))
  res : w.heap[r]? = some (.cells #[.slice none 0 0, .slice none 0 0] 30 (0, 0))
  ob : OwnB w base v1 m.bits
  oi : OwnI w base v2 m.words
  ne : k ≠ r
def smallM (m : Img) (nb nw : Nat) : Prop := m.bits.length ≤ nb ∧ m.words.length ≤ nw ∧ ∀ x ∈ m.words, -40000 ≤ x ∧ x ≤ 40000
theorem ImgAt.fr {w w' : World} {base k r g : Nat} {v1 v2 : Value} {m : Img} (h : ImgAt w base k r v1 v2 m) (hf : Fr w.heap.size g w w') (hg : g < base) (hk : g ≠ k) (hr : g ≠ r) : ImgAt w' base k r v1 v2 m :=
  ⟨(hf.block k (blk_lt h.blk) (by omega)).trans h.blk, (hf.block r (blk_lt h.res) (by omega)).trans h.res, hf.own h.ob hg, hf.own h.oi hg, h.ne⟩
theorem ImgAt.drew {w : World} {base k r : Nat} {v1 v2 : Value} {m : Img} (h : ImgAt w base k r v1 v2 m) : ImgAt w.drew base k r v1 v2 m := ⟨h.blk, h.res, h.ob, h.oi, h.ne⟩
/-- A word appended to the image that is being made. -/
theorem ImgAt.push {w w' : World} {base k r t : Nat} {v1 v2 v3 : Value} {m : Img} {x : Int} (hI : ImgAt w base k r v1 v2 m) (ht : t = 3)
    (hO : w'.ownsRow base t 1 v3 (m.words.length + 1) (m.words.map (.int .i64) ++ [.int .i64 x])) (hg : (w.alloc (.cells #[.int .i64 x] t)).grownBy w' v2.ownBlock) :
    ImgAt (w'.setCell ⟨k, 1, none⟩ v3) base k r v1 v3 ⟨m.bits, m.words ++ [x]⟩ := by
  subst ht
  have hoi := World.ownsRow.alloc hI.oi (.cells #[.int .i64 x] 3)
  have hb := grown_blk hoi hg (blk_alloc hI.blk _) (by decide)
  have hr := grown_blk hoi hg (blk_alloc hI.res _) (by decide)
  have hob := World.ownsRow.kept (World.ownsRow.alloc hI.ob (.cells #[.int .i64 x] 3)) hg (own_ne (World.ownsRow.alloc hI.ob _) hoi (by decide))
  refine ⟨heap_setCell_same w' k 1 _ _ _ hb, (Below.heap_setCell _ _ _ _ (Ne.symm hI.ne)).trans hr, own_setCell (p := ⟨k, 1, none⟩) hob hb (by decide) _, ?_, hI.ne⟩
  have := own_setCell (p := ⟨k, 1, none⟩) hO hb (by decide) v3
  unfold OwnI
  simpa using this
/-- The other ways in which the image is turned: its bits, or its words, made anew. -/
theorem ImgAt.bits {w w' : World} {base k r : Nat} {v1 v2 v3 : Value} {m : Img} {l : List Bool} (hI : ImgAt w base k r v1 v2 m) (hb : Below w.heap.size w w') (hO : OwnB w' base v3 l) :
    ImgAt (w'.setCell ⟨k, 0, none⟩ v3) base k r v3 v2 ⟨l, m.words⟩ := by
  have hk := (hb.block k (blk_lt hI.blk)).trans hI.blk
  exact ⟨heap_setCell_same w' k 0 _ _ _ hk, (Below.heap_setCell _ _ _ _ (Ne.symm hI.ne)).trans ((hb.block r (blk_lt hI.res)).trans hI.res), own_setCell (p := ⟨k, 0, none⟩) hO hk (by decide) _, own_setCell (p := ⟨k, 0, none⟩) (own_below hI.oi hb) hk (by decide) _, hI.ne⟩
theorem ImgAt.words {w w' : World} {base k r : Nat} {v1 v2 v3 : Value} {m : Img} {l : List Int} (hI : ImgAt w base k r v1 v2 m) (hb : Below w.heap.size w w') (hO : OwnI w' base v3 l) :
    ImgAt (w'.setCell ⟨k, 1, none⟩ v3) base k r v1 v3 ⟨m.bits, l⟩ := by
  have hk := (hb.block k (blk_lt hI.blk)).trans hI.blk
  exact ⟨heap_setCell_same w' k 1 _ _ _ hk, (Below.heap_setCell _ _ _ _ (Ne.symm hI.ne)).trans ((hb.block r (blk_lt hI.res)).trans hI.res), own_setCell (p := ⟨k, 1, none⟩) (own_below hI.ob hb) hk (by decide) _, own_setCell (p := ⟨k, 1, none⟩) hO hk (by decide) _, hI.ne⟩
theorem ImgAt.done {w : World} {base k r : Nat} {v1 v2 : Value} {m : Img} (hI : ImgAt w base k r v1 v2 m) : OwnM ((w.setCell ⟨r, 0, none⟩ v1).setCell ⟨r, 1, none⟩ v2) base (.agg #[v1, v2]) m := by
  have h1 := heap_setCell_same w r 0 _ _ v1 hI.res
  exact ⟨v1, v2, rfl, own_setCell (p := ⟨r, 1, none⟩) (own_setCell (p := ⟨r, 0, none⟩) hI.ob hI.res (by decide) _) h1 (by decide) _, own_setCell (p := ⟨r, 1, none⟩) (own_setCell (p := ⟨r, 0, none⟩) hI.oi hI.res (by decide) _) h1 (by decide) _⟩
theorem own_of_madeB {w : World} {b n : Nat} {v : Value} (h : w.ownsRow b 4 1 v n (madeCells #[Value.bool false] n).toList) : OwnB w b v (List.replicate n false) := by
  rw [toList_madeCells_one] at h; unfold OwnB; simpa using h
theorem own_of_madeI {w : World} {b n : Nat} {v : Value} (h : w.ownsRow b 3 1 v n (madeCells #[Value.int .i64 0] n).toList) : OwnI w b v (List.replicate n 0) := by
  rw [toList_madeCells_one] at h; unfold OwnI; simpa using h
/-- The cells that the image's last lines read. -/
theorem ImgAt.facts {w : World} {base k r : Nat} {v1 v2 : Value} {m : Img} (hI : ImgAt w base k r v1 v2 m) :
    w.cell? ⟨k, 0, none⟩ = some v1 ∧ w.cell? ⟨k, 1, none⟩ = some v2 ∧ w.frozen? ⟨k, 0, none⟩ = false ∧ w.frozen? ⟨k, 1, none⟩ = false ∧
    w.cell? ⟨r, 0, none⟩ = some (.slice none 0 0) ∧ w.cell? ⟨r, 1, none⟩ = some (.slice none 0 0) ∧ w.frozen? ⟨r, 0, none⟩ = false ∧ w.frozen? ⟨r, 1, none⟩ = false :=
  ⟨blk_cell hI.blk 0, blk_cell hI.blk 1, blk_frozen hI.blk 0, blk_frozen hI.blk 1, blk_cell hI.res 0, blk_cell hI.res 1, blk_frozen hI.res 0, blk_frozen hI.res 1⟩
end Go.Proofs.Ytoagnajljdbobab
