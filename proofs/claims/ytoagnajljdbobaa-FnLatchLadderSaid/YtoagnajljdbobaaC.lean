/- Contracts of chapter 1's exported functions. -/
import Derived.Test.YtoagnajljdbobaaB
import Derived.Deep.RegionHeld3
import Derived.Deep.QuietTactic
import Derived.BigQuiet
import Derived.Deep.DrawnRows
namespace Go.Proofs.Ytoagnajljdbobaa
open Go.RowKit
attribute [local go_sem ↓] Go.wp_at_zero Go.wp_at_succ

/-- An image of the call's own. -/
def OwnM (w : World) (base : Nat) (v : Value) (m : Img) : Prop := ∃ v1 v2, v = .agg #[v1, v2] ∧ OwnB w base v1 m.bits ∧ OwnI w base v2 m.words
theorem OwnM.form {w : World} {b : Nat} {v : Value} {m : Img} (h : OwnM w b v m) : ∃ A1 c1 A2 c2, v = .agg #[.slice A1 m.bits.length c1, .slice A2 m.words.length c2] ∧ OwnB w b (.slice A1 m.bits.length c1) m.bits ∧ OwnI w b (.slice A2 m.words.length c2) m.words := by
  obtain ⟨v1, v2, rfl, h1, h2⟩ := h
  obtain ⟨A1, c1, rfl, -, -⟩ := own_form h1
  obtain ⟨A2, c2, rfl, -, -⟩ := own_form h2
  exact ⟨A1, c1, A2, c2, rfl, h1, h2⟩
theorem OwnM.mono {w : World} {b b' : Nat} {v : Value} {m : Img} (h : OwnM w b v m) (hb : b' ≤ b) : OwnM w b' v m := by
  obtain ⟨v1, v2, rfl, h1, h2⟩ := h; exact ⟨v1, v2, rfl, mono_own h1 hb, mono_own h2 hb⟩
theorem old_cell {W w1 : World} (hb : Below W.heap.size W w1) : ∀ b o, b < W.heap.size → w1.cell? ⟨b, o, none⟩ = W.cell? ⟨b, o, none⟩ := fun b o h => hb.cell (p := ⟨b, o, none⟩) h
theorem old_frozen {W w1 : World} (hb : Below W.heap.size W w1) : ∀ b o, b < W.heap.size → w1.frozen? ⟨b, o, none⟩ = W.frozen? ⟨b, o, none⟩ := fun b o h => hb.frozen (p := ⟨b, o, none⟩) h
/-- one block that is there stays as it is -/
theorem kept {W w1 : World} (hb : Below W.heap.size W w1) (n : Nat) (hn : n < W.heap.size) :
    (∀ o, w1.cell? ⟨n, o, none⟩ = W.cell? ⟨n, o, none⟩) ∧ (∀ o, w1.frozen? ⟨n, o, none⟩ = W.frozen? ⟨n, o, none⟩) ∧ n < w1.heap.size :=
  ⟨fun o => hb.cell (p := ⟨n, o, none⟩) hn, fun o => hb.frozen (p := ⟨n, o, none⟩) hn, Nat.lt_of_lt_of_le hn hb.size⟩
def img0 : Value := .agg #[.slice none 0 0, .slice none 0 0]
set_option maxHeartbeats 400000 in
theorem iSetBit_bad (v : Value) (m : Img) (n : Int) (b : Bool) (w : World) (h : ImgR w w.heap.size v m) (hok : imgOK m = false) :
    Calls Try.prog 30 #[v, .int .i64 n, .bool b] w fun e w' => e = .returned img0 ∧ Below w.heap.size w w' := by
  have hW : ∀ o p, ImgR ((w.alloc o).alloc p) ((w.alloc o).alloc p).heap.size v m := fun o p => h.below (((Below.refl _ _).alloc (Nat.le_refl _) _).alloc (by simp) _)
  obtain ⟨v1, v2, rfl, h1, h2⟩ := h
  clear h1 h2
  go_enter Try.func30, Try.ntmps30
  go_wp2_with fail
  refine (iImageValid_any _ m _ (hW _ _)).mono ?_
  rintro e w1 ⟨rfl, hb1⟩
  have hc := old_cell hb1
  have hf := old_frozen hb1
  have hs := hb1.size
  simp at hs
  go_wp2
  refine bodyPost_ret (v := img0) (by simp [results, Try.results30, go_sem, img0, hc]) rfl ⟨rfl, ?_⟩
  exact (((((Below.refl _ _).alloc (Nat.le_refl _) _).alloc (by simp) _).trans (hb1.mono (by simp; omega))).setCell (by simp) _).setCell (by simp) _
set_option maxHeartbeats 400000 in
theorem iSetBit_ok (v : Value) (m : Img) (n : Int) (b : Bool) (w : World) (h : ImgR w w.heap.size v m) (hok : imgOK m = true) :
    Calls Try.prog 30 #[v, .int .i64 n, .bool b] w fun e w' => ∃ v', e = .returned v' ∧ OwnM w' w.heap.size v' ⟨boolsOf (withN (setTo m.bits m.bits.length) n b) m.bits.length, m.words⟩ ∧ Below w.heap.size w w' := by
  have hW : ∀ w1, Below w.heap.size w w1 → ImgR w1 w1.heap.size v m := fun w1 hb => h.below hb
  have hl : m.bits.length ≤ 16 := by simp [imgOK] at hok; omega
  obtain ⟨v1, v2, rfl, ⟨A, c, rfl, hr, _⟩, ⟨A2, c2, rfl, hr2, hl2, hb2⟩⟩ := h
  have hwi : ∀ w1, Below w.heap.size w w1 → IntsR w1 w1.heap.size (.slice A2 m.words.length c2) m.words := fun w1 hb => by obtain ⟨_, _, e, _, h⟩ := hW w1 hb; simp at e; obtain ⟨_, rfl⟩ := e; exact h
  have hbi : ∀ w1, Below w.heap.size w w1 → BoolsR w1 w1.heap.size (.slice A m.bits.length c) m.bits := fun w1 hb => by obtain ⟨_, _, e, h, _⟩ := hW w1 hb; simp at e; obtain ⟨rfl, _⟩ := e; exact h
  clear hr hr2 hb2
  have hs0 := setTo_lt m.bits m.bits.length
  have hs1 := withN_lt _ n b hs0
  have B0 : ∀ o p, Below w.heap.size w ((w.alloc o).alloc p) := fun o p => (((Below.refl _ _).alloc (Nat.le_refl _) _).alloc (by simp) _)
  go_enter Try.func30, Try.ntmps30
  go_wp2_with fail
  refine (iImageValid_any _ m _ (hW _ (B0 _ _))).mono ?_
  rintro e w1 ⟨rfl, hb1⟩
  have B1 : Below w.heap.size w w1 := (B0 _ _).trans (hb1.mono (by simp; omega))
  obtain ⟨c0, f0, l0⟩ := kept hb1 w.heap.size (by simp; omega)
  obtain ⟨c1, f1, l1⟩ := kept hb1 (w.heap.size + 1) (by simp)
  go_wp2_with fail
  refine (bitSetOf_any _ m.bits _ (hbi _ B1)).mono ?_
  rintro e w' ⟨rfl, rfl⟩
  go_wp2_with fail
  refine (with_any _ n b _ hs0).mono ?_
  rintro e w' ⟨rfl, rfl⟩
  go_wp2_with fail
  go_region_held3 (fun w' => w'.cell? ⟨w.heap.size, 0, none⟩ = some (.slice A m.bits.length c) ∧ w'.cell? ⟨w.heap.size, 1, none⟩ = some (.slice A2 m.words.length c2)) (first | go_keep)
    (first
      | (go_at_call 83; refine (bools_any _ m.bits.length _ hs1 (by omega)).mono ?_; rintro e w2 ⟨v', rfl, hown, hb2⟩; obtain ⟨A', c', rfl, -, -⟩ := own_form hown; obtain ⟨c20, f20, l20⟩ := kept hb2 w.heap.size l0; obtain ⟨c21, f21, l21⟩ := kept hb2 (w.heap.size + 1) l1; have B2 := (B1.drew).trans (hb2.mono (show w.heap.size ≤ w1.heap.size by omega)))
      | (go_at_call 86; refine (clone_any _ m.words _ (hwi _ B2)).mono ?_; rintro e w3 ⟨v3, rfl, hown3, hb3⟩; obtain ⟨A3, c3, rfl, -, -⟩ := own_form hown3; obtain ⟨c30, f30, l30⟩ := kept hb3 w.heap.size l20; obtain ⟨c31, f31, l31⟩ := kept hb3 (w.heap.size + 1) l21))
  go_wp2
  refine bodyPost_ret (v := .agg #[.slice A' (boolsOf (withN (setTo m.bits m.bits.length) n b) m.bits.length).length c', .slice A3 m.words.length c3]) (by simp [results, Try.results30, go_sem, *]) rfl ⟨_, rfl, ⟨_, _, rfl, ?_, ?_⟩, ?_⟩
  · exact mono_own (ownsRow_setCell_below (a := ⟨w.heap.size + 1, 1, none⟩) (ownsRow_setCell_below (a := ⟨w.heap.size + 1, 0, none⟩) (own_below hown hb3) l1 _) l1 _) (Nat.le_of_lt l0)
  · exact mono_own (ownsRow_setCell_below (a := ⟨w.heap.size + 1, 1, none⟩) (ownsRow_setCell_below (a := ⟨w.heap.size + 1, 0, none⟩) hown3 l21 _) l21 _) (Nat.le_of_lt l20)
  · exact ((B2.trans (hb3.mono (Nat.le_of_lt l20))).setCell (by simp) _).setCell (by simp) _
end Go.Proofs.Ytoagnajljdbobaa
