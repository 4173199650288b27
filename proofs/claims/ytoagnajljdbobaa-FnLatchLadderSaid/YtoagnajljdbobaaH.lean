/- Contracts of chapter 1: words written by the program; bits and words written by the specification. -/
import Derived.Test.YtoagnajljdbobaaG
import Derived.Test.YtoagnajljdbobaaE
namespace Go.Proofs.Ytoagnajljdbobaa
open Go.RowKit
attribute [local go_sem ↓] Go.wp_at_zero Go.wp_at_succ

/-- What SetBit and SetWord return. -/
def setBitM (m : Img) (n : Int) (b : Bool) : Img := if imgOK m = true then ⟨if 0 ≤ n ∧ n < m.bits.length then m.bits.set n.toNat b else m.bits, m.words⟩ else ⟨[], []⟩
def setWordM (m : Img) (n x : Int) : Img := if imgOK m = true then ⟨m.bits, setW m.words n x⟩ else ⟨[], []⟩
theorem withN_bools (l : List Bool) (n : Int) (b : Bool) (h : l.length ≤ 16) : boolsOf (withN (setTo l l.length) n b) l.length = if 0 ≤ n ∧ n < l.length then l.set n.toNat b else l := by
  unfold withN
  by_cases h1 : 0 ≤ n ∧ n < 16
  · rw [if_pos h1, boolsOf_bset l h n.toNat b (by omega)]
    by_cases h2 : n < l.length
    · rw [if_pos ⟨h1.1, h2⟩]
    · rw [if_neg (by omega), List.set_eq_of_length_le (by omega)]
  · rw [if_neg h1, if_neg (by omega), boolsOf_setTo l h]
theorem imgOK_len {m : Img} (h : imgOK m = true) : m.bits.length ≤ 16 ∧ m.words.length ≤ 8 := by
  simp [imgOK] at h; omega
theorem iSetBit_any (v : Value) (m : Img) (n : Int) (b : Bool) (w : World) (h : ImgR w w.heap.size v m) :
    Calls Try.prog 30 #[v, .int .i64 n, .bool b] w fun e w' => ∃ v', e = .returned v' ∧ OwnM w' w.heap.size v' (setBitM m n b) ∧ Below w.heap.size w w' := by
  by_cases hok : imgOK m = true
  · refine (iSetBit_ok v m n b w h hok).mono fun e w' ⟨v', he, ho, hb⟩ => ⟨v', he, ?_, hb⟩
    rw [withN_bools _ _ _ (imgOK_len hok).1] at ho
    unfold setBitM
    rw [if_pos hok]
    exact ho
  · refine (iSetBit_bad v m n b w h (by simpa using hok)).mono fun e w' ⟨he, hb⟩ => ⟨_, he, ?_, hb⟩
    unfold setBitM
    rw [if_neg hok]
    exact own_img0 _ _
set_option maxHeartbeats 400000 in
theorem iSetWord_bad (v : Value) (m : Img) (n x : Int) (w : World) (h : ImgR w w.heap.size v m) (hok : imgOK m = false) :
    Calls Try.prog 35 #[v, .int .i64 n, .int .i64 x] w fun e w' => e = .returned img0 ∧ Below w.heap.size w w' := by
  have hW : ∀ o p, ImgR ((w.alloc o).alloc p) ((w.alloc o).alloc p).heap.size v m := fun o p => h.below (((Below.refl _ _).alloc (Nat.le_refl _) _).alloc (by simp) _)
  obtain ⟨v1, v2, rfl, h1, h2⟩ := h
  clear h1 h2
  go_enter Try.func35, Try.ntmps35
  go_wp2_with fail
  refine (iImageValid_any _ m _ (hW _ _)).mono ?_
  rintro e w1 ⟨rfl, hb1⟩
  have hc := old_cell hb1
  have hf := old_frozen hb1
  have hs := hb1.size
  simp at hs
  go_wp2
  refine bodyPost_ret (v := img0) (by simp [results, Try.results35, go_sem, img0, hc]) rfl ⟨rfl, ?_⟩
  exact (((((Below.refl _ _).alloc (Nat.le_refl _) _).alloc (by simp) _).trans (hb1.mono (by simp; omega))).setCell (by simp) _).setCell (by simp) _
set_option maxHeartbeats 1000000 in
theorem iSetWord_ok (v : Value) (m : Img) (n x : Int) (w : World) (h : ImgR w w.heap.size v m) (hok : imgOK m = true) :
    Calls Try.prog 35 #[v, .int .i64 n, .int .i64 x] w fun e w' => ∃ v', e = .returned v' ∧ OwnM w' w.heap.size v' ⟨boolsOf (setTo m.bits m.bits.length) m.bits.length, setW m.words n x⟩ ∧ Below w.heap.size w w' := by
  have hW : ∀ w1, Below w.heap.size w w1 → ImgR w1 w1.heap.size v m := fun w1 hb => h.below hb
  have hl : m.bits.length ≤ 16 := (imgOK_len hok).1
  obtain ⟨v1, v2, rfl, ⟨A, c, rfl, hr, _⟩, ⟨A2, c2, rfl, hr2, hl2, hb2⟩⟩ := h
  have hwi : ∀ w1, Below w.heap.size w w1 → IntsR w1 w1.heap.size (.slice A2 m.words.length c2) m.words := fun w1 hb => by obtain ⟨_, _, e, _, h⟩ := hW w1 hb; simp at e; obtain ⟨_, rfl⟩ := e; exact h
  have hbi : ∀ w1, Below w.heap.size w w1 → BoolsR w1 w1.heap.size (.slice A m.bits.length c) m.bits := fun w1 hb => by obtain ⟨_, _, e, h, _⟩ := hW w1 hb; simp at e; obtain ⟨rfl, _⟩ := e; exact h
  clear hr hr2 hb2
  have hs0 := setTo_lt m.bits m.bits.length
  have B0 : ∀ o p, Below w.heap.size w ((w.alloc o).alloc p) := fun o p => (((Below.refl _ _).alloc (Nat.le_refl _) _).alloc (by simp) _)
  go_enter Try.func35, Try.ntmps35
  go_wp2_with fail
  refine (iImageValid_any _ m _ (hW _ (B0 _ _))).mono ?_
  rintro e w1 ⟨rfl, hb1⟩
  have B1 : Below w.heap.size w w1 := (B0 _ _).trans (hb1.mono (by simp; omega))
  obtain ⟨c0, f0, l0⟩ := kept hb1 w.heap.size (by simp; omega)
  obtain ⟨c1, f1, l1⟩ := kept hb1 (w.heap.size + 1) (by simp)
  go_wp2_with fail
  go_region_held3 (fun w' => w'.cell? ⟨w.heap.size, 0, none⟩ = some (.slice A m.bits.length c) ∧ w'.cell? ⟨w.heap.size, 1, none⟩ = some (.slice A2 m.words.length c2)) (first | go_keep)
    (first
      | (go_at_call 84; refine (bitSetOf_any _ m.bits _ (hbi _ B1.drew)).mono ?_; rintro e w' ⟨rfl, rfl⟩)
      | (go_at_call 83; refine (bools_any _ m.bits.length _ hs0 (by omega)).mono ?_; rintro e w2 ⟨v', rfl, hown, hb2⟩; obtain ⟨A', c', rfl, -, -⟩ := own_form hown; obtain ⟨c20, f20, l20⟩ := kept hb2 w.heap.size l0; obtain ⟨c21, f21, l21⟩ := kept hb2 (w.heap.size + 1) l1; have B2 := (B1.drew).trans (hb2.mono (show w.heap.size ≤ w1.heap.size by omega)))
      | (go_at_call 89; refine (wwith_any _ m.words n x _ (hwi _ B2)).mono ?_; rintro e w3 ⟨v3, rfl, hown3, hb3⟩; obtain ⟨A3, c3, rfl, -, -⟩ := own_form hown3; obtain ⟨c30, f30, l30⟩ := kept hb3 w.heap.size l20; obtain ⟨c31, f31, l31⟩ := kept hb3 (w.heap.size + 1) l21))
  go_wp2
  refine bodyPost_ret (v := .agg #[.slice A' (boolsOf (setTo m.bits m.bits.length) m.bits.length).length c', .slice A3 (setW m.words n x).length c3]) (by simp [results, Try.results35, go_sem, *]) rfl ⟨_, rfl, ⟨_, _, rfl, ?_, ?_⟩, ?_⟩
  · exact mono_own (ownsRow_setCell_below (a := ⟨w.heap.size + 1, 1, none⟩) (ownsRow_setCell_below (a := ⟨w.heap.size + 1, 0, none⟩) (own_below hown hb3) l1 _) l1 _) (Nat.le_of_lt l0)
  · exact mono_own (ownsRow_setCell_below (a := ⟨w.heap.size + 1, 1, none⟩) (ownsRow_setCell_below (a := ⟨w.heap.size + 1, 0, none⟩) hown3 l21 _) l21 _) (Nat.le_of_lt l20)
  · exact ((B2.trans (hb3.mono (Nat.le_of_lt l20))).setCell (by simp) _).setCell (by simp) _
theorem iSetWord_any (v : Value) (m : Img) (n x : Int) (w : World) (h : ImgR w w.heap.size v m) :
    Calls Try.prog 35 #[v, .int .i64 n, .int .i64 x] w fun e w' => ∃ v', e = .returned v' ∧ OwnM w' w.heap.size v' (setWordM m n x) ∧ Below w.heap.size w w' := by
  by_cases hok : imgOK m = true
  · refine (iSetWord_ok v m n x w h hok).mono fun e w' ⟨v', he, ho, hb⟩ => ⟨v', he, ?_, hb⟩
    rw [boolsOf_setTo _ (imgOK_len hok).1] at ho
    unfold setWordM
    rw [if_pos hok]
    exact ho
  · refine (iSetWord_bad v m n x w h (by simpa using hok)).mono fun e w' ⟨he, hb⟩ => ⟨_, he, ?_, hb⟩
    unfold setWordM
    rw [if_neg hok]
    exact own_img0 _ _
end Go.Proofs.Ytoagnajljdbobaa
