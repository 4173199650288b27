/- Contracts of chapter 1: new images and changed images, by the program and by the specification. -/
import Derived.Test.YtoagnajljdbobabDoorE
namespace Go.Proofs.YtoagnajljdbobabDoor
open Go.RowKit
attribute [local go_sem ↓] Go.wp_at_zero Go.wp_at_succ

theorem bools0_any (n : Int) (w : World) (h0 : 0 ≤ n) (hn : n ≤ 1000) :
    Calls Tryd.prog 38 #[.int .u16 0, .int .i64 n] w fun e w' => ∃ v, e = .returned v ∧ OwnB w' w.heap.size v (List.replicate n.toNat false) ∧ Below w.heap.size w w' := by
  obtain ⟨k, rfl⟩ := Int.eq_ofNat_of_zero_le h0
  refine (bools_any 0 k w (by omega) (by omega)).mono fun e w' ⟨v, he, ho, hb⟩ => ⟨v, he, ?_, hb⟩
  have e1 : boolsOf 0 k = List.replicate k false := by
    apply List.ext_getElem
    · simp [boolsOf]
    · intro i h1 h2; simp [boolsOf]
  rw [e1] at ho; exact ho
theorem run_mk {t e : TypeId} {z : Value} {by_ : Nat} {P : Program} (E : Elem P t e z 1 by_) (n : Int) (h0 : 0 ≤ n) (hn : n ≤ 1000) (hby : by_ ≤ 1000) (w : World) :
    (Instr.makeSlice t (.int .i64 n) (.int .i64 n)).run P w = .ok (.slice (some ⟨w.heap.size, 0, none⟩) n.toNat n.toNat) (w.alloc (.cells (madeCells z.cells n.toNat) e)) := by
  obtain ⟨k, rfl⟩ := Int.eq_ofNat_of_zero_le h0
  obtain ⟨i, hi, hz, hs1, hb1⟩ := info_parts E.info
  have hr := run_make (P := P) w t e i z E.under hi hz .i64 .i64 k k (by omega) (Int.le_refl _) (by rw [hb1]; have : (by_ : Int) * (k : Int) ≤ 1000 * 1000 := Int.mul_le_mul (by omega) (by omega) (by omega) (by omega); omega) (by omega)
  simpa [hs1] using hr
theorem own_madeI {W : World} {n g : Nat} (hg : W.heap.size = g) (hn : n ≤ 1000) : OwnI (W.alloc (.cells (madeCells #[Value.int .i64 0] n) 3)) g (.slice (some ⟨g, 0, none⟩) n n) (List.replicate n 0) := by
  subst hg
  have h := World.ownsRow_lit (base := W.heap.size) (e := 3) (size := 1) W (madeCells #[Value.int .i64 0] n) n (Nat.le_refl _) (by unfold maxLen; omega) (by simp [madeCells])
  rw [toList_madeCells_one] at h
  unfold OwnI
  simpa using h
theorem own_madeB {W : World} {n g : Nat} (hg : W.heap.size = g) (hn : n ≤ 1000) : OwnB (W.alloc (.cells (madeCells #[Value.bool false] n) 4)) g (.slice (some ⟨g, 0, none⟩) n n) (List.replicate n false) := by
  subst hg
  have h := World.ownsRow_lit (base := W.heap.size) (e := 4) (size := 1) W (madeCells #[Value.bool false] n) n (Nat.le_refl _) (by unfold maxLen; omega) (by simp [madeCells])
  rw [toList_madeCells_one] at h
  unfold OwnB
  simpa using h
def newM (b w : Int) : Img := if 0 ≤ b ∧ b ≤ 16 ∧ 0 ≤ w ∧ w ≤ 8 then ⟨List.replicate b.toNat false, List.replicate w.toNat 0⟩ else ⟨[], []⟩
theorem own_img0 (w : World) (base : Nat) : OwnM w base img0 ⟨[], []⟩ := ⟨_, _, rfl, World.ownsRow_nil _ _ _ _, World.ownsRow_nil _ _ _ _⟩
set_option maxHeartbeats 1000000 in
theorem iNewImage_ok (b n : Int) (w : World) (h : 0 ≤ b ∧ b ≤ 16 ∧ 0 ≤ n ∧ n ≤ 8) :
    Calls Tryd.prog 22 #[.int .i64 b, .int .i64 n] w fun e w' => ∃ v', e = .returned v' ∧ OwnM w' w.heap.size v' (newM b n) ∧ Below w.heap.size w w' := by
  obtain ⟨h1, h2, h3, h4⟩ := h
  have hmk := run_mk elW n h3 (by omega) (by omega)
  have HM := Lib.hid (show newM b n = ⟨List.replicate b.toNat false, List.replicate n.toNat 0⟩ from if_pos ⟨h1, h2, h3, h4⟩)
  go_enter Tryd.func22, Tryd.ntmps22
  go_wp2_with fail
  go_region_held3 (fun _ => True) (exact trivial)
    (first
      | (go_at_call 38; refine (bools0_any b _ h1 (by omega)).mono ?_; rintro e w1 ⟨v', rfl, hown, hb1⟩; obtain ⟨A', c', rfl, -, -⟩ := own_form hown; obtain ⟨c20, f20, l20⟩ := kept hb1 w.heap.size (by first | omega | (simp <;> omega))))
  · go_wp2
    refine bodyPost_ret (v := .agg #[.slice A' (List.replicate b.toNat false).length c', .slice (some ⟨w1.heap.size, 0, none⟩) n.toNat n.toNat]) (by simp [results, Tryd.results22, go_sem, *]) rfl ⟨_, rfl, ?_, ?_⟩
    · rw [HM.out]
      refine ⟨_, _, rfl, ?_, ?_⟩
      · exact mono_own ((ownsRow_setCell_below (a := ⟨w.heap.size, 1, none⟩) (ownsRow_setCell_below (a := ⟨w.heap.size, 0, none⟩) hown (by show w.heap.size < (w.alloc _).heap.size; simp) _) (by show w.heap.size < (w.alloc _).heap.size; simp) _).alloc _) (by show w.heap.size ≤ (w.alloc _).heap.size; simp)
      · exact mono_own (own_madeI (by simp) (by omega)) (Nat.le_of_lt l20)
    · exact ((((((Below.refl _ _).alloc (Nat.le_refl _) _).drew).trans (hb1.mono (by show w.heap.size ≤ (w.alloc _).heap.size; simp))).setCell (Nat.le_refl _) _).setCell (Nat.le_refl _) _).alloc (by simp; omega) _
  · go_wp2
    have hm := own_below (own_madeI (W := w.alloc (.cells #[Value.slice none 0 0, Value.slice none 0 0] 26)) (n := n.toNat) (g := w.heap.size + 1) (by simp) (by omega)).drew hb1
    refine bodyPost_ret (v := .agg #[.slice A' (List.replicate b.toNat false).length c', .slice (some ⟨w.heap.size + 1, 0, none⟩) n.toNat n.toNat]) (by simp [results, Tryd.results22, go_sem, *]) rfl ⟨_, rfl, ?_, ?_⟩
    · rw [HM.out]
      refine ⟨_, _, rfl, ?_, ?_⟩
      · exact mono_own (ownsRow_setCell_below (a := ⟨w.heap.size, 1, none⟩) (ownsRow_setCell_below (a := ⟨w.heap.size, 0, none⟩) hown (by show w.heap.size < ((w.alloc _).alloc _).heap.size; simp; omega) _) (by show w.heap.size < ((w.alloc _).alloc _).heap.size; simp; omega) _) (by show w.heap.size ≤ ((w.alloc _).alloc _).heap.size; simp; omega)
      · exact mono_own (ownsRow_setCell_below (a := ⟨w.heap.size, 1, none⟩) (ownsRow_setCell_below (a := ⟨w.heap.size, 0, none⟩) hm (by simp) _) (by simp) _) (by simp)
    · exact ((((((Below.refl _ _).alloc (Nat.le_refl _) _).alloc (by simp) _).drew).trans (hb1.mono (by show w.heap.size ≤ ((w.alloc _).alloc _).heap.size; simp; omega))).setCell (Nat.le_refl _) _).setCell (Nat.le_refl _) _
theorem newM_bad {b n : Int} (h : ¬ (0 ≤ b ∧ b ≤ 16 ∧ 0 ≤ n ∧ n ≤ 8)) : newM b n = ⟨[], []⟩ := if_neg h
theorem own_2set {W : World} {b e sz k n : Nat} {v : Value} {xs : List Value} (h : W.ownsRow b e sz v k xs) (hn : n < b) (x y : Value) : ((W.setCell ⟨n, 0, none⟩ x).setCell ⟨n, 1, none⟩ y).ownsRow b e sz v k xs :=
  ownsRow_setCell_below (a := ⟨n, 1, none⟩) (ownsRow_setCell_below (a := ⟨n, 0, none⟩) h hn _) hn _
set_option maxHeartbeats 400000 in
theorem iNewImage_bad0 (b n : Int) (w : World) (h : b < 0) :
    Calls Tryd.prog 22 #[.int .i64 b, .int .i64 n] w fun e w' => e = .returned img0 ∧ Below w.heap.size w w' := by
  go_enter Tryd.func22, Tryd.ntmps22
  go_wp2
  exact bodyPost_ret (v := img0) (by simp [results, Tryd.results22, go_sem, img0]) rfl ⟨rfl, (Below.refl _ _).alloc (Nat.le_refl _) _⟩
set_option maxHeartbeats 400000 in
theorem iNewImage_bad1 (b n : Int) (w : World) (_h0 : 0 ≤ b) (h : 16 < b) :
    Calls Tryd.prog 22 #[.int .i64 b, .int .i64 n] w fun e w' => e = .returned img0 ∧ Below w.heap.size w w' := by
  go_enter Tryd.func22, Tryd.ntmps22
  go_wp2
  exact bodyPost_ret (v := img0) (by simp [results, Tryd.results22, go_sem, img0]) rfl ⟨rfl, (Below.refl _ _).alloc (Nat.le_refl _) _⟩
set_option maxHeartbeats 400000 in
theorem iNewImage_bad2 (b n : Int) (w : World) (_h0 : 0 ≤ b) (_h1 : b ≤ 16) (h : n < 0) :
    Calls Tryd.prog 22 #[.int .i64 b, .int .i64 n] w fun e w' => e = .returned img0 ∧ Below w.heap.size w w' := by
  go_enter Tryd.func22, Tryd.ntmps22
  go_wp2
  exact bodyPost_ret (v := img0) (by simp [results, Tryd.results22, go_sem, img0]) rfl ⟨rfl, (Below.refl _ _).alloc (Nat.le_refl _) _⟩
set_option maxHeartbeats 400000 in
theorem iNewImage_bad3 (b n : Int) (w : World) (_h0 : 0 ≤ b) (_h1 : b ≤ 16) (_h2 : 0 ≤ n) (h : 8 < n) :
    Calls Tryd.prog 22 #[.int .i64 b, .int .i64 n] w fun e w' => e = .returned img0 ∧ Below w.heap.size w w' := by
  go_enter Tryd.func22, Tryd.ntmps22
  go_wp2
  exact bodyPost_ret (v := img0) (by simp [results, Tryd.results22, go_sem, img0]) rfl ⟨rfl, (Below.refl _ _).alloc (Nat.le_refl _) _⟩
end Go.Proofs.YtoagnajljdbobabDoor
