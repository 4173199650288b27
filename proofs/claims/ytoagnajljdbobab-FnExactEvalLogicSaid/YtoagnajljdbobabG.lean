/- Contracts of chapter 1: new images and changed images, by the program and by the specification. -/
import Derived.Test.YtoagnajljdbobabE
namespace Go.Proofs.Ytoagnajljdbobab
open Go.RowKit
attribute [local go_sem ↓] Go.wp_at_zero Go.wp_at_succ

theorem run_mk {t e : TypeId} {z : Value} {by_ : Nat} {P : Program} (E : Elem P t e z 1 by_) (n : Int) (h0 : 0 ≤ n) (hn : n ≤ 1000) (hby : by_ ≤ 1000) (w : World) :
    (Instr.makeSlice t (.int .i64 n) (.int .i64 n)).run P w = .ok (.slice (some ⟨w.heap.size, 0, none⟩) n.toNat n.toNat) (w.alloc (.cells (madeCells z.cells n.toNat) e)) := by
  obtain ⟨k, rfl⟩ := Int.eq_ofNat_of_zero_le h0
  obtain ⟨i, hi, hz, hs1, hb1⟩ := info_parts E.info
  have hr := run_make (P := P) w t e i z E.under hi hz .i64 .i64 k k (by omega) (Int.le_refl _) (by rw [hb1]; have : (by_ : Int) * (k : Int) ≤ 1000 * 1000 := Int.mul_le_mul (by omega) (by omega) (by omega) (by omega); omega) (by omega)
  simpa [hs1] using hr
theorem own_madeI {W : World} {n g : Nat} (hg : W.heap.size = g) (hn : n ≤ 1000) : OwnI (W.alloc (.cells (madeCells #[Value.int .i64 0] n) 3)) g (.slice (some ⟨g, 0, none⟩) n n) (List.replicate n 0) := by
  subst hg
  have h := World.ownsRow_lit (base := W.heap.size) (e := 3) (size := 1) W (madeCells #[Value.int .i64 0] n) n (Nat.le_refl _) (by unfold maxLen; omega) (by simp [madeCells])
  rw [toList_madeCells_one] at h
  unfold OwnI
  simpa using h
theorem own_madeB {W : World} {n g : Nat} (hg : W.heap.size = g) (hn : n ≤ 1000) : OwnB (W.alloc (.cells (madeCells #[Value.bool false] n) 4)) g (.slice (some ⟨g, 0, none⟩) n n) (List.replicate n false) := by
  subst hg
  have h := World.ownsRow_lit (base := W.heap.size) (e := 4) (size := 1) W (madeCells #[Value.bool false] n) n (Nat.le_refl _) (by unfold maxLen; omega) (by simp [madeCells])
  rw [toList_madeCells_one] at h
  unfold OwnB
  simpa using h
def newM (b w : Int) : Img := if 0 ≤ b ∧ b ≤ 16 ∧ 0 ≤ w ∧ w ≤ 8 then ⟨List.replicate b.toNat false, List.replicate w.toNat 0⟩ else ⟨[], []⟩
theorem own_img0 (w : World) (base : Nat) : OwnM w base img0 ⟨[], []⟩ := ⟨_, _, rfl, World.ownsRow_nil _ _ _ _, World.ownsRow_nil _ _ _ _⟩
theorem newM_bad {b n : Int} (h : ¬ (0 ≤ b ∧ b ≤ 16 ∧ 0 ≤ n ∧ n ≤ 8)) : newM b n = ⟨[], []⟩ := if_neg h
theorem own_2set {W : World} {b e sz k n : Nat} {v : Value} {xs : List Value} (h : W.ownsRow b e sz v k xs) (hn : n < b) (x y : Value) : ((W.setCell ⟨n, 0, none⟩ x).setCell ⟨n, 1, none⟩ y).ownsRow b e sz v k xs :=
  ownsRow_setCell_below (a := ⟨n, 1, none⟩) (ownsRow_setCell_below (a := ⟨n, 0, none⟩) h hn _) hn _
end Go.Proofs.Ytoagnajljdbobab
