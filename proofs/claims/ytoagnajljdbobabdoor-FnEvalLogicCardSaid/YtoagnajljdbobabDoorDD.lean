/- Contracts of the draws of chapter 2. -/
import Derived.Test.YtoagnajljdbobabDoorDB
namespace Go.Proofs.YtoagnajljdbobabDoor
open Go.RowKit
attribute [local go_sem ↓] Go.wp_at_zero Go.wp_at_succ

theorem BytesR.form {w : World} {B : Nat} {v : Value} {l : List Int} (h : BytesR w B v l) : ∃ A n c, v = .slice A n c := by
  obtain ⟨A, c, rfl, -⟩ := h; exact ⟨A, _, c, rfl⟩
theorem OwnS.rdB {w w' : World} {base g off cap : Nat} {l : List Nd} (h : OwnS w base (.slice (some ⟨g, off, none⟩) l.length cap) l) (hb : Below w.heap.size w w') :
    Rd w' w'.heap.size 2 (some ⟨g, off, none⟩) l.length (cellsN l) := by
  obtain ⟨g1, off1, cap1, hv1, -, -, hrd⟩ := (h.below hb).form
  injection hv1 with hA _ hc
  rw [hA]
  exact hrd
theorem len_snoc (l : List Nd) (x : Nd) : (l ++ [x]).length = l.length + 1 := by simp
theorem fit_snoc {l : List Nd} (h : ∀ y ∈ l, ndFit y) (x : Nd) (hx : ndFit x) : ∀ y ∈ l ++ [x], ndFit y := by
  intro y hy
  rcases List.mem_append.1 hy with h' | h'
  · exact h y h'
  · obtain rfl := List.mem_singleton.1 h'; exact hx
theorem expr_z (g P : Nat) (z bad : Int) (w : World) (hw : Rdr w g P) (hP : P + 200 ≤ 1000000) (h0 : 0 ≤ z) (hz : z ≤ 1000) (hb1 : -1000000 ≤ bad) (hb2 : bad ≤ 1000000) :
    Calls Tryd.prog 14 #[.pointer (some ⟨g, 0, none⟩), .int .i64 z, .int .i64 bad] w (ExprPost g P w) := by
  obtain ⟨n, rfl⟩ := Int.eq_ofNat_of_zero_le h0
  exact expr_any g P n bad w hw hP (by omega) hb1 hb2
def DrawNP (lo hi : Int) (w : World) (e : Ending) (w' : World) : Prop := ∃ v l n, e = .returned (.tuple #[v, .int .i64 n]) ∧ OwnS w' w.heap.size v l ∧ l.length ≤ 44 ∧ (∀ x ∈ l, smN x) ∧ (lo ≤ n ∧ n ≤ hi) ∧ Below w.heap.size w w'
def DrawNN (w : World) (e : Ending) (w' : World) : Prop := ∃ v l, e = .returned v ∧ OwnS w' w.heap.size v l ∧ l.length ≤ 44 ∧ (∀ x ∈ l, smN x) ∧ Below w.heap.size w w'
def DrawDP (w : World) (e : Ending) (w' : World) : Prop := ∃ v l n b, e = .returned (.tuple #[v, .int .i64 n, .int .i64 b]) ∧ OwnS w' w.heap.size v l ∧ l.length ≤ 44 ∧ (∀ x ∈ l, smN x) ∧ (1 ≤ n ∧ n ≤ 4) ∧ (-1 ≤ b ∧ b ≤ 6) ∧ Below w.heap.size w w'
end Go.Proofs.YtoagnajljdbobabDoor
