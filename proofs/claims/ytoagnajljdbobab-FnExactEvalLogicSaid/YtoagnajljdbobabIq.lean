/- Truth tables, equivalence, dependence: the program's functions. -/
import Derived.Test.YtoagnajljdbobabIp
namespace Go.Proofs.Ytoagnajljdbobab
open Go.RowKit
attribute [local go_sem ↓] Go.wp_at_zero Go.wp_at_succ

theorem ttOK_parts {l : List Nd} {n : Int} (h : ttOK l n = true) : 0 ≤ n ∧ n ≤ 6 ∧ lvalid l n = true := by
  unfold ttOK at h; simp at h; exact ⟨h.1.1, h.1.2, h.2⟩
def tabF (l : List Nd) (n : Int) : List Bool := if ttOK l n then tabL l n.toNat else []
theorem rows_tab {l : List Nd} {n : Nat} (h : lvalid l n = true) (h6 : n ≤ 6) : rowsOf (tabN l) (2 ^ n) = tabL l n := by
  unfold rowsOf tabL
  apply List.map_congr_left
  intro x hx
  have := List.mem_range.1 hx
  have h64 := pow_le64 h6
  exact tabN_bit h (by omega) x (by omega)
theorem tabF_small (l : List Nd) (n : Int) : (tabF l n).length ≤ 64 := by
  unfold tabF
  split
  · rename_i h
    obtain ⟨h0, h6, -⟩ := ttOK_parts h
    rw [tabL_length]
    exact pow_le64 (by omega)
  · simp
def OwnBP (l : List Bool) (w : World) (e : Ending) (w' : World) : Prop := ∃ v, e = .returned v ∧ OwnB w' w.heap.size v l ∧ Below w.heap.size w w'
theorem shl_pow : ∀ m, m < 7 → (1 : Int) * 2 ^ m = ((2 ^ m : Nat) : Int) := by intro m _; simp
def eqvI (a b : List Nd) (n : Int) : Bool := ttOK a n && ttOK b n && decide (tabN a = tabN b)
def depI (l : List Nd) (n bit : Int) : Bool := ttOK l n && decide (0 ≤ bit) && decide (bit < n) && decide (depN (tabN l) bit.toNat ≠ 0)
end Go.Proofs.Ytoagnajljdbobab
