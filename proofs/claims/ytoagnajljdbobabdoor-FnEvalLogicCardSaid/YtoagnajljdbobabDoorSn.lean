/- The specification's equivalence, dependence, evaluation, negation, used bits. -/
import Derived.Test.YtoagnajljdbobabDoorSm
import Derived.Test.YtoagnajljdbobabDoorS
namespace Go.Proofs.YtoagnajljdbobabDoor
open Go.RowKit
attribute [local go_sem ↓] Go.wp_at_zero Go.wp_at_succ

def eqvS (xs ys : List Bool) : Bool := decide (xs.length ≠ 0) && decide (xs = ys)
theorem eqvS_tab (a b : List Nd) (n : Int) : eqvS (tabF a n) (tabF b n) = eqvI a b n := by
  unfold eqvS eqvI tabF
  cases ha : ttOK a n
  · simp
  · obtain ⟨h0, h6, hv⟩ := ttOK_parts ha
    obtain ⟨m, rfl⟩ := Int.eq_ofNat_of_zero_le h0
    have hp : 2 ^ m ≠ 0 := Nat.pos_iff_ne_zero.1 (Nat.two_pow_pos m)
    cases hb : ttOK b m
    · simp only [if_true, Bool.false_eq_true, if_false]
      rw [decide_eq_false (p := tabL a (m : Int).toNat = []) (by intro e; have := congrArg List.length e; rw [tabL_length] at this; simp at this)]
      simp
    · obtain ⟨-, -, hv2⟩ := ttOK_parts hb
      simp only [if_true]
      rw [rows_eq (n := m) hv hv2 (by omega), tabL_length]
      simp
theorem eqv_no0 {xs ys : List Bool} (h : xs.length = 0) : eqvS xs ys = false := by unfold eqvS; simp [h]
theorem eqv_nol {xs ys : List Bool} (h : xs.length ≠ ys.length) : eqvS xs ys = false := by
  unfold eqvS; rw [decide_eq_false (p := xs = ys) (fun e => h (by rw [e]))]; simp
theorem eqv_ne {xs ys : List Bool} {k : Nat} (h1 : k < xs.length) (h2 : k < ys.length) (h : xs[k] ≠ ys[k]) : eqvS xs ys = false := by
  unfold eqvS; rw [decide_eq_false (p := xs = ys) (fun e => h (by subst e; rfl))]; simp
theorem eqv_yes {xs ys : List Bool} (h0 : xs.length ≠ 0) (h : xs.length = ys.length) (hp : ∀ (j : Nat) (h1 : j < xs.length) (h2 : j < ys.length), xs[j] = ys[j]) : eqvS xs ys = true := by
  unfold eqvS; rw [decide_eq_true h0, decide_eq_true (List.ext_getElem h fun i h1 h2 => hp i h1 h2)]; rfl
end Go.Proofs.YtoagnajljdbobabDoor
