/- Contracts of the laws' comparisons of lists and images, and of the specification's small functions. -/
import Derived.Test.YtoagnajljdbobabDoorC
namespace Go.Proofs.YtoagnajljdbobabDoor
open Go.RowKit
attribute [local go_sem ↓] Go.wp_at_zero Go.wp_at_succ

def sameL {α : Type} [DecidableEq α] (a b : List α) : Bool := decide (a = b)
theorem sameL_len {α : Type} [DecidableEq α] {a b : List α} (h : a.length ≠ b.length) : false = sameL a b := by
  unfold sameL; simp; intro e; exact h (by rw [e])
theorem sameL_ne {α : Type} [DecidableEq α] {a b : List α} {k : Nat} (h1 : k < a.length) (h2 : k < b.length) (h : a[k] ≠ b[k]) : false = sameL a b := by
  unfold sameL; simp; rintro rfl; exact h rfl
theorem sameL_all {α : Type} [DecidableEq α] {a b : List α} (h : a.length = b.length) (hp : ∀ (j : Nat) (h1 : j < a.length) (h2 : j < b.length), a[j] = b[j]) : true = sameL a b := by
  unfold sameL; simp; exact List.ext_getElem h fun i h1 h2 => hp i h1 h2
/-- the first k elements agree -/
def agree {α : Type} (a b : List α) (k : Nat) : Prop := ∀ (j : Nat) (h1 : j < a.length) (h2 : j < b.length), j < k → a[j] = b[j]
theorem agree_zero {α : Type} (a b : List α) : agree a b 0 := fun _ _ _ h => absurd h (by omega)
theorem agree_succ {α : Type} {a b : List α} {k : Nat} (h : agree a b k) (h1 : k < a.length) (h2 : k < b.length) (e : a[k] = b[k]) : agree a b (k + 1) := by
  intro j g1 g2 hj
  rcases Nat.lt_or_ge j k with h' | h'
  · exact h j g1 g2 h'
  · obtain rfl : j = k := by omega
    exact e
end Go.Proofs.YtoagnajljdbobabDoor
