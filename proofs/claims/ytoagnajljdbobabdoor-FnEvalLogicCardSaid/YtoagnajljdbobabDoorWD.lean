/- The law of LogicDepends: its walk. -/
import Derived.Test.YtoagnajljdbobabDoorWT
import Derived.Test.YtoagnajljdbobabDoorSo
namespace Go.Proofs.YtoagnajljdbobabDoor
open Go.RowKit
attribute [local go_sem ↓] Go.wp_at_zero Go.wp_at_succ

theorem negL_len (l : List Nd) : (negL l).length ≤ l.length + 1 := by
  unfold negL
  repeat' split
  all_goals simp
  omega
theorem negL_sm (l : List Nd) (h : ∀ x ∈ l, smN x) : ∀ x ∈ negL l, smN x := by
  intro x hx
  unfold negL at hx
  split at hx
  · split at hx
    · exact h x ((List.dropLast_sublist l).mem hx)
    · split at hx
      · simp at hx
      · rcases List.mem_append.1 hx with h' | h'
        · exact h x h'
        · obtain rfl := List.mem_singleton.1 h'; simp [smN]
  · simp at hx
theorem OwnN.readS {w : World} {b : Nat} {v : Value} {l : List Nd} (h : OwnN w b v l) (hl : l.length ≤ 100) (hs : ∀ x ∈ l, smN x) : NodesR w w.heap.size v l :=
  h.read (by omega) fun x hx => (hs x hx).fit
/-- the first k rows do not turn with bit j -/
def stillB (l : List Nd) (j k : Nat) : Bool := (List.range k).all fun x => row l x == row l (x ^^^ 2 ^ j)
theorem stillB_succ (l : List Nd) (j k : Nat) : stillB l j (k + 1) = (stillB l j k && (row l k == row l (k ^^^ 2 ^ j))) := by
  unfold stillB; rw [List.range_succ, List.all_append]; simp
end Go.Proofs.YtoagnajljdbobabDoor
