/- The law of LogicEquivalent: its walk. -/
import Derived.Test.YtoagnajljdbobabDoorWD
import Derived.Test.YtoagnajljdbobabDoorWT
import Derived.Test.YtoagnajljdbobabDoorDE
import Derived.Test.YtoagnajljdbobabDoorSn
namespace Go.Proofs.YtoagnajljdbobabDoor
open Go.RowKit
attribute [local go_sem ↓] Go.wp_at_zero Go.wp_at_succ

theorem negL_fit (l : List Nd) (h : ∀ x ∈ l, ndFit x) : ∀ x ∈ negL l, ndFit x := by
  intro x hx
  unfold negL at hx
  split at hx
  · split at hx
    · exact h x ((List.dropLast_sublist l).mem hx)
    · split at hx
      · simp at hx
      · rcases List.mem_append.1 hx with h' | h'
        · exact h x h'
        · obtain rfl := List.mem_singleton.1 h'; simp [ndFit]
  · simp at hx
theorem NodesR.fits {w : World} {B : Nat} {v : Value} {l : List Nd} (h : NodesR w B v l) : ∀ x ∈ l, ndFit x := by
  obtain ⟨_, _, _, _, _, hf⟩ := h; exact hf
end Go.Proofs.YtoagnajljdbobabDoor
