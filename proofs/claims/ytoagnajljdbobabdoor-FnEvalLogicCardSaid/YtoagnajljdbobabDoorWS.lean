/- sameNodes: two slices that hold the same elements. -/
import Derived.Test.YtoagnajljdbobabDoorWP
import Derived.Test.YtoagnajljdbobabDoorDD
import Derived.Test.YtoagnajljdbobabDoorW
import Derived.Test.YtoagnajljdbobabDoorS
import Derived.Laws.StructEq
namespace Go.Proofs.YtoagnajljdbobabDoor
open Go.RowKit
attribute [local go_sem ↓] Go.wp_at_zero Go.wp_at_succ

theorem eqNd (a b : Int) (w : World) : (binOp .neq 49 (.agg #[.int .i64 a, .int .i64 b]) (.agg #[.int .i64 a, .int .i64 b])).run Tryd.prog w = .ok (.bool false) w := by
  have u3 := Tryd.underlying3
  have a3 := Tryd.isAgg3
  have z3 := Tryd.sizeOf3
  have hS : Tryd.prog.underlying 49 = some (.struct (Tryd.prog.fieldsOf 49)) := by kernel_rfl
  have hp : Tryd.prog.stoodInHeld 49 = false := by kernel_rfl
  rw [run_neq_struct]
  rw [show (10000 : Nat) = 9999 + 1 from rfl, run_equalIn_agg w 9999 _ _ _ hS hp]
  simp only [Program.fieldsOf, Tryd.underlying49]
  go_simp
end Go.Proofs.YtoagnajljdbobabDoor
