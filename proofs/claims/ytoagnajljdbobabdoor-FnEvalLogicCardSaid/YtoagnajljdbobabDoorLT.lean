/- The table of columns: what a row's list gives; a world in which it lies. -/
import Derived.Test.YtoagnajljdbobabDoorIp
import Derived.Test.YtoagnajljdbobabDoorCards
import Derived.WalkKit
import Derived.ProofKit
import Derived.OpenShut
import Derived.Deep.DeepHandedRow
import Derived.Lib.LaidTab
namespace Go.Proofs.YtoagnajljdbobabDoor
open Go.ChangeShapes Go.WideShapes Go.ChangeAt Go.RowKit

theorem gTab : Tryd.prog.globalNamed "loop.example/plcruntime/impl.tableColumns" = some 0 := by kernel_rfl
theorem gTabType : (Tryd.prog.globals[0]?).map (·.type) = some 72 := by kernel_rfl
theorem tabCells : Tryd.prog.cellsOf 72 = 6 := by kernel_rfl
theorem rowCells : Tryd.prog.cellsOf 52 = 1 := by kernel_rfl
theorem table {W : World} (h : laidMetH Tryd.prog [("loop.example/plcruntime/impl.tableColumns", Rows.laid_loop_example_plcruntime_impl_tableColumns)] W) : Lib.TabIs Tryd.prog W "loop.example/plcruntime/impl.tableColumns" .u64 [12297829382473034410, 14757395258967641292, 17361641481138401520, 18374966859414961920, 18446462603027742720, 18446744069414584320] :=
  Lib.tabIs_of_head (rest := []) gTab gTabType Tryd.underlying72 Tryd.underlying52 rowCells tabCells h
theorem tab_of {W : World} (h : laidMetH Tryd.prog [("loop.example/plcruntime/impl.tableColumns", Rows.laid_loop_example_plcruntime_impl_tableColumns)] W) : Tab W := by
  have hT := table h
  have key : ∀ k, k < 6 → W.cell? ⟨0, k, none⟩ = some (.int .u64 (colN k)) := by
    intro k hk
    rw [hT.cell gTab k (by simpa using hk)]
    match k, hk with
    | 0, _ => rfl
    | 1, _ => rfl
    | 2, _ => rfl
    | 3, _ => rfl
    | 4, _ => rfl
    | 5, _ => rfl
  exact ⟨World.block_lt_of_cell? W _ (key 0 (by omega)), key⟩
noncomputable def laidW (os : Os) : World :=
  { World.holding Tryd.prog os ⟨#[], #[], []⟩ with heap := (World.holding Tryd.prog os ⟨#[], #[], []⟩).heap.modify 0 fun
      | .cells _ t frozen => .cells #[.int .u64 12297829382473034410, .int .u64 14757395258967641292, .int .u64 17361641481138401520, .int .u64 18374966859414961920, .int .u64 18446462603027742720, .int .u64 18446744069414584320] t frozen
      | o => o }
end Go.Proofs.YtoagnajljdbobabDoor
