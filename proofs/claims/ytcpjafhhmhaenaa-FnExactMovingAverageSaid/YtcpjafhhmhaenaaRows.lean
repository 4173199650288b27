/-
  No cell of these rows narrows 'for every input' (looked for: loops, veiled, ifaces, maps, wideKeys, modest, calm, conditions, laid).
  DERIVED. THE GIVEN ROWS OF THIS SEAT. 15 by the template 'for every input the law returns true; each argument reads behind the call as it read before'; 0 by the template 'total and deterministic' (their statements: YtcpjafhhmhaenaaTotals.lean).
  GIVEN WITH THE SEED: the statements are not yours to turn. If you find one false, say at which input.
  Laid BY PROGRAM, IN A SANDBOX (cutbox-rows.mjs): the forced cells as the released guide's own fill.sh prints them over the translation f48b45b61d17cc5a… (all of the seat's roots in one cut). By AI agents, Wed Nov 11 2026. No macro, syntax, notation, axiom, sorry.
-/
import Derived.Test.YtcpjafhhmhaenaaChecked
import GoSem.Claim
import GoSem.ClaimJoined
import GoSem.ClaimMapViews
import Derived.JoinedTies
import Derived.KernelRfl
namespace Go.Proofs.Ytcpjafhhmhaenaa
/- THE CELL 'sum', in the pinned program and in every row, IS THE sha256 OF THE DUMP (.gsa) THAT YtcpjafhhmhaenaaProg.lean LOADS. Nothing in Lean hashes anything: it is a label: what it is worth is what the hold of that sum in a sandbox is worth. -/
noncomputable def Try.pinned : Pinned := { name := "ytcpjafhhmhaenaa", sum := "f48b45b61d17cc5aa95d79da1a012b3416eda6534d1ad9d7578d400148e7010e", checked := Try.checked }
namespace Rows
def none {H : Type} : Left H := { results := [], args := [] }

/-- 'laws.FnAddSaturated': WHATEVER THE INPUT: true; the input reads as it did. -/
def fnAddSaturatedSpec : ChangeSpec := { name := "fnAddSaturated", fn := fun _ => fun
  | [d] => { results := [.lit (.bool true)], args := [d] }
  | _ => none }
def fnAddSaturatedRow : OpenClaim := { program := "ytcpjafhhmhaenaa", sum := "f48b45b61d17cc5aa95d79da1a012b3416eda6534d1ad9d7578d400148e7010e", func := "loop.example/plcruntime/laws.FnAddSaturated", spec := "fnAddSaturated", apart := false }
def FnAddSaturatedSaid : Prop := fnAddSaturatedRow.holds Try.pinned (OpenSpec.ofChange fnAddSaturatedSpec)

/-- ITS FALSE NEIGHBOUR: 'it returns false'. Refute it at one input. -/
def fnAddSaturatedWrong : ChangeSpec := { name := "fnAddSaturated", fn := fun _ => fun
  | [d] => { results := [.lit (.bool false)], args := [d] }
  | _ => none }
def FnAddSaturatedWrongFalsely : Prop := fnAddSaturatedRow.holds Try.pinned (OpenSpec.ofChange fnAddSaturatedWrong)

/-- 'laws.FnScaleWord': WHATEVER THE INPUT: true; the input reads as it did. -/
def fnScaleWordSpec : ChangeSpec := { name := "fnScaleWord", fn := fun _ => fun
  | [d] => { results := [.lit (.bool true)], args := [d] }
  | _ => none }
def fnScaleWordRow : OpenClaim := { program := "ytcpjafhhmhaenaa", sum := "f48b45b61d17cc5aa95d79da1a012b3416eda6534d1ad9d7578d400148e7010e", func := "loop.example/plcruntime/laws.FnScaleWord", spec := "fnScaleWord", apart := false }
def FnScaleWordSaid : Prop := fnScaleWordRow.holds Try.pinned (OpenSpec.ofChange fnScaleWordSpec)

/-- ITS FALSE NEIGHBOUR: 'it returns false'. Refute it at one input. -/
def fnScaleWordWrong : ChangeSpec := { name := "fnScaleWord", fn := fun _ => fun
  | [d] => { results := [.lit (.bool false)], args := [d] }
  | _ => none }
def FnScaleWordWrongFalsely : Prop := fnScaleWordRow.holds Try.pinned (OpenSpec.ofChange fnScaleWordWrong)

/-- 'laws.FnHysteresis': WHATEVER THE INPUT: true; the input reads as it did. -/
def fnHysteresisSpec : ChangeSpec := { name := "fnHysteresis", fn := fun _ => fun
  | [d] => { results := [.lit (.bool true)], args := [d] }
  | _ => none }
def fnHysteresisRow : OpenClaim := { program := "ytcpjafhhmhaenaa", sum := "f48b45b61d17cc5aa95d79da1a012b3416eda6534d1ad9d7578d400148e7010e", func := "loop.example/plcruntime/laws.FnHysteresis", spec := "fnHysteresis", apart := false }
def FnHysteresisSaid : Prop := fnHysteresisRow.holds Try.pinned (OpenSpec.ofChange fnHysteresisSpec)

/-- ITS FALSE NEIGHBOUR: 'it returns false'. Refute it at one input. -/
def fnHysteresisWrong : ChangeSpec := { name := "fnHysteresis", fn := fun _ => fun
  | [d] => { results := [.lit (.bool false)], args := [d] }
  | _ => none }
def FnHysteresisWrongFalsely : Prop := fnHysteresisRow.holds Try.pinned (OpenSpec.ofChange fnHysteresisWrong)

/-- 'laws.FnRampStep': WHATEVER THE INPUT: true; the input reads as it did. -/
def fnRampStepSpec : ChangeSpec := { name := "fnRampStep", fn := fun _ => fun
  | [d] => { results := [.lit (.bool true)], args := [d] }
  | _ => none }
def fnRampStepRow : OpenClaim := { program := "ytcpjafhhmhaenaa", sum := "f48b45b61d17cc5aa95d79da1a012b3416eda6534d1ad9d7578d400148e7010e", func := "loop.example/plcruntime/laws.FnRampStep", spec := "fnRampStep", apart := false }
def FnRampStepSaid : Prop := fnRampStepRow.holds Try.pinned (OpenSpec.ofChange fnRampStepSpec)

/-- ITS FALSE NEIGHBOUR: 'it returns false'. Refute it at one input. -/
def fnRampStepWrong : ChangeSpec := { name := "fnRampStep", fn := fun _ => fun
  | [d] => { results := [.lit (.bool false)], args := [d] }
  | _ => none }
def FnRampStepWrongFalsely : Prop := fnRampStepRow.holds Try.pinned (OpenSpec.ofChange fnRampStepWrong)

/-- 'laws.FnDeadBand': WHATEVER THE INPUT: true; the input reads as it did. -/
def fnDeadBandSpec : ChangeSpec := { name := "fnDeadBand", fn := fun _ => fun
  | [d] => { results := [.lit (.bool true)], args := [d] }
  | _ => none }
def fnDeadBandRow : OpenClaim := { program := "ytcpjafhhmhaenaa", sum := "f48b45b61d17cc5aa95d79da1a012b3416eda6534d1ad9d7578d400148e7010e", func := "loop.example/plcruntime/laws.FnDeadBand", spec := "fnDeadBand", apart := false }
def FnDeadBandSaid : Prop := fnDeadBandRow.holds Try.pinned (OpenSpec.ofChange fnDeadBandSpec)

/-- ITS FALSE NEIGHBOUR: 'it returns false'. Refute it at one input. -/
def fnDeadBandWrong : ChangeSpec := { name := "fnDeadBand", fn := fun _ => fun
  | [d] => { results := [.lit (.bool false)], args := [d] }
  | _ => none }
def FnDeadBandWrongFalsely : Prop := fnDeadBandRow.holds Try.pinned (OpenSpec.ofChange fnDeadBandWrong)

/-- 'laws.FnMovingAverage': WHATEVER THE INPUT: true; the input reads as it did. -/
def fnMovingAverageSpec : ChangeSpec := { name := "fnMovingAverage", fn := fun _ => fun
  | [d] => { results := [.lit (.bool true)], args := [d] }
  | _ => none }
def fnMovingAverageRow : OpenClaim := { program := "ytcpjafhhmhaenaa", sum := "f48b45b61d17cc5aa95d79da1a012b3416eda6534d1ad9d7578d400148e7010e", func := "loop.example/plcruntime/laws.FnMovingAverage", spec := "fnMovingAverage", apart := false }
def FnMovingAverageSaid : Prop := fnMovingAverageRow.holds Try.pinned (OpenSpec.ofChange fnMovingAverageSpec)

/-- ITS FALSE NEIGHBOUR: 'it returns false'. Refute it at one input. -/
def fnMovingAverageWrong : ChangeSpec := { name := "fnMovingAverage", fn := fun _ => fun
  | [d] => { results := [.lit (.bool false)], args := [d] }
  | _ => none }
def FnMovingAverageWrongFalsely : Prop := fnMovingAverageRow.holds Try.pinned (OpenSpec.ofChange fnMovingAverageWrong)

/-- 'laws.FnMedianOf': WHATEVER THE INPUT: true; the input reads as it did. -/
def fnMedianOfSpec : ChangeSpec := { name := "fnMedianOf", fn := fun _ => fun
  | [d] => { results := [.lit (.bool true)], args := [d] }
  | _ => none }
def fnMedianOfRow : OpenClaim := { program := "ytcpjafhhmhaenaa", sum := "f48b45b61d17cc5aa95d79da1a012b3416eda6534d1ad9d7578d400148e7010e", func := "loop.example/plcruntime/laws.FnMedianOf", spec := "fnMedianOf", unfollowed := true, recurses := true, apart := false }
def FnMedianOfSaid : Prop := fnMedianOfRow.holds Try.pinned (OpenSpec.ofChange fnMedianOfSpec)

/-- ITS FALSE NEIGHBOUR: 'it returns false'. Refute it at one input. -/
def fnMedianOfWrong : ChangeSpec := { name := "fnMedianOf", fn := fun _ => fun
  | [d] => { results := [.lit (.bool false)], args := [d] }
  | _ => none }
def FnMedianOfWrongFalsely : Prop := fnMedianOfRow.holds Try.pinned (OpenSpec.ofChange fnMedianOfWrong)

/-- 'laws.FnPumpLadder': WHATEVER THE INPUT: true; the input reads as it did. -/
def fnPumpLadderSpec : ChangeSpec := { name := "fnPumpLadder", fn := fun _ => fun
  | [d] => { results := [.lit (.bool true)], args := [d] }
  | _ => none }
def fnPumpLadderRow : OpenClaim := { program := "ytcpjafhhmhaenaa", sum := "f48b45b61d17cc5aa95d79da1a012b3416eda6534d1ad9d7578d400148e7010e", func := "loop.example/plcruntime/laws.FnPumpLadder", spec := "fnPumpLadder", apart := false }
def FnPumpLadderSaid : Prop := fnPumpLadderRow.holds Try.pinned (OpenSpec.ofChange fnPumpLadderSpec)

/-- ITS FALSE NEIGHBOUR: 'it returns false'. Refute it at one input. -/
def fnPumpLadderWrong : ChangeSpec := { name := "fnPumpLadder", fn := fun _ => fun
  | [d] => { results := [.lit (.bool false)], args := [d] }
  | _ => none }
def FnPumpLadderWrongFalsely : Prop := fnPumpLadderRow.holds Try.pinned (OpenSpec.ofChange fnPumpLadderWrong)

/-- 'laws.FnExactAddSaturated': WHATEVER THE INPUT: true; the input reads as it did. -/
def fnExactAddSaturatedSpec : ChangeSpec := { name := "fnExactAddSaturated", fn := fun _ => fun
  | [d1, d2] => { results := [.lit (.bool true)], args := [d1, d2] }
  | _ => none }
def fnExactAddSaturatedRow : OpenClaim := { program := "ytcpjafhhmhaenaa", sum := "f48b45b61d17cc5aa95d79da1a012b3416eda6534d1ad9d7578d400148e7010e", func := "loop.example/plcruntime/laws.FnExactAddSaturated", spec := "fnExactAddSaturated", apart := false }
def FnExactAddSaturatedSaid : Prop := fnExactAddSaturatedRow.holds Try.pinned (OpenSpec.ofChange fnExactAddSaturatedSpec)

/-- ITS FALSE NEIGHBOUR: 'it returns false'. Refute it at one input. -/
def fnExactAddSaturatedWrong : ChangeSpec := { name := "fnExactAddSaturated", fn := fun _ => fun
  | [d1, d2] => { results := [.lit (.bool false)], args := [d1, d2] }
  | _ => none }
def FnExactAddSaturatedWrongFalsely : Prop := fnExactAddSaturatedRow.holds Try.pinned (OpenSpec.ofChange fnExactAddSaturatedWrong)

/-- 'laws.FnExactScaleWord': WHATEVER THE INPUT: true; the input reads as it did. -/
def fnExactScaleWordSpec : ChangeSpec := { name := "fnExactScaleWord", fn := fun _ => fun
  | [d1, d2, d3, d4, d5] => { results := [.lit (.bool true)], args := [d1, d2, d3, d4, d5] }
  | _ => none }
def fnExactScaleWordRow : OpenClaim := { program := "ytcpjafhhmhaenaa", sum := "f48b45b61d17cc5aa95d79da1a012b3416eda6534d1ad9d7578d400148e7010e", func := "loop.example/plcruntime/laws.FnExactScaleWord", spec := "fnExactScaleWord", apart := false }
def FnExactScaleWordSaid : Prop := fnExactScaleWordRow.holds Try.pinned (OpenSpec.ofChange fnExactScaleWordSpec)

/-- ITS FALSE NEIGHBOUR: 'it returns false'. Refute it at one input. -/
def fnExactScaleWordWrong : ChangeSpec := { name := "fnExactScaleWord", fn := fun _ => fun
  | [d1, d2, d3, d4, d5] => { results := [.lit (.bool false)], args := [d1, d2, d3, d4, d5] }
  | _ => none }
def FnExactScaleWordWrongFalsely : Prop := fnExactScaleWordRow.holds Try.pinned (OpenSpec.ofChange fnExactScaleWordWrong)

/-- 'laws.FnExactHysteresis': WHATEVER THE INPUT: true; the input reads as it did. -/
def fnExactHysteresisSpec : ChangeSpec := { name := "fnExactHysteresis", fn := fun _ => fun
  | [d1, d2, d3, d4] => { results := [.lit (.bool true)], args := [d1, d2, d3, d4] }
  | _ => none }
def fnExactHysteresisRow : OpenClaim := { program := "ytcpjafhhmhaenaa", sum := "f48b45b61d17cc5aa95d79da1a012b3416eda6534d1ad9d7578d400148e7010e", func := "loop.example/plcruntime/laws.FnExactHysteresis", spec := "fnExactHysteresis", apart := false }
def FnExactHysteresisSaid : Prop := fnExactHysteresisRow.holds Try.pinned (OpenSpec.ofChange fnExactHysteresisSpec)

/-- ITS FALSE NEIGHBOUR: 'it returns false'. Refute it at one input. -/
def fnExactHysteresisWrong : ChangeSpec := { name := "fnExactHysteresis", fn := fun _ => fun
  | [d1, d2, d3, d4] => { results := [.lit (.bool false)], args := [d1, d2, d3, d4] }
  | _ => none }
def FnExactHysteresisWrongFalsely : Prop := fnExactHysteresisRow.holds Try.pinned (OpenSpec.ofChange fnExactHysteresisWrong)

/-- 'laws.FnExactRampStep': WHATEVER THE INPUT: true; the input reads as it did. -/
def fnExactRampStepSpec : ChangeSpec := { name := "fnExactRampStep", fn := fun _ => fun
  | [d1, d2, d3] => { results := [.lit (.bool true)], args := [d1, d2, d3] }
  | _ => none }
def fnExactRampStepRow : OpenClaim := { program := "ytcpjafhhmhaenaa", sum := "f48b45b61d17cc5aa95d79da1a012b3416eda6534d1ad9d7578d400148e7010e", func := "loop.example/plcruntime/laws.FnExactRampStep", spec := "fnExactRampStep", apart := false }
def FnExactRampStepSaid : Prop := fnExactRampStepRow.holds Try.pinned (OpenSpec.ofChange fnExactRampStepSpec)

/-- ITS FALSE NEIGHBOUR: 'it returns false'. Refute it at one input. -/
def fnExactRampStepWrong : ChangeSpec := { name := "fnExactRampStep", fn := fun _ => fun
  | [d1, d2, d3] => { results := [.lit (.bool false)], args := [d1, d2, d3] }
  | _ => none }
def FnExactRampStepWrongFalsely : Prop := fnExactRampStepRow.holds Try.pinned (OpenSpec.ofChange fnExactRampStepWrong)

/-- 'laws.FnExactDeadBand': WHATEVER THE INPUT: true; the input reads as it did. -/
def fnExactDeadBandSpec : ChangeSpec := { name := "fnExactDeadBand", fn := fun _ => fun
  | [d1, d2] => { results := [.lit (.bool true)], args := [d1, d2] }
  | _ => none }
def fnExactDeadBandRow : OpenClaim := { program := "ytcpjafhhmhaenaa", sum := "f48b45b61d17cc5aa95d79da1a012b3416eda6534d1ad9d7578d400148e7010e", func := "loop.example/plcruntime/laws.FnExactDeadBand", spec := "fnExactDeadBand", apart := false }
def FnExactDeadBandSaid : Prop := fnExactDeadBandRow.holds Try.pinned (OpenSpec.ofChange fnExactDeadBandSpec)

/-- ITS FALSE NEIGHBOUR: 'it returns false'. Refute it at one input. -/
def fnExactDeadBandWrong : ChangeSpec := { name := "fnExactDeadBand", fn := fun _ => fun
  | [d1, d2] => { results := [.lit (.bool false)], args := [d1, d2] }
  | _ => none }
def FnExactDeadBandWrongFalsely : Prop := fnExactDeadBandRow.holds Try.pinned (OpenSpec.ofChange fnExactDeadBandWrong)

/-- 'laws.FnExactMovingAverage': WHATEVER THE INPUT: true; the input reads as it did. -/
def fnExactMovingAverageSpec : ChangeSpec := { name := "fnExactMovingAverage", fn := fun _ => fun
  | [d1, d2] => { results := [.lit (.bool true)], args := [d1, d2] }
  | _ => none }
def fnExactMovingAverageRow : OpenClaim := { program := "ytcpjafhhmhaenaa", sum := "f48b45b61d17cc5aa95d79da1a012b3416eda6534d1ad9d7578d400148e7010e", func := "loop.example/plcruntime/laws.FnExactMovingAverage", spec := "fnExactMovingAverage", apart := false }
def FnExactMovingAverageSaid : Prop := fnExactMovingAverageRow.holds Try.pinned (OpenSpec.ofChange fnExactMovingAverageSpec)

/-- ITS FALSE NEIGHBOUR: 'it returns false'. Refute it at one input. -/
def fnExactMovingAverageWrong : ChangeSpec := { name := "fnExactMovingAverage", fn := fun _ => fun
  | [d1, d2] => { results := [.lit (.bool false)], args := [d1, d2] }
  | _ => none }
def FnExactMovingAverageWrongFalsely : Prop := fnExactMovingAverageRow.holds Try.pinned (OpenSpec.ofChange fnExactMovingAverageWrong)

/-- 'laws.FnExactMedianOf': WHATEVER THE INPUT: true; the input reads as it did. -/
def fnExactMedianOfSpec : ChangeSpec := { name := "fnExactMedianOf", fn := fun _ => fun
  | [d] => { results := [.lit (.bool true)], args := [d] }
  | _ => none }
def fnExactMedianOfRow : OpenClaim := { program := "ytcpjafhhmhaenaa", sum := "f48b45b61d17cc5aa95d79da1a012b3416eda6534d1ad9d7578d400148e7010e", func := "loop.example/plcruntime/laws.FnExactMedianOf", spec := "fnExactMedianOf", unfollowed := true, recurses := true, apart := false }
def FnExactMedianOfSaid : Prop := fnExactMedianOfRow.holds Try.pinned (OpenSpec.ofChange fnExactMedianOfSpec)

/-- ITS FALSE NEIGHBOUR: 'it returns false'. Refute it at one input. -/
def fnExactMedianOfWrong : ChangeSpec := { name := "fnExactMedianOf", fn := fun _ => fun
  | [d] => { results := [.lit (.bool false)], args := [d] }
  | _ => none }
def FnExactMedianOfWrongFalsely : Prop := fnExactMedianOfRow.holds Try.pinned (OpenSpec.ofChange fnExactMedianOfWrong)

/- THE SECOND FORM. 'bulk': how many values and letters a reading holds, each counted each time it is reached (what is shared counts as often as it is met; a slice's spare places count too). A statement '..UptoSaid' is the law's where the arguments, and the package variables that the reading takes, are together of bulk at most 1048576: NARROWER than '..Said'. Prove '..Said' where nothing that the law and all that it calls make is longer than what came in: it says more and counts as full. Else prove '..UptoSaid'. A law counts once. -/
mutual
def uptoBulk {H : Type} : DataW H → Nat
  | .lit (.string bytes) => bytes.length + 1
  | .lit _ => 1
  | .nil => 1
  | .ptr d => uptoBulk d + 1
  | .slice elems spare => uptoBulkAll elems + uptoBulkAll spare + 1
  | .agg parts => uptoBulkAll parts + 1
  | .iface _ d => uptoBulk d + 1
  | .map entries => uptoBulkEntries entries + 1
  | .held _ => 1
def uptoBulkAll {H : Type} : List (DataW H) → Nat
  | [] => 0
  | d :: r => uptoBulk d + uptoBulkAll r
def uptoBulkEntries {H : Type} : List (Lit × DataW H) → Nat
  | [] => 0
  | x :: r => uptoBulkEntry x + uptoBulkEntries r
def uptoBulkEntry {H : Type} : Lit × DataW H → Nat
  | (.string bytes, d) => bytes.length + uptoBulk d + 1
  | (_, d) => uptoBulk d + 1
 end
def uptoSmall : (H : Type) → List (DataW H) → Bool := fun _ ds => decide (uptoBulkAll ds ≤ 1048576)
def OpenSpec.upto (s : _root_.Go.ChangeSpec) : _root_.Go.OpenSpec := { _root_.Go.OpenSpec.ofChange s with cond := some uptoSmall }

/-- 'laws.FnAddSaturated', WHERE WHAT IT READS IS OF BULK AT MOST 1048576: true; the input reads as it did. -/
def fnAddSaturatedUptoRow : OpenClaim := { program := "ytcpjafhhmhaenaa", sum := "f48b45b61d17cc5aa95d79da1a012b3416eda6534d1ad9d7578d400148e7010e", func := "loop.example/plcruntime/laws.FnAddSaturated", spec := "fnAddSaturated", apart := false, narrowed := true }
def FnAddSaturatedUptoSaid : Prop := fnAddSaturatedUptoRow.holds Try.pinned (OpenSpec.upto fnAddSaturatedSpec)

/-- 'laws.FnScaleWord', WHERE WHAT IT READS IS OF BULK AT MOST 1048576: true; the input reads as it did. -/
def fnScaleWordUptoRow : OpenClaim := { program := "ytcpjafhhmhaenaa", sum := "f48b45b61d17cc5aa95d79da1a012b3416eda6534d1ad9d7578d400148e7010e", func := "loop.example/plcruntime/laws.FnScaleWord", spec := "fnScaleWord", apart := false, narrowed := true }
def FnScaleWordUptoSaid : Prop := fnScaleWordUptoRow.holds Try.pinned (OpenSpec.upto fnScaleWordSpec)

/-- 'laws.FnHysteresis', WHERE WHAT IT READS IS OF BULK AT MOST 1048576: true; the input reads as it did. -/
def fnHysteresisUptoRow : OpenClaim := { program := "ytcpjafhhmhaenaa", sum := "f48b45b61d17cc5aa95d79da1a012b3416eda6534d1ad9d7578d400148e7010e", func := "loop.example/plcruntime/laws.FnHysteresis", spec := "fnHysteresis", apart := false, narrowed := true }
def FnHysteresisUptoSaid : Prop := fnHysteresisUptoRow.holds Try.pinned (OpenSpec.upto fnHysteresisSpec)

/-- 'laws.FnRampStep', WHERE WHAT IT READS IS OF BULK AT MOST 1048576: true; the input reads as it did. -/
def fnRampStepUptoRow : OpenClaim := { program := "ytcpjafhhmhaenaa", sum := "f48b45b61d17cc5aa95d79da1a012b3416eda6534d1ad9d7578d400148e7010e", func := "loop.example/plcruntime/laws.FnRampStep", spec := "fnRampStep", apart := false, narrowed := true }
def FnRampStepUptoSaid : Prop := fnRampStepUptoRow.holds Try.pinned (OpenSpec.upto fnRampStepSpec)

/-- 'laws.FnDeadBand', WHERE WHAT IT READS IS OF BULK AT MOST 1048576: true; the input reads as it did. -/
def fnDeadBandUptoRow : OpenClaim := { program := "ytcpjafhhmhaenaa", sum := "f48b45b61d17cc5aa95d79da1a012b3416eda6534d1ad9d7578d400148e7010e", func := "loop.example/plcruntime/laws.FnDeadBand", spec := "fnDeadBand", apart := false, narrowed := true }
def FnDeadBandUptoSaid : Prop := fnDeadBandUptoRow.holds Try.pinned (OpenSpec.upto fnDeadBandSpec)

/-- 'laws.FnMovingAverage', WHERE WHAT IT READS IS OF BULK AT MOST 1048576: true; the input reads as it did. -/
def fnMovingAverageUptoRow : OpenClaim := { program := "ytcpjafhhmhaenaa", sum := "f48b45b61d17cc5aa95d79da1a012b3416eda6534d1ad9d7578d400148e7010e", func := "loop.example/plcruntime/laws.FnMovingAverage", spec := "fnMovingAverage", apart := false, narrowed := true }
def FnMovingAverageUptoSaid : Prop := fnMovingAverageUptoRow.holds Try.pinned (OpenSpec.upto fnMovingAverageSpec)

/-- 'laws.FnMedianOf', WHERE WHAT IT READS IS OF BULK AT MOST 1048576: true; the input reads as it did. -/
def fnMedianOfUptoRow : OpenClaim := { program := "ytcpjafhhmhaenaa", sum := "f48b45b61d17cc5aa95d79da1a012b3416eda6534d1ad9d7578d400148e7010e", func := "loop.example/plcruntime/laws.FnMedianOf", spec := "fnMedianOf", unfollowed := true, recurses := true, apart := false, narrowed := true }
def FnMedianOfUptoSaid : Prop := fnMedianOfUptoRow.holds Try.pinned (OpenSpec.upto fnMedianOfSpec)

/-- 'laws.FnPumpLadder', WHERE WHAT IT READS IS OF BULK AT MOST 1048576: true; the input reads as it did. -/
def fnPumpLadderUptoRow : OpenClaim := { program := "ytcpjafhhmhaenaa", sum := "f48b45b61d17cc5aa95d79da1a012b3416eda6534d1ad9d7578d400148e7010e", func := "loop.example/plcruntime/laws.FnPumpLadder", spec := "fnPumpLadder", apart := false, narrowed := true }
def FnPumpLadderUptoSaid : Prop := fnPumpLadderUptoRow.holds Try.pinned (OpenSpec.upto fnPumpLadderSpec)

/-- 'laws.FnExactAddSaturated', WHERE WHAT IT READS IS OF BULK AT MOST 1048576: true; the input reads as it did. -/
def fnExactAddSaturatedUptoRow : OpenClaim := { program := "ytcpjafhhmhaenaa", sum := "f48b45b61d17cc5aa95d79da1a012b3416eda6534d1ad9d7578d400148e7010e", func := "loop.example/plcruntime/laws.FnExactAddSaturated", spec := "fnExactAddSaturated", apart := false, narrowed := true }
def FnExactAddSaturatedUptoSaid : Prop := fnExactAddSaturatedUptoRow.holds Try.pinned (OpenSpec.upto fnExactAddSaturatedSpec)

/-- 'laws.FnExactScaleWord', WHERE WHAT IT READS IS OF BULK AT MOST 1048576: true; the input reads as it did. -/
def fnExactScaleWordUptoRow : OpenClaim := { program := "ytcpjafhhmhaenaa", sum := "f48b45b61d17cc5aa95d79da1a012b3416eda6534d1ad9d7578d400148e7010e", func := "loop.example/plcruntime/laws.FnExactScaleWord", spec := "fnExactScaleWord", apart := false, narrowed := true }
def FnExactScaleWordUptoSaid : Prop := fnExactScaleWordUptoRow.holds Try.pinned (OpenSpec.upto fnExactScaleWordSpec)

/-- 'laws.FnExactHysteresis', WHERE WHAT IT READS IS OF BULK AT MOST 1048576: true; the input reads as it did. -/
def fnExactHysteresisUptoRow : OpenClaim := { program := "ytcpjafhhmhaenaa", sum := "f48b45b61d17cc5aa95d79da1a012b3416eda6534d1ad9d7578d400148e7010e", func := "loop.example/plcruntime/laws.FnExactHysteresis", spec := "fnExactHysteresis", apart := false, narrowed := true }
def FnExactHysteresisUptoSaid : Prop := fnExactHysteresisUptoRow.holds Try.pinned (OpenSpec.upto fnExactHysteresisSpec)

/-- 'laws.FnExactRampStep', WHERE WHAT IT READS IS OF BULK AT MOST 1048576: true; the input reads as it did. -/
def fnExactRampStepUptoRow : OpenClaim := { program := "ytcpjafhhmhaenaa", sum := "f48b45b61d17cc5aa95d79da1a012b3416eda6534d1ad9d7578d400148e7010e", func := "loop.example/plcruntime/laws.FnExactRampStep", spec := "fnExactRampStep", apart := false, narrowed := true }
def FnExactRampStepUptoSaid : Prop := fnExactRampStepUptoRow.holds Try.pinned (OpenSpec.upto fnExactRampStepSpec)

/-- 'laws.FnExactDeadBand', WHERE WHAT IT READS IS OF BULK AT MOST 1048576: true; the input reads as it did. -/
def fnExactDeadBandUptoRow : OpenClaim := { program := "ytcpjafhhmhaenaa", sum := "f48b45b61d17cc5aa95d79da1a012b3416eda6534d1ad9d7578d400148e7010e", func := "loop.example/plcruntime/laws.FnExactDeadBand", spec := "fnExactDeadBand", apart := false, narrowed := true }
def FnExactDeadBandUptoSaid : Prop := fnExactDeadBandUptoRow.holds Try.pinned (OpenSpec.upto fnExactDeadBandSpec)

/-- 'laws.FnExactMovingAverage', WHERE WHAT IT READS IS OF BULK AT MOST 1048576: true; the input reads as it did. -/
def fnExactMovingAverageUptoRow : OpenClaim := { program := "ytcpjafhhmhaenaa", sum := "f48b45b61d17cc5aa95d79da1a012b3416eda6534d1ad9d7578d400148e7010e", func := "loop.example/plcruntime/laws.FnExactMovingAverage", spec := "fnExactMovingAverage", apart := false, narrowed := true }
def FnExactMovingAverageUptoSaid : Prop := fnExactMovingAverageUptoRow.holds Try.pinned (OpenSpec.upto fnExactMovingAverageSpec)

/-- 'laws.FnExactMedianOf', WHERE WHAT IT READS IS OF BULK AT MOST 1048576: true; the input reads as it did. -/
def fnExactMedianOfUptoRow : OpenClaim := { program := "ytcpjafhhmhaenaa", sum := "f48b45b61d17cc5aa95d79da1a012b3416eda6534d1ad9d7578d400148e7010e", func := "loop.example/plcruntime/laws.FnExactMedianOf", spec := "fnExactMedianOf", unfollowed := true, recurses := true, apart := false, narrowed := true }
def FnExactMedianOfUptoSaid : Prop := fnExactMedianOfUptoRow.holds Try.pinned (OpenSpec.upto fnExactMedianOfSpec)

end Rows
end Go.Proofs.Ytcpjafhhmhaenaa
