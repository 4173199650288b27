/-
  NARROWER THAN 'FOR EVERY INPUT', by the rows' own cells (each row's printed sentence says how): FnEvalLogic: laid · FnLogicTable: laid · FnLogicEquivalent: laid · FnNegateLogic: laid · FnUsedBits: laid · FnLogicDepends: laid · FnExactLogicTable: laid · FnExactLogicEquivalent: laid · FnExactLogicDepends: laid.
  DERIVED. THE GIVEN ROWS OF THIS SEAT. 9 by the template 'for every input the law returns true; each argument reads behind the call as it read before'; 0 by the template 'total and deterministic' (their statements: YtbbaojmmjcdliaaDoorTotals.lean).
  GIVEN WITH THE SEED: the statements are not yours to turn. If you find one false, say at which input.
  Laid BY PROGRAM, IN A SANDBOX (cutbox-rows.mjs): the forced cells as the released guide's own fill.sh prints them over the translation 828ed76c9c48ced9… (all of the seat's roots in one cut). By AI agents, Wed Nov 11 2026. No macro, syntax, notation, axiom, sorry.
-/
import Derived.Test.YtbbaojmmjcdliaaDoorChecked
import GoSem.Claim
import GoSem.ClaimJoined
import GoSem.ClaimMapViews
import Derived.JoinedTies
import Derived.KernelRfl
namespace Go.Proofs.YtbbaojmmjcdliaaDoor
/- THE CELL 'sum', in the pinned program and in every row, IS THE sha256 OF THE DUMP (.gsa) THAT YtbbaojmmjcdliaaDoorProg.lean LOADS. Nothing in Lean hashes anything: it is a label: what it is worth is what the hold of that sum in a sandbox is worth. -/
noncomputable def Tryd.pinned : Pinned := { name := "ytbbaojmmjcdliaadoor", sum := "828ed76c9c48ced9dc2335a0dff3e4d71e4f743871e9f04a9ca39bb2a39a30c8", checked := Tryd.checked }
namespace Rows
def none {H : Type} : Left H := { results := [], args := [] }

/- WHAT THE LISTED PACKAGE-LEVEL VARIABLES READ AS WHEN THE CALL BEGINS. Each datum BY PROGRAM (the guide's laid-datum.mjs) off the statement by which the dump's own 'gosem.cut.vars' lays the variable. In a bare row this is a premise. The card (YtbbaojmmjcdliaaDoorCards.lean) ties it to the program's text. -/
def laid_loop_example_plcruntime_impl_tableColumns {H : Type} : DataW H := .agg [.lit (.int .u64 12297829382473034410), .lit (.int .u64 14757395258967641292), .lit (.int .u64 17361641481138401520), .lit (.int .u64 18374966859414961920), .lit (.int .u64 18446462603027742720), .lit (.int .u64 18446744069414584320)]

/-- 'laws.FnEvalLogic': WHATEVER THE INPUT: true; the input reads as it did. -/
def fnEvalLogicSpec : ChangeSpec := { name := "fnEvalLogic", vars := ["loop.example/plcruntime/impl.tableColumns"], fn := fun _ => fun
  | [d, g1] => { results := [.lit (.bool true)], args := [d], vars := [g1] }
  | _ => none }
def fnEvalLogicRow : OpenClaim := { program := "ytbbaojmmjcdliaadoor", sum := "828ed76c9c48ced9dc2335a0dff3e4d71e4f743871e9f04a9ca39bb2a39a30c8", func := "loop.example/plcruntime/laws.FnEvalLogic", spec := "fnEvalLogic", recurses := true, named := ["loop.example/plcruntime/impl.tableColumns"], apart := false, laid := [("loop.example/plcruntime/impl.tableColumns", laid_loop_example_plcruntime_impl_tableColumns)] }
def FnEvalLogicSaid : Prop := fnEvalLogicRow.holds Tryd.pinned (OpenSpec.ofChange fnEvalLogicSpec)

/-- ITS FALSE NEIGHBOUR: 'it returns false'. Refute it at one input. -/
def fnEvalLogicWrong : ChangeSpec := { name := "fnEvalLogic", vars := ["loop.example/plcruntime/impl.tableColumns"], fn := fun _ => fun
  | [d, g1] => { results := [.lit (.bool false)], args := [d], vars := [g1] }
  | _ => none }
def FnEvalLogicWrongFalsely : Prop := fnEvalLogicRow.holds Tryd.pinned (OpenSpec.ofChange fnEvalLogicWrong)

/-- 'laws.FnLogicTable': WHATEVER THE INPUT: true; the input reads as it did. -/
def fnLogicTableSpec : ChangeSpec := { name := "fnLogicTable", vars := ["loop.example/plcruntime/impl.tableColumns"], fn := fun _ => fun
  | [d, g1] => { results := [.lit (.bool true)], args := [d], vars := [g1] }
  | _ => none }
def fnLogicTableRow : OpenClaim := { program := "ytbbaojmmjcdliaadoor", sum := "828ed76c9c48ced9dc2335a0dff3e4d71e4f743871e9f04a9ca39bb2a39a30c8", func := "loop.example/plcruntime/laws.FnLogicTable", spec := "fnLogicTable", recurses := true, named := ["loop.example/plcruntime/impl.tableColumns"], apart := false, laid := [("loop.example/plcruntime/impl.tableColumns", laid_loop_example_plcruntime_impl_tableColumns)] }
def FnLogicTableSaid : Prop := fnLogicTableRow.holds Tryd.pinned (OpenSpec.ofChange fnLogicTableSpec)

/-- ITS FALSE NEIGHBOUR: 'it returns false'. Refute it at one input. -/
def fnLogicTableWrong : ChangeSpec := { name := "fnLogicTable", vars := ["loop.example/plcruntime/impl.tableColumns"], fn := fun _ => fun
  | [d, g1] => { results := [.lit (.bool false)], args := [d], vars := [g1] }
  | _ => none }
def FnLogicTableWrongFalsely : Prop := fnLogicTableRow.holds Tryd.pinned (OpenSpec.ofChange fnLogicTableWrong)

/-- 'laws.FnLogicEquivalent': WHATEVER THE INPUT: true; the input reads as it did. -/
def fnLogicEquivalentSpec : ChangeSpec := { name := "fnLogicEquivalent", vars := ["loop.example/plcruntime/impl.tableColumns"], fn := fun _ => fun
  | [d, g1] => { results := [.lit (.bool true)], args := [d], vars := [g1] }
  | _ => none }
def fnLogicEquivalentRow : OpenClaim := { program := "ytbbaojmmjcdliaadoor", sum := "828ed76c9c48ced9dc2335a0dff3e4d71e4f743871e9f04a9ca39bb2a39a30c8", func := "loop.example/plcruntime/laws.FnLogicEquivalent", spec := "fnLogicEquivalent", recurses := true, named := ["loop.example/plcruntime/impl.tableColumns"], apart := false, laid := [("loop.example/plcruntime/impl.tableColumns", laid_loop_example_plcruntime_impl_tableColumns)] }
def FnLogicEquivalentSaid : Prop := fnLogicEquivalentRow.holds Tryd.pinned (OpenSpec.ofChange fnLogicEquivalentSpec)

/-- ITS FALSE NEIGHBOUR: 'it returns false'. Refute it at one input. -/
def fnLogicEquivalentWrong : ChangeSpec := { name := "fnLogicEquivalent", vars := ["loop.example/plcruntime/impl.tableColumns"], fn := fun _ => fun
  | [d, g1] => { results := [.lit (.bool false)], args := [d], vars := [g1] }
  | _ => none }
def FnLogicEquivalentWrongFalsely : Prop := fnLogicEquivalentRow.holds Tryd.pinned (OpenSpec.ofChange fnLogicEquivalentWrong)

/-- 'laws.FnNegateLogic': WHATEVER THE INPUT: true; the input reads as it did. -/
def fnNegateLogicSpec : ChangeSpec := { name := "fnNegateLogic", vars := ["loop.example/plcruntime/impl.tableColumns"], fn := fun _ => fun
  | [d, g1] => { results := [.lit (.bool true)], args := [d], vars := [g1] }
  | _ => none }
def fnNegateLogicRow : OpenClaim := { program := "ytbbaojmmjcdliaadoor", sum := "828ed76c9c48ced9dc2335a0dff3e4d71e4f743871e9f04a9ca39bb2a39a30c8", func := "loop.example/plcruntime/laws.FnNegateLogic", spec := "fnNegateLogic", recurses := true, named := ["loop.example/plcruntime/impl.tableColumns"], apart := false, laid := [("loop.example/plcruntime/impl.tableColumns", laid_loop_example_plcruntime_impl_tableColumns)] }
def FnNegateLogicSaid : Prop := fnNegateLogicRow.holds Tryd.pinned (OpenSpec.ofChange fnNegateLogicSpec)

/-- ITS FALSE NEIGHBOUR: 'it returns false'. Refute it at one input. -/
def fnNegateLogicWrong : ChangeSpec := { name := "fnNegateLogic", vars := ["loop.example/plcruntime/impl.tableColumns"], fn := fun _ => fun
  | [d, g1] => { results := [.lit (.bool false)], args := [d], vars := [g1] }
  | _ => none }
def FnNegateLogicWrongFalsely : Prop := fnNegateLogicRow.holds Tryd.pinned (OpenSpec.ofChange fnNegateLogicWrong)

/-- 'laws.FnUsedBits': WHATEVER THE INPUT: true; the input reads as it did. -/
def fnUsedBitsSpec : ChangeSpec := { name := "fnUsedBits", vars := ["loop.example/plcruntime/impl.tableColumns"], fn := fun _ => fun
  | [d, g1] => { results := [.lit (.bool true)], args := [d], vars := [g1] }
  | _ => none }
def fnUsedBitsRow : OpenClaim := { program := "ytbbaojmmjcdliaadoor", sum := "828ed76c9c48ced9dc2335a0dff3e4d71e4f743871e9f04a9ca39bb2a39a30c8", func := "loop.example/plcruntime/laws.FnUsedBits", spec := "fnUsedBits", recurses := true, named := ["loop.example/plcruntime/impl.tableColumns"], apart := false, laid := [("loop.example/plcruntime/impl.tableColumns", laid_loop_example_plcruntime_impl_tableColumns)] }
def FnUsedBitsSaid : Prop := fnUsedBitsRow.holds Tryd.pinned (OpenSpec.ofChange fnUsedBitsSpec)

/-- ITS FALSE NEIGHBOUR: 'it returns false'. Refute it at one input. -/
def fnUsedBitsWrong : ChangeSpec := { name := "fnUsedBits", vars := ["loop.example/plcruntime/impl.tableColumns"], fn := fun _ => fun
  | [d, g1] => { results := [.lit (.bool false)], args := [d], vars := [g1] }
  | _ => none }
def FnUsedBitsWrongFalsely : Prop := fnUsedBitsRow.holds Tryd.pinned (OpenSpec.ofChange fnUsedBitsWrong)

/-- 'laws.FnLogicDepends': WHATEVER THE INPUT: true; the input reads as it did. -/
def fnLogicDependsSpec : ChangeSpec := { name := "fnLogicDepends", vars := ["loop.example/plcruntime/impl.tableColumns"], fn := fun _ => fun
  | [d, g1] => { results := [.lit (.bool true)], args := [d], vars := [g1] }
  | _ => none }
def fnLogicDependsRow : OpenClaim := { program := "ytbbaojmmjcdliaadoor", sum := "828ed76c9c48ced9dc2335a0dff3e4d71e4f743871e9f04a9ca39bb2a39a30c8", func := "loop.example/plcruntime/laws.FnLogicDepends", spec := "fnLogicDepends", recurses := true, named := ["loop.example/plcruntime/impl.tableColumns"], apart := false, laid := [("loop.example/plcruntime/impl.tableColumns", laid_loop_example_plcruntime_impl_tableColumns)] }
def FnLogicDependsSaid : Prop := fnLogicDependsRow.holds Tryd.pinned (OpenSpec.ofChange fnLogicDependsSpec)

/-- ITS FALSE NEIGHBOUR: 'it returns false'. Refute it at one input. -/
def fnLogicDependsWrong : ChangeSpec := { name := "fnLogicDepends", vars := ["loop.example/plcruntime/impl.tableColumns"], fn := fun _ => fun
  | [d, g1] => { results := [.lit (.bool false)], args := [d], vars := [g1] }
  | _ => none }
def FnLogicDependsWrongFalsely : Prop := fnLogicDependsRow.holds Tryd.pinned (OpenSpec.ofChange fnLogicDependsWrong)

/-- 'laws.FnExactLogicTable': WHATEVER THE INPUT: true; the input reads as it did. -/
def fnExactLogicTableSpec : ChangeSpec := { name := "fnExactLogicTable", vars := ["loop.example/plcruntime/impl.tableColumns"], fn := fun _ => fun
  | [d1, d2, g1] => { results := [.lit (.bool true)], args := [d1, d2], vars := [g1] }
  | _ => none }
def fnExactLogicTableRow : OpenClaim := { program := "ytbbaojmmjcdliaadoor", sum := "828ed76c9c48ced9dc2335a0dff3e4d71e4f743871e9f04a9ca39bb2a39a30c8", func := "loop.example/plcruntime/laws.FnExactLogicTable", spec := "fnExactLogicTable", named := ["loop.example/plcruntime/impl.tableColumns"], apart := false, laid := [("loop.example/plcruntime/impl.tableColumns", laid_loop_example_plcruntime_impl_tableColumns)] }
def FnExactLogicTableSaid : Prop := fnExactLogicTableRow.holds Tryd.pinned (OpenSpec.ofChange fnExactLogicTableSpec)

/-- ITS FALSE NEIGHBOUR: 'it returns false'. Refute it at one input. -/
def fnExactLogicTableWrong : ChangeSpec := { name := "fnExactLogicTable", vars := ["loop.example/plcruntime/impl.tableColumns"], fn := fun _ => fun
  | [d1, d2, g1] => { results := [.lit (.bool false)], args := [d1, d2], vars := [g1] }
  | _ => none }
def FnExactLogicTableWrongFalsely : Prop := fnExactLogicTableRow.holds Tryd.pinned (OpenSpec.ofChange fnExactLogicTableWrong)

/-- 'laws.FnExactLogicEquivalent': WHATEVER THE INPUT: true; the input reads as it did. -/
def fnExactLogicEquivalentSpec : ChangeSpec := { name := "fnExactLogicEquivalent", vars := ["loop.example/plcruntime/impl.tableColumns"], fn := fun _ => fun
  | [d1, d2, d3, g1] => { results := [.lit (.bool true)], args := [d1, d2, d3], vars := [g1] }
  | _ => none }
def fnExactLogicEquivalentRow : OpenClaim := { program := "ytbbaojmmjcdliaadoor", sum := "828ed76c9c48ced9dc2335a0dff3e4d71e4f743871e9f04a9ca39bb2a39a30c8", func := "loop.example/plcruntime/laws.FnExactLogicEquivalent", spec := "fnExactLogicEquivalent", named := ["loop.example/plcruntime/impl.tableColumns"], apart := false, laid := [("loop.example/plcruntime/impl.tableColumns", laid_loop_example_plcruntime_impl_tableColumns)] }
def FnExactLogicEquivalentSaid : Prop := fnExactLogicEquivalentRow.holds Tryd.pinned (OpenSpec.ofChange fnExactLogicEquivalentSpec)

/-- ITS FALSE NEIGHBOUR: 'it returns false'. Refute it at one input. -/
def fnExactLogicEquivalentWrong : ChangeSpec := { name := "fnExactLogicEquivalent", vars := ["loop.example/plcruntime/impl.tableColumns"], fn := fun _ => fun
  | [d1, d2, d3, g1] => { results := [.lit (.bool false)], args := [d1, d2, d3], vars := [g1] }
  | _ => none }
def FnExactLogicEquivalentWrongFalsely : Prop := fnExactLogicEquivalentRow.holds Tryd.pinned (OpenSpec.ofChange fnExactLogicEquivalentWrong)

/-- 'laws.FnExactLogicDepends': WHATEVER THE INPUT: true; the input reads as it did. -/
def fnExactLogicDependsSpec : ChangeSpec := { name := "fnExactLogicDepends", vars := ["loop.example/plcruntime/impl.tableColumns"], fn := fun _ => fun
  | [d1, d2, d3, g1] => { results := [.lit (.bool true)], args := [d1, d2, d3], vars := [g1] }
  | _ => none }
def fnExactLogicDependsRow : OpenClaim := { program := "ytbbaojmmjcdliaadoor", sum := "828ed76c9c48ced9dc2335a0dff3e4d71e4f743871e9f04a9ca39bb2a39a30c8", func := "loop.example/plcruntime/laws.FnExactLogicDepends", spec := "fnExactLogicDepends", named := ["loop.example/plcruntime/impl.tableColumns"], apart := false, laid := [("loop.example/plcruntime/impl.tableColumns", laid_loop_example_plcruntime_impl_tableColumns)] }
def FnExactLogicDependsSaid : Prop := fnExactLogicDependsRow.holds Tryd.pinned (OpenSpec.ofChange fnExactLogicDependsSpec)

/-- ITS FALSE NEIGHBOUR: 'it returns false'. Refute it at one input. -/
def fnExactLogicDependsWrong : ChangeSpec := { name := "fnExactLogicDepends", vars := ["loop.example/plcruntime/impl.tableColumns"], fn := fun _ => fun
  | [d1, d2, d3, g1] => { results := [.lit (.bool false)], args := [d1, d2, d3], vars := [g1] }
  | _ => none }
def FnExactLogicDependsWrongFalsely : Prop := fnExactLogicDependsRow.holds Tryd.pinned (OpenSpec.ofChange fnExactLogicDependsWrong)

/- THE SECOND FORM. 'bulk': how many values and letters a reading holds, each counted each time it is reached (what is shared counts as often as it is met; a slice's spare places count too). A statement '..UptoSaid' is the law's where the arguments, and the package variables that the reading takes, are together of bulk at most 1048576: NARROWER than '..Said'. Prove '..Said' where nothing that the law and all that it calls make is longer than what came in: it says more and counts as full. Else prove '..UptoSaid'. A law counts once. -/
mutual
def uptoBulk {H : Type} : DataW H → Nat
  | .lit (.string bytes) => bytes.length + 1
  | .lit _ => 1
  | .nil => 1
  | .ptr d => uptoBulk d + 1
  | .slice elems spare => uptoBulkAll elems + uptoBulkAll spare + 1
  | .agg parts => uptoBulkAll parts + 1
  | .iface _ d => uptoBulk d + 1
  | .map entries => uptoBulkEntries entries + 1
  | .held _ => 1
def uptoBulkAll {H : Type} : List (DataW H) → Nat
  | [] => 0
  | d :: r => uptoBulk d + uptoBulkAll r
def uptoBulkEntries {H : Type} : List (Lit × DataW H) → Nat
  | [] => 0
  | x :: r => uptoBulkEntry x + uptoBulkEntries r
def uptoBulkEntry {H : Type} : Lit × DataW H → Nat
  | (.string bytes, d) => bytes.length + uptoBulk d + 1
  | (_, d) => uptoBulk d + 1
 end
def uptoSmall : (H : Type) → List (DataW H) → Bool := fun _ ds => decide (uptoBulkAll ds ≤ 1048576)
def OpenSpec.upto (s : _root_.Go.ChangeSpec) : _root_.Go.OpenSpec := { _root_.Go.OpenSpec.ofChange s with cond := some uptoSmall }

/-- 'laws.FnEvalLogic', WHERE WHAT IT READS IS OF BULK AT MOST 1048576: true; the input reads as it did. -/
def fnEvalLogicUptoRow : OpenClaim := { program := "ytbbaojmmjcdliaadoor", sum := "828ed76c9c48ced9dc2335a0dff3e4d71e4f743871e9f04a9ca39bb2a39a30c8", func := "loop.example/plcruntime/laws.FnEvalLogic", spec := "fnEvalLogic", recurses := true, named := ["loop.example/plcruntime/impl.tableColumns"], apart := false, laid := [("loop.example/plcruntime/impl.tableColumns", laid_loop_example_plcruntime_impl_tableColumns)], narrowed := true }
def FnEvalLogicUptoSaid : Prop := fnEvalLogicUptoRow.holds Tryd.pinned (OpenSpec.upto fnEvalLogicSpec)

/-- 'laws.FnLogicTable', WHERE WHAT IT READS IS OF BULK AT MOST 1048576: true; the input reads as it did. -/
def fnLogicTableUptoRow : OpenClaim := { program := "ytbbaojmmjcdliaadoor", sum := "828ed76c9c48ced9dc2335a0dff3e4d71e4f743871e9f04a9ca39bb2a39a30c8", func := "loop.example/plcruntime/laws.FnLogicTable", spec := "fnLogicTable", recurses := true, named := ["loop.example/plcruntime/impl.tableColumns"], apart := false, laid := [("loop.example/plcruntime/impl.tableColumns", laid_loop_example_plcruntime_impl_tableColumns)], narrowed := true }
def FnLogicTableUptoSaid : Prop := fnLogicTableUptoRow.holds Tryd.pinned (OpenSpec.upto fnLogicTableSpec)

/-- 'laws.FnLogicEquivalent', WHERE WHAT IT READS IS OF BULK AT MOST 1048576: true; the input reads as it did. -/
def fnLogicEquivalentUptoRow : OpenClaim := { program := "ytbbaojmmjcdliaadoor", sum := "828ed76c9c48ced9dc2335a0dff3e4d71e4f743871e9f04a9ca39bb2a39a30c8", func := "loop.example/plcruntime/laws.FnLogicEquivalent", spec := "fnLogicEquivalent", recurses := true, named := ["loop.example/plcruntime/impl.tableColumns"], apart := false, laid := [("loop.example/plcruntime/impl.tableColumns", laid_loop_example_plcruntime_impl_tableColumns)], narrowed := true }
def FnLogicEquivalentUptoSaid : Prop := fnLogicEquivalentUptoRow.holds Tryd.pinned (OpenSpec.upto fnLogicEquivalentSpec)

/-- 'laws.FnNegateLogic', WHERE WHAT IT READS IS OF BULK AT MOST 1048576: true; the input reads as it did. -/
def fnNegateLogicUptoRow : OpenClaim := { program := "ytbbaojmmjcdliaadoor", sum := "828ed76c9c48ced9dc2335a0dff3e4d71e4f743871e9f04a9ca39bb2a39a30c8", func := "loop.example/plcruntime/laws.FnNegateLogic", spec := "fnNegateLogic", recurses := true, named := ["loop.example/plcruntime/impl.tableColumns"], apart := false, laid := [("loop.example/plcruntime/impl.tableColumns", laid_loop_example_plcruntime_impl_tableColumns)], narrowed := true }
def FnNegateLogicUptoSaid : Prop := fnNegateLogicUptoRow.holds Tryd.pinned (OpenSpec.upto fnNegateLogicSpec)

/-- 'laws.FnUsedBits', WHERE WHAT IT READS IS OF BULK AT MOST 1048576: true; the input reads as it did. -/
def fnUsedBitsUptoRow : OpenClaim := { program := "ytbbaojmmjcdliaadoor", sum := "828ed76c9c48ced9dc2335a0dff3e4d71e4f743871e9f04a9ca39bb2a39a30c8", func := "loop.example/plcruntime/laws.FnUsedBits", spec := "fnUsedBits", recurses := true, named := ["loop.example/plcruntime/impl.tableColumns"], apart := false, laid := [("loop.example/plcruntime/impl.tableColumns", laid_loop_example_plcruntime_impl_tableColumns)], narrowed := true }
def FnUsedBitsUptoSaid : Prop := fnUsedBitsUptoRow.holds Tryd.pinned (OpenSpec.upto fnUsedBitsSpec)

/-- 'laws.FnLogicDepends', WHERE WHAT IT READS IS OF BULK AT MOST 1048576: true; the input reads as it did. -/
def fnLogicDependsUptoRow : OpenClaim := { program := "ytbbaojmmjcdliaadoor", sum := "828ed76c9c48ced9dc2335a0dff3e4d71e4f743871e9f04a9ca39bb2a39a30c8", func := "loop.example/plcruntime/laws.FnLogicDepends", spec := "fnLogicDepends", recurses := true, named := ["loop.example/plcruntime/impl.tableColumns"], apart := false, laid := [("loop.example/plcruntime/impl.tableColumns", laid_loop_example_plcruntime_impl_tableColumns)], narrowed := true }
def FnLogicDependsUptoSaid : Prop := fnLogicDependsUptoRow.holds Tryd.pinned (OpenSpec.upto fnLogicDependsSpec)

/-- 'laws.FnExactLogicTable', WHERE WHAT IT READS IS OF BULK AT MOST 1048576: true; the input reads as it did. -/
def fnExactLogicTableUptoRow : OpenClaim := { program := "ytbbaojmmjcdliaadoor", sum := "828ed76c9c48ced9dc2335a0dff3e4d71e4f743871e9f04a9ca39bb2a39a30c8", func := "loop.example/plcruntime/laws.FnExactLogicTable", spec := "fnExactLogicTable", named := ["loop.example/plcruntime/impl.tableColumns"], apart := false, laid := [("loop.example/plcruntime/impl.tableColumns", laid_loop_example_plcruntime_impl_tableColumns)], narrowed := true }
def FnExactLogicTableUptoSaid : Prop := fnExactLogicTableUptoRow.holds Tryd.pinned (OpenSpec.upto fnExactLogicTableSpec)

/-- 'laws.FnExactLogicEquivalent', WHERE WHAT IT READS IS OF BULK AT MOST 1048576: true; the input reads as it did. -/
def fnExactLogicEquivalentUptoRow : OpenClaim := { program := "ytbbaojmmjcdliaadoor", sum := "828ed76c9c48ced9dc2335a0dff3e4d71e4f743871e9f04a9ca39bb2a39a30c8", func := "loop.example/plcruntime/laws.FnExactLogicEquivalent", spec := "fnExactLogicEquivalent", named := ["loop.example/plcruntime/impl.tableColumns"], apart := false, laid := [("loop.example/plcruntime/impl.tableColumns", laid_loop_example_plcruntime_impl_tableColumns)], narrowed := true }
def FnExactLogicEquivalentUptoSaid : Prop := fnExactLogicEquivalentUptoRow.holds Tryd.pinned (OpenSpec.upto fnExactLogicEquivalentSpec)

/-- 'laws.FnExactLogicDepends', WHERE WHAT IT READS IS OF BULK AT MOST 1048576: true; the input reads as it did. -/
def fnExactLogicDependsUptoRow : OpenClaim := { program := "ytbbaojmmjcdliaadoor", sum := "828ed76c9c48ced9dc2335a0dff3e4d71e4f743871e9f04a9ca39bb2a39a30c8", func := "loop.example/plcruntime/laws.FnExactLogicDepends", spec := "fnExactLogicDepends", named := ["loop.example/plcruntime/impl.tableColumns"], apart := false, laid := [("loop.example/plcruntime/impl.tableColumns", laid_loop_example_plcruntime_impl_tableColumns)], narrowed := true }
def FnExactLogicDependsUptoSaid : Prop := fnExactLogicDependsUptoRow.holds Tryd.pinned (OpenSpec.upto fnExactLogicDependsSpec)

end Rows
end Go.Proofs.YtbbaojmmjcdliaaDoor
