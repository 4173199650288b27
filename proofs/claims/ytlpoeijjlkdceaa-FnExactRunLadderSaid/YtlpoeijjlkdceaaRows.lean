/-
  No cell of these rows narrows 'for every input' (looked for: loops, veiled, ifaces, maps, wideKeys, modest, calm, conditions, laid).
  DERIVED. THE GIVEN ROWS OF THIS SEAT. 15 by the template 'for every input the law returns true; each argument reads behind the call as it read before'; 0 by the template 'total and deterministic' (their statements: YtlpoeijjlkdceaaTotals.lean).
  GIVEN WITH THE SEED: the statements are not yours to turn. If you find one false, say at which input.
  Laid BY PROGRAM, IN A SANDBOX (cutbox-rows.mjs): the forced cells as the released guide's own fill.sh prints them over the translation 8dce62ad8156bd20… (all of the seat's roots in one cut). By AI agents, Wed Nov 11 2026. No macro, syntax, notation, axiom, sorry.
-/
import Derived.Test.YtlpoeijjlkdceaaChecked
import GoSem.Claim
import GoSem.ClaimJoined
import GoSem.ClaimMapViews
import Derived.JoinedTies
import Derived.KernelRfl
namespace Go.Proofs.Ytlpoeijjlkdceaa
/- THE CELL 'sum', in the pinned program and in every row, IS THE sha256 OF THE DUMP (.gsa) THAT YtlpoeijjlkdceaaProg.lean LOADS. Nothing in Lean hashes anything: it is a label: what it is worth is what the hold of that sum in a sandbox is worth. -/
noncomputable def Try.pinned : Pinned := { name := "ytlpoeijjlkdceaa", sum := "8dce62ad8156bd20d20d910bf4939294e6c72171948401b7c8a8bf2b959db752", checked := Try.checked }
namespace Rows
def none {H : Type} : Left H := { results := [], args := [] }

/-- 'laws.FnRungValid': WHATEVER THE INPUT: true; the input reads as it did. -/
def fnRungValidSpec : ChangeSpec := { name := "fnRungValid", fn := fun _ => fun
  | [d] => { results := [.lit (.bool true)], args := [d] }
  | _ => none }
def fnRungValidRow : OpenClaim := { program := "ytlpoeijjlkdceaa", sum := "8dce62ad8156bd20d20d910bf4939294e6c72171948401b7c8a8bf2b959db752", func := "loop.example/plcruntime/laws.FnRungValid", spec := "fnRungValid", recurses := true, apart := false }
def FnRungValidSaid : Prop := fnRungValidRow.holds Try.pinned (OpenSpec.ofChange fnRungValidSpec)

/-- ITS FALSE NEIGHBOUR: 'it returns false'. Refute it at one input. -/
def fnRungValidWrong : ChangeSpec := { name := "fnRungValid", fn := fun _ => fun
  | [d] => { results := [.lit (.bool false)], args := [d] }
  | _ => none }
def FnRungValidWrongFalsely : Prop := fnRungValidRow.holds Try.pinned (OpenSpec.ofChange fnRungValidWrong)

/-- 'laws.FnLadderValid': WHATEVER THE INPUT: true; the input reads as it did. -/
def fnLadderValidSpec : ChangeSpec := { name := "fnLadderValid", fn := fun _ => fun
  | [d] => { results := [.lit (.bool true)], args := [d] }
  | _ => none }
def fnLadderValidRow : OpenClaim := { program := "ytlpoeijjlkdceaa", sum := "8dce62ad8156bd20d20d910bf4939294e6c72171948401b7c8a8bf2b959db752", func := "loop.example/plcruntime/laws.FnLadderValid", spec := "fnLadderValid", recurses := true, apart := false }
def FnLadderValidSaid : Prop := fnLadderValidRow.holds Try.pinned (OpenSpec.ofChange fnLadderValidSpec)

/-- ITS FALSE NEIGHBOUR: 'it returns false'. Refute it at one input. -/
def fnLadderValidWrong : ChangeSpec := { name := "fnLadderValid", fn := fun _ => fun
  | [d] => { results := [.lit (.bool false)], args := [d] }
  | _ => none }
def FnLadderValidWrongFalsely : Prop := fnLadderValidRow.holds Try.pinned (OpenSpec.ofChange fnLadderValidWrong)

/-- 'laws.FnRunRung': WHATEVER THE INPUT: true; the input reads as it did. -/
def fnRunRungSpec : ChangeSpec := { name := "fnRunRung", fn := fun _ => fun
  | [d] => { results := [.lit (.bool true)], args := [d] }
  | _ => none }
def fnRunRungRow : OpenClaim := { program := "ytlpoeijjlkdceaa", sum := "8dce62ad8156bd20d20d910bf4939294e6c72171948401b7c8a8bf2b959db752", func := "loop.example/plcruntime/laws.FnRunRung", spec := "fnRunRung", unfollowed := true, recurses := true, apart := false }
def FnRunRungSaid : Prop := fnRunRungRow.holds Try.pinned (OpenSpec.ofChange fnRunRungSpec)

/-- ITS FALSE NEIGHBOUR: 'it returns false'. Refute it at one input. -/
def fnRunRungWrong : ChangeSpec := { name := "fnRunRung", fn := fun _ => fun
  | [d] => { results := [.lit (.bool false)], args := [d] }
  | _ => none }
def FnRunRungWrongFalsely : Prop := fnRunRungRow.holds Try.pinned (OpenSpec.ofChange fnRunRungWrong)

/-- 'laws.FnRunLadder': WHATEVER THE INPUT: true; the input reads as it did. -/
def fnRunLadderSpec : ChangeSpec := { name := "fnRunLadder", fn := fun _ => fun
  | [d] => { results := [.lit (.bool true)], args := [d] }
  | _ => none }
def fnRunLadderRow : OpenClaim := { program := "ytlpoeijjlkdceaa", sum := "8dce62ad8156bd20d20d910bf4939294e6c72171948401b7c8a8bf2b959db752", func := "loop.example/plcruntime/laws.FnRunLadder", spec := "fnRunLadder", unfollowed := true, recurses := true, apart := false }
def FnRunLadderSaid : Prop := fnRunLadderRow.holds Try.pinned (OpenSpec.ofChange fnRunLadderSpec)

/-- ITS FALSE NEIGHBOUR: 'it returns false'. Refute it at one input. -/
def fnRunLadderWrong : ChangeSpec := { name := "fnRunLadder", fn := fun _ => fun
  | [d] => { results := [.lit (.bool false)], args := [d] }
  | _ => none }
def FnRunLadderWrongFalsely : Prop := fnRunLadderRow.holds Try.pinned (OpenSpec.ofChange fnRunLadderWrong)

/-- 'laws.FnLadderCoils': WHATEVER THE INPUT: true; the input reads as it did. -/
def fnLadderCoilsSpec : ChangeSpec := { name := "fnLadderCoils", fn := fun _ => fun
  | [d] => { results := [.lit (.bool true)], args := [d] }
  | _ => none }
def fnLadderCoilsRow : OpenClaim := { program := "ytlpoeijjlkdceaa", sum := "8dce62ad8156bd20d20d910bf4939294e6c72171948401b7c8a8bf2b959db752", func := "loop.example/plcruntime/laws.FnLadderCoils", spec := "fnLadderCoils", recurses := true, apart := false }
def FnLadderCoilsSaid : Prop := fnLadderCoilsRow.holds Try.pinned (OpenSpec.ofChange fnLadderCoilsSpec)

/-- ITS FALSE NEIGHBOUR: 'it returns false'. Refute it at one input. -/
def fnLadderCoilsWrong : ChangeSpec := { name := "fnLadderCoils", fn := fun _ => fun
  | [d] => { results := [.lit (.bool false)], args := [d] }
  | _ => none }
def FnLadderCoilsWrongFalsely : Prop := fnLadderCoilsRow.holds Try.pinned (OpenSpec.ofChange fnLadderCoilsWrong)

/-- 'laws.FnRungsIndependent': WHATEVER THE INPUT: true; the input reads as it did. -/
def fnRungsIndependentSpec : ChangeSpec := { name := "fnRungsIndependent", fn := fun _ => fun
  | [d1, d2] => { results := [.lit (.bool true)], args := [d1, d2] }
  | _ => none }
def fnRungsIndependentRow : OpenClaim := { program := "ytlpoeijjlkdceaa", sum := "8dce62ad8156bd20d20d910bf4939294e6c72171948401b7c8a8bf2b959db752", func := "loop.example/plcruntime/laws.FnRungsIndependent", spec := "fnRungsIndependent", unfollowed := true, recurses := true, apart := false }
def FnRungsIndependentSaid : Prop := fnRungsIndependentRow.holds Try.pinned (OpenSpec.ofChange fnRungsIndependentSpec)

/-- ITS FALSE NEIGHBOUR: 'it returns false'. Refute it at one input. -/
def fnRungsIndependentWrong : ChangeSpec := { name := "fnRungsIndependent", fn := fun _ => fun
  | [d1, d2] => { results := [.lit (.bool false)], args := [d1, d2] }
  | _ => none }
def FnRungsIndependentWrongFalsely : Prop := fnRungsIndependentRow.holds Try.pinned (OpenSpec.ofChange fnRungsIndependentWrong)

/-- 'laws.FnDoubleCoils': WHATEVER THE INPUT: true; the input reads as it did. -/
def fnDoubleCoilsSpec : ChangeSpec := { name := "fnDoubleCoils", fn := fun _ => fun
  | [d] => { results := [.lit (.bool true)], args := [d] }
  | _ => none }
def fnDoubleCoilsRow : OpenClaim := { program := "ytlpoeijjlkdceaa", sum := "8dce62ad8156bd20d20d910bf4939294e6c72171948401b7c8a8bf2b959db752", func := "loop.example/plcruntime/laws.FnDoubleCoils", spec := "fnDoubleCoils", unfollowed := true, recurses := true, apart := false }
def FnDoubleCoilsSaid : Prop := fnDoubleCoilsRow.holds Try.pinned (OpenSpec.ofChange fnDoubleCoilsSpec)

/-- ITS FALSE NEIGHBOUR: 'it returns false'. Refute it at one input. -/
def fnDoubleCoilsWrong : ChangeSpec := { name := "fnDoubleCoils", fn := fun _ => fun
  | [d] => { results := [.lit (.bool false)], args := [d] }
  | _ => none }
def FnDoubleCoilsWrongFalsely : Prop := fnDoubleCoilsRow.holds Try.pinned (OpenSpec.ofChange fnDoubleCoilsWrong)

/-- 'laws.FnLadderSettles': WHATEVER THE INPUT: true; the input reads as it did. -/
def fnLadderSettlesSpec : ChangeSpec := { name := "fnLadderSettles", fn := fun _ => fun
  | [d] => { results := [.lit (.bool true)], args := [d] }
  | _ => none }
def fnLadderSettlesRow : OpenClaim := { program := "ytlpoeijjlkdceaa", sum := "8dce62ad8156bd20d20d910bf4939294e6c72171948401b7c8a8bf2b959db752", func := "loop.example/plcruntime/laws.FnLadderSettles", spec := "fnLadderSettles", unfollowed := true, recurses := true, apart := false }
def FnLadderSettlesSaid : Prop := fnLadderSettlesRow.holds Try.pinned (OpenSpec.ofChange fnLadderSettlesSpec)

/-- ITS FALSE NEIGHBOUR: 'it returns false'. Refute it at one input. -/
def fnLadderSettlesWrong : ChangeSpec := { name := "fnLadderSettles", fn := fun _ => fun
  | [d] => { results := [.lit (.bool false)], args := [d] }
  | _ => none }
def FnLadderSettlesWrongFalsely : Prop := fnLadderSettlesRow.holds Try.pinned (OpenSpec.ofChange fnLadderSettlesWrong)

/-- 'laws.FnExactEvalLogic': WHATEVER THE INPUT: true; the input reads as it did. -/
def fnExactEvalLogicSpec : ChangeSpec := { name := "fnExactEvalLogic", fn := fun _ => fun
  | [d1, d2] => { results := [.lit (.bool true)], args := [d1, d2] }
  | _ => none }
def fnExactEvalLogicRow : OpenClaim := { program := "ytlpoeijjlkdceaa", sum := "8dce62ad8156bd20d20d910bf4939294e6c72171948401b7c8a8bf2b959db752", func := "loop.example/plcruntime/laws.FnExactEvalLogic", spec := "fnExactEvalLogic", apart := false }
def FnExactEvalLogicSaid : Prop := fnExactEvalLogicRow.holds Try.pinned (OpenSpec.ofChange fnExactEvalLogicSpec)

/-- ITS FALSE NEIGHBOUR: 'it returns false'. Refute it at one input. -/
def fnExactEvalLogicWrong : ChangeSpec := { name := "fnExactEvalLogic", fn := fun _ => fun
  | [d1, d2] => { results := [.lit (.bool false)], args := [d1, d2] }
  | _ => none }
def FnExactEvalLogicWrongFalsely : Prop := fnExactEvalLogicRow.holds Try.pinned (OpenSpec.ofChange fnExactEvalLogicWrong)

/-- 'laws.FnExactRungValid': WHATEVER THE INPUT: true; the input reads as it did. -/
def fnExactRungValidSpec : ChangeSpec := { name := "fnExactRungValid", fn := fun _ => fun
  | [d1, d2] => { results := [.lit (.bool true)], args := [d1, d2] }
  | _ => none }
def fnExactRungValidRow : OpenClaim := { program := "ytlpoeijjlkdceaa", sum := "8dce62ad8156bd20d20d910bf4939294e6c72171948401b7c8a8bf2b959db752", func := "loop.example/plcruntime/laws.FnExactRungValid", spec := "fnExactRungValid", apart := false }
def FnExactRungValidSaid : Prop := fnExactRungValidRow.holds Try.pinned (OpenSpec.ofChange fnExactRungValidSpec)

/-- ITS FALSE NEIGHBOUR: 'it returns false'. Refute it at one input. -/
def fnExactRungValidWrong : ChangeSpec := { name := "fnExactRungValid", fn := fun _ => fun
  | [d1, d2] => { results := [.lit (.bool false)], args := [d1, d2] }
  | _ => none }
def FnExactRungValidWrongFalsely : Prop := fnExactRungValidRow.holds Try.pinned (OpenSpec.ofChange fnExactRungValidWrong)

/-- 'laws.FnExactRunRung': WHATEVER THE INPUT: true; the input reads as it did. -/
def fnExactRunRungSpec : ChangeSpec := { name := "fnExactRunRung", fn := fun _ => fun
  | [d1, d2] => { results := [.lit (.bool true)], args := [d1, d2] }
  | _ => none }
def fnExactRunRungRow : OpenClaim := { program := "ytlpoeijjlkdceaa", sum := "8dce62ad8156bd20d20d910bf4939294e6c72171948401b7c8a8bf2b959db752", func := "loop.example/plcruntime/laws.FnExactRunRung", spec := "fnExactRunRung", unfollowed := true, recurses := true, apart := false }
def FnExactRunRungSaid : Prop := fnExactRunRungRow.holds Try.pinned (OpenSpec.ofChange fnExactRunRungSpec)

/-- ITS FALSE NEIGHBOUR: 'it returns false'. Refute it at one input. -/
def fnExactRunRungWrong : ChangeSpec := { name := "fnExactRunRung", fn := fun _ => fun
  | [d1, d2] => { results := [.lit (.bool false)], args := [d1, d2] }
  | _ => none }
def FnExactRunRungWrongFalsely : Prop := fnExactRunRungRow.holds Try.pinned (OpenSpec.ofChange fnExactRunRungWrong)

/-- 'laws.FnExactRunLadder': WHATEVER THE INPUT: true; the input reads as it did. -/
def fnExactRunLadderSpec : ChangeSpec := { name := "fnExactRunLadder", fn := fun _ => fun
  | [d1, d2] => { results := [.lit (.bool true)], args := [d1, d2] }
  | _ => none }
def fnExactRunLadderRow : OpenClaim := { program := "ytlpoeijjlkdceaa", sum := "8dce62ad8156bd20d20d910bf4939294e6c72171948401b7c8a8bf2b959db752", func := "loop.example/plcruntime/laws.FnExactRunLadder", spec := "fnExactRunLadder", unfollowed := true, recurses := true, apart := false }
def FnExactRunLadderSaid : Prop := fnExactRunLadderRow.holds Try.pinned (OpenSpec.ofChange fnExactRunLadderSpec)

/-- ITS FALSE NEIGHBOUR: 'it returns false'. Refute it at one input. -/
def fnExactRunLadderWrong : ChangeSpec := { name := "fnExactRunLadder", fn := fun _ => fun
  | [d1, d2] => { results := [.lit (.bool false)], args := [d1, d2] }
  | _ => none }
def FnExactRunLadderWrongFalsely : Prop := fnExactRunLadderRow.holds Try.pinned (OpenSpec.ofChange fnExactRunLadderWrong)

/-- 'laws.FnExactLadderCoils': WHATEVER THE INPUT: true; the input reads as it did. -/
def fnExactLadderCoilsSpec : ChangeSpec := { name := "fnExactLadderCoils", fn := fun _ => fun
  | [d] => { results := [.lit (.bool true)], args := [d] }
  | _ => none }
def fnExactLadderCoilsRow : OpenClaim := { program := "ytlpoeijjlkdceaa", sum := "8dce62ad8156bd20d20d910bf4939294e6c72171948401b7c8a8bf2b959db752", func := "loop.example/plcruntime/laws.FnExactLadderCoils", spec := "fnExactLadderCoils", apart := false }
def FnExactLadderCoilsSaid : Prop := fnExactLadderCoilsRow.holds Try.pinned (OpenSpec.ofChange fnExactLadderCoilsSpec)

/-- ITS FALSE NEIGHBOUR: 'it returns false'. Refute it at one input. -/
def fnExactLadderCoilsWrong : ChangeSpec := { name := "fnExactLadderCoils", fn := fun _ => fun
  | [d] => { results := [.lit (.bool false)], args := [d] }
  | _ => none }
def FnExactLadderCoilsWrongFalsely : Prop := fnExactLadderCoilsRow.holds Try.pinned (OpenSpec.ofChange fnExactLadderCoilsWrong)

/-- 'laws.FnExactRungsIndependent': WHATEVER THE INPUT: true; the input reads as it did. -/
def fnExactRungsIndependentSpec : ChangeSpec := { name := "fnExactRungsIndependent", fn := fun _ => fun
  | [d1, d2] => { results := [.lit (.bool true)], args := [d1, d2] }
  | _ => none }
def fnExactRungsIndependentRow : OpenClaim := { program := "ytlpoeijjlkdceaa", sum := "8dce62ad8156bd20d20d910bf4939294e6c72171948401b7c8a8bf2b959db752", func := "loop.example/plcruntime/laws.FnExactRungsIndependent", spec := "fnExactRungsIndependent", apart := false }
def FnExactRungsIndependentSaid : Prop := fnExactRungsIndependentRow.holds Try.pinned (OpenSpec.ofChange fnExactRungsIndependentSpec)

/-- ITS FALSE NEIGHBOUR: 'it returns false'. Refute it at one input. -/
def fnExactRungsIndependentWrong : ChangeSpec := { name := "fnExactRungsIndependent", fn := fun _ => fun
  | [d1, d2] => { results := [.lit (.bool false)], args := [d1, d2] }
  | _ => none }
def FnExactRungsIndependentWrongFalsely : Prop := fnExactRungsIndependentRow.holds Try.pinned (OpenSpec.ofChange fnExactRungsIndependentWrong)

/-- 'laws.FnExactDoubleCoils': WHATEVER THE INPUT: true; the input reads as it did. -/
def fnExactDoubleCoilsSpec : ChangeSpec := { name := "fnExactDoubleCoils", fn := fun _ => fun
  | [d] => { results := [.lit (.bool true)], args := [d] }
  | _ => none }
def fnExactDoubleCoilsRow : OpenClaim := { program := "ytlpoeijjlkdceaa", sum := "8dce62ad8156bd20d20d910bf4939294e6c72171948401b7c8a8bf2b959db752", func := "loop.example/plcruntime/laws.FnExactDoubleCoils", spec := "fnExactDoubleCoils", apart := false }
def FnExactDoubleCoilsSaid : Prop := fnExactDoubleCoilsRow.holds Try.pinned (OpenSpec.ofChange fnExactDoubleCoilsSpec)

/-- ITS FALSE NEIGHBOUR: 'it returns false'. Refute it at one input. -/
def fnExactDoubleCoilsWrong : ChangeSpec := { name := "fnExactDoubleCoils", fn := fun _ => fun
  | [d] => { results := [.lit (.bool false)], args := [d] }
  | _ => none }
def FnExactDoubleCoilsWrongFalsely : Prop := fnExactDoubleCoilsRow.holds Try.pinned (OpenSpec.ofChange fnExactDoubleCoilsWrong)

/- THE SECOND FORM. 'bulk': how many values and letters a reading holds, each counted each time it is reached (what is shared counts as often as it is met; a slice's spare places count too). A statement '..UptoSaid' is the law's where the arguments, and the package variables that the reading takes, are together of bulk at most 1048576: NARROWER than '..Said'. Prove '..Said' where nothing that the law and all that it calls make is longer than what came in: it says more and counts as full. Else prove '..UptoSaid'. A law counts once. -/
mutual
def uptoBulk {H : Type} : DataW H → Nat
  | .lit (.string bytes) => bytes.length + 1
  | .lit _ => 1
  | .nil => 1
  | .ptr d => uptoBulk d + 1
  | .slice elems spare => uptoBulkAll elems + uptoBulkAll spare + 1
  | .agg parts => uptoBulkAll parts + 1
  | .iface _ d => uptoBulk d + 1
  | .map entries => uptoBulkEntries entries + 1
  | .held _ => 1
def uptoBulkAll {H : Type} : List (DataW H) → Nat
  | [] => 0
  | d :: r => uptoBulk d + uptoBulkAll r
def uptoBulkEntries {H : Type} : List (Lit × DataW H) → Nat
  | [] => 0
  | x :: r => uptoBulkEntry x + uptoBulkEntries r
def uptoBulkEntry {H : Type} : Lit × DataW H → Nat
  | (.string bytes, d) => bytes.length + uptoBulk d + 1
  | (_, d) => uptoBulk d + 1
 end
def uptoSmall : (H : Type) → List (DataW H) → Bool := fun _ ds => decide (uptoBulkAll ds ≤ 1048576)
def OpenSpec.upto (s : _root_.Go.ChangeSpec) : _root_.Go.OpenSpec := { _root_.Go.OpenSpec.ofChange s with cond := some uptoSmall }

/-- 'laws.FnRungValid', WHERE WHAT IT READS IS OF BULK AT MOST 1048576: true; the input reads as it did. -/
def fnRungValidUptoRow : OpenClaim := { program := "ytlpoeijjlkdceaa", sum := "8dce62ad8156bd20d20d910bf4939294e6c72171948401b7c8a8bf2b959db752", func := "loop.example/plcruntime/laws.FnRungValid", spec := "fnRungValid", recurses := true, apart := false, narrowed := true }
def FnRungValidUptoSaid : Prop := fnRungValidUptoRow.holds Try.pinned (OpenSpec.upto fnRungValidSpec)

/-- 'laws.FnLadderValid', WHERE WHAT IT READS IS OF BULK AT MOST 1048576: true; the input reads as it did. -/
def fnLadderValidUptoRow : OpenClaim := { program := "ytlpoeijjlkdceaa", sum := "8dce62ad8156bd20d20d910bf4939294e6c72171948401b7c8a8bf2b959db752", func := "loop.example/plcruntime/laws.FnLadderValid", spec := "fnLadderValid", recurses := true, apart := false, narrowed := true }
def FnLadderValidUptoSaid : Prop := fnLadderValidUptoRow.holds Try.pinned (OpenSpec.upto fnLadderValidSpec)

/-- 'laws.FnRunRung', WHERE WHAT IT READS IS OF BULK AT MOST 1048576: true; the input reads as it did. -/
def fnRunRungUptoRow : OpenClaim := { program := "ytlpoeijjlkdceaa", sum := "8dce62ad8156bd20d20d910bf4939294e6c72171948401b7c8a8bf2b959db752", func := "loop.example/plcruntime/laws.FnRunRung", spec := "fnRunRung", unfollowed := true, recurses := true, apart := false, narrowed := true }
def FnRunRungUptoSaid : Prop := fnRunRungUptoRow.holds Try.pinned (OpenSpec.upto fnRunRungSpec)

/-- 'laws.FnRunLadder', WHERE WHAT IT READS IS OF BULK AT MOST 1048576: true; the input reads as it did. -/
def fnRunLadderUptoRow : OpenClaim := { program := "ytlpoeijjlkdceaa", sum := "8dce62ad8156bd20d20d910bf4939294e6c72171948401b7c8a8bf2b959db752", func := "loop.example/plcruntime/laws.FnRunLadder", spec := "fnRunLadder", unfollowed := true, recurses := true, apart := false, narrowed := true }
def FnRunLadderUptoSaid : Prop := fnRunLadderUptoRow.holds Try.pinned (OpenSpec.upto fnRunLadderSpec)

/-- 'laws.FnLadderCoils', WHERE WHAT IT READS IS OF BULK AT MOST 1048576: true; the input reads as it did. -/
def fnLadderCoilsUptoRow : OpenClaim := { program := "ytlpoeijjlkdceaa", sum := "8dce62ad8156bd20d20d910bf4939294e6c72171948401b7c8a8bf2b959db752", func := "loop.example/plcruntime/laws.FnLadderCoils", spec := "fnLadderCoils", recurses := true, apart := false, narrowed := true }
def FnLadderCoilsUptoSaid : Prop := fnLadderCoilsUptoRow.holds Try.pinned (OpenSpec.upto fnLadderCoilsSpec)

/-- 'laws.FnRungsIndependent', WHERE WHAT IT READS IS OF BULK AT MOST 1048576: true; the input reads as it did. -/
def fnRungsIndependentUptoRow : OpenClaim := { program := "ytlpoeijjlkdceaa", sum := "8dce62ad8156bd20d20d910bf4939294e6c72171948401b7c8a8bf2b959db752", func := "loop.example/plcruntime/laws.FnRungsIndependent", spec := "fnRungsIndependent", unfollowed := true, recurses := true, apart := false, narrowed := true }
def FnRungsIndependentUptoSaid : Prop := fnRungsIndependentUptoRow.holds Try.pinned (OpenSpec.upto fnRungsIndependentSpec)

/-- 'laws.FnDoubleCoils', WHERE WHAT IT READS IS OF BULK AT MOST 1048576: true; the input reads as it did. -/
def fnDoubleCoilsUptoRow : OpenClaim := { program := "ytlpoeijjlkdceaa", sum := "8dce62ad8156bd20d20d910bf4939294e6c72171948401b7c8a8bf2b959db752", func := "loop.example/plcruntime/laws.FnDoubleCoils", spec := "fnDoubleCoils", unfollowed := true, recurses := true, apart := false, narrowed := true }
def FnDoubleCoilsUptoSaid : Prop := fnDoubleCoilsUptoRow.holds Try.pinned (OpenSpec.upto fnDoubleCoilsSpec)

/-- 'laws.FnLadderSettles', WHERE WHAT IT READS IS OF BULK AT MOST 1048576: true; the input reads as it did. -/
def fnLadderSettlesUptoRow : OpenClaim := { program := "ytlpoeijjlkdceaa", sum := "8dce62ad8156bd20d20d910bf4939294e6c72171948401b7c8a8bf2b959db752", func := "loop.example/plcruntime/laws.FnLadderSettles", spec := "fnLadderSettles", unfollowed := true, recurses := true, apart := false, narrowed := true }
def FnLadderSettlesUptoSaid : Prop := fnLadderSettlesUptoRow.holds Try.pinned (OpenSpec.upto fnLadderSettlesSpec)

/-- 'laws.FnExactEvalLogic', WHERE WHAT IT READS IS OF BULK AT MOST 1048576: true; the input reads as it did. -/
def fnExactEvalLogicUptoRow : OpenClaim := { program := "ytlpoeijjlkdceaa", sum := "8dce62ad8156bd20d20d910bf4939294e6c72171948401b7c8a8bf2b959db752", func := "loop.example/plcruntime/laws.FnExactEvalLogic", spec := "fnExactEvalLogic", apart := false, narrowed := true }
def FnExactEvalLogicUptoSaid : Prop := fnExactEvalLogicUptoRow.holds Try.pinned (OpenSpec.upto fnExactEvalLogicSpec)

/-- 'laws.FnExactRungValid', WHERE WHAT IT READS IS OF BULK AT MOST 1048576: true; the input reads as it did. -/
def fnExactRungValidUptoRow : OpenClaim := { program := "ytlpoeijjlkdceaa", sum := "8dce62ad8156bd20d20d910bf4939294e6c72171948401b7c8a8bf2b959db752", func := "loop.example/plcruntime/laws.FnExactRungValid", spec := "fnExactRungValid", apart := false, narrowed := true }
def FnExactRungValidUptoSaid : Prop := fnExactRungValidUptoRow.holds Try.pinned (OpenSpec.upto fnExactRungValidSpec)

/-- 'laws.FnExactRunRung', WHERE WHAT IT READS IS OF BULK AT MOST 1048576: true; the input reads as it did. -/
def fnExactRunRungUptoRow : OpenClaim := { program := "ytlpoeijjlkdceaa", sum := "8dce62ad8156bd20d20d910bf4939294e6c72171948401b7c8a8bf2b959db752", func := "loop.example/plcruntime/laws.FnExactRunRung", spec := "fnExactRunRung", unfollowed := true, recurses := true, apart := false, narrowed := true }
def FnExactRunRungUptoSaid : Prop := fnExactRunRungUptoRow.holds Try.pinned (OpenSpec.upto fnExactRunRungSpec)

/-- 'laws.FnExactRunLadder', WHERE WHAT IT READS IS OF BULK AT MOST 1048576: true; the input reads as it did. -/
def fnExactRunLadderUptoRow : OpenClaim := { program := "ytlpoeijjlkdceaa", sum := "8dce62ad8156bd20d20d910bf4939294e6c72171948401b7c8a8bf2b959db752", func := "loop.example/plcruntime/laws.FnExactRunLadder", spec := "fnExactRunLadder", unfollowed := true, recurses := true, apart := false, narrowed := true }
def FnExactRunLadderUptoSaid : Prop := fnExactRunLadderUptoRow.holds Try.pinned (OpenSpec.upto fnExactRunLadderSpec)

/-- 'laws.FnExactLadderCoils', WHERE WHAT IT READS IS OF BULK AT MOST 1048576: true; the input reads as it did. -/
def fnExactLadderCoilsUptoRow : OpenClaim := { program := "ytlpoeijjlkdceaa", sum := "8dce62ad8156bd20d20d910bf4939294e6c72171948401b7c8a8bf2b959db752", func := "loop.example/plcruntime/laws.FnExactLadderCoils", spec := "fnExactLadderCoils", apart := false, narrowed := true }
def FnExactLadderCoilsUptoSaid : Prop := fnExactLadderCoilsUptoRow.holds Try.pinned (OpenSpec.upto fnExactLadderCoilsSpec)

/-- 'laws.FnExactRungsIndependent', WHERE WHAT IT READS IS OF BULK AT MOST 1048576: true; the input reads as it did. -/
def fnExactRungsIndependentUptoRow : OpenClaim := { program := "ytlpoeijjlkdceaa", sum := "8dce62ad8156bd20d20d910bf4939294e6c72171948401b7c8a8bf2b959db752", func := "loop.example/plcruntime/laws.FnExactRungsIndependent", spec := "fnExactRungsIndependent", apart := false, narrowed := true }
def FnExactRungsIndependentUptoSaid : Prop := fnExactRungsIndependentUptoRow.holds Try.pinned (OpenSpec.upto fnExactRungsIndependentSpec)

/-- 'laws.FnExactDoubleCoils', WHERE WHAT IT READS IS OF BULK AT MOST 1048576: true; the input reads as it did. -/
def fnExactDoubleCoilsUptoRow : OpenClaim := { program := "ytlpoeijjlkdceaa", sum := "8dce62ad8156bd20d20d910bf4939294e6c72171948401b7c8a8bf2b959db752", func := "loop.example/plcruntime/laws.FnExactDoubleCoils", spec := "fnExactDoubleCoils", apart := false, narrowed := true }
def FnExactDoubleCoilsUptoSaid : Prop := fnExactDoubleCoilsUptoRow.holds Try.pinned (OpenSpec.upto fnExactDoubleCoilsSpec)

end Rows
end Go.Proofs.Ytlpoeijjlkdceaa
