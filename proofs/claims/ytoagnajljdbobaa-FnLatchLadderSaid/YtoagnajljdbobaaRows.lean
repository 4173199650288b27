/-
  No cell of these rows narrows 'for every input' (looked for: loops, veiled, ifaces, maps, wideKeys, modest, calm, conditions, laid).
  DERIVED. THE GIVEN ROWS OF THIS SEAT. 17 by the template 'for every input the law returns true; each argument reads behind the call as it read before'; 0 by the template 'total and deterministic' (their statements: YtoagnajljdbobaaTotals.lean).
  GIVEN WITH THE SEED: the statements are not yours to turn. If you find one false, say at which input.
  Laid BY PROGRAM, IN A SANDBOX (cutbox-rows.mjs): the forced cells as the released guide's own fill.sh prints them over the translation 9fe2930a416e3886… (all of the seat's roots in one cut). By AI agents, Wed Nov 11 2026. No macro, syntax, notation, axiom, sorry.
-/
import Derived.Test.YtoagnajljdbobaaChecked
import GoSem.Claim
import GoSem.ClaimJoined
import GoSem.ClaimMapViews
import Derived.JoinedTies
import Derived.KernelRfl
namespace Go.Proofs.Ytoagnajljdbobaa
/- THE CELL 'sum', in the pinned program and in every row, IS THE sha256 OF THE DUMP (.gsa) THAT YtoagnajljdbobaaProg.lean LOADS. Nothing in Lean hashes anything: it is a label: what it is worth is what the hold of that sum in a sandbox is worth. -/
noncomputable def Try.pinned : Pinned := { name := "ytoagnajljdbobaa", sum := "9fe2930a416e3886ed0aeeeed5a2d4b23d2101512381e13e2fb30b45e21884d4", checked := Try.checked }
namespace Rows
def none {H : Type} : Left H := { results := [], args := [] }

/-- 'laws.FnImageValid': WHATEVER THE INPUT: true; the input reads as it did. -/
def fnImageValidSpec : ChangeSpec := { name := "fnImageValid", fn := fun _ => fun
  | [d] => { results := [.lit (.bool true)], args := [d] }
  | _ => none }
def fnImageValidRow : OpenClaim := { program := "ytoagnajljdbobaa", sum := "9fe2930a416e3886ed0aeeeed5a2d4b23d2101512381e13e2fb30b45e21884d4", func := "loop.example/plcruntime/laws.FnImageValid", spec := "fnImageValid", apart := false }
def FnImageValidSaid : Prop := fnImageValidRow.holds Try.pinned (OpenSpec.ofChange fnImageValidSpec)

/-- ITS FALSE NEIGHBOUR: 'it returns false'. Refute it at one input. -/
def fnImageValidWrong : ChangeSpec := { name := "fnImageValid", fn := fun _ => fun
  | [d] => { results := [.lit (.bool false)], args := [d] }
  | _ => none }
def FnImageValidWrongFalsely : Prop := fnImageValidRow.holds Try.pinned (OpenSpec.ofChange fnImageValidWrong)

/-- 'laws.FnNewImage': WHATEVER THE INPUT: true; the input reads as it did. -/
def fnNewImageSpec : ChangeSpec := { name := "fnNewImage", fn := fun _ => fun
  | [d] => { results := [.lit (.bool true)], args := [d] }
  | _ => none }
def fnNewImageRow : OpenClaim := { program := "ytoagnajljdbobaa", sum := "9fe2930a416e3886ed0aeeeed5a2d4b23d2101512381e13e2fb30b45e21884d4", func := "loop.example/plcruntime/laws.FnNewImage", spec := "fnNewImage", apart := false }
def FnNewImageSaid : Prop := fnNewImageRow.holds Try.pinned (OpenSpec.ofChange fnNewImageSpec)

/-- ITS FALSE NEIGHBOUR: 'it returns false'. Refute it at one input. -/
def fnNewImageWrong : ChangeSpec := { name := "fnNewImage", fn := fun _ => fun
  | [d] => { results := [.lit (.bool false)], args := [d] }
  | _ => none }
def FnNewImageWrongFalsely : Prop := fnNewImageRow.holds Try.pinned (OpenSpec.ofChange fnNewImageWrong)

/-- 'laws.FnSetBit': WHATEVER THE INPUT: true; the input reads as it did. -/
def fnSetBitSpec : ChangeSpec := { name := "fnSetBit", fn := fun _ => fun
  | [d] => { results := [.lit (.bool true)], args := [d] }
  | _ => none }
def fnSetBitRow : OpenClaim := { program := "ytoagnajljdbobaa", sum := "9fe2930a416e3886ed0aeeeed5a2d4b23d2101512381e13e2fb30b45e21884d4", func := "loop.example/plcruntime/laws.FnSetBit", spec := "fnSetBit", apart := false }
def FnSetBitSaid : Prop := fnSetBitRow.holds Try.pinned (OpenSpec.ofChange fnSetBitSpec)

/-- ITS FALSE NEIGHBOUR: 'it returns false'. Refute it at one input. -/
def fnSetBitWrong : ChangeSpec := { name := "fnSetBit", fn := fun _ => fun
  | [d] => { results := [.lit (.bool false)], args := [d] }
  | _ => none }
def FnSetBitWrongFalsely : Prop := fnSetBitRow.holds Try.pinned (OpenSpec.ofChange fnSetBitWrong)

/-- 'laws.FnSetWord': WHATEVER THE INPUT: true; the input reads as it did. -/
def fnSetWordSpec : ChangeSpec := { name := "fnSetWord", fn := fun _ => fun
  | [d] => { results := [.lit (.bool true)], args := [d] }
  | _ => none }
def fnSetWordRow : OpenClaim := { program := "ytoagnajljdbobaa", sum := "9fe2930a416e3886ed0aeeeed5a2d4b23d2101512381e13e2fb30b45e21884d4", func := "loop.example/plcruntime/laws.FnSetWord", spec := "fnSetWord", apart := false }
def FnSetWordSaid : Prop := fnSetWordRow.holds Try.pinned (OpenSpec.ofChange fnSetWordSpec)

/-- ITS FALSE NEIGHBOUR: 'it returns false'. Refute it at one input. -/
def fnSetWordWrong : ChangeSpec := { name := "fnSetWord", fn := fun _ => fun
  | [d] => { results := [.lit (.bool false)], args := [d] }
  | _ => none }
def FnSetWordWrongFalsely : Prop := fnSetWordRow.holds Try.pinned (OpenSpec.ofChange fnSetWordWrong)

/-- 'laws.FnChangedBits': WHATEVER THE INPUT: true; the input reads as it did. -/
def fnChangedBitsSpec : ChangeSpec := { name := "fnChangedBits", fn := fun _ => fun
  | [d] => { results := [.lit (.bool true)], args := [d] }
  | _ => none }
def fnChangedBitsRow : OpenClaim := { program := "ytoagnajljdbobaa", sum := "9fe2930a416e3886ed0aeeeed5a2d4b23d2101512381e13e2fb30b45e21884d4", func := "loop.example/plcruntime/laws.FnChangedBits", spec := "fnChangedBits", apart := false }
def FnChangedBitsSaid : Prop := fnChangedBitsRow.holds Try.pinned (OpenSpec.ofChange fnChangedBitsSpec)

/-- ITS FALSE NEIGHBOUR: 'it returns false'. Refute it at one input. -/
def fnChangedBitsWrong : ChangeSpec := { name := "fnChangedBits", fn := fun _ => fun
  | [d] => { results := [.lit (.bool false)], args := [d] }
  | _ => none }
def FnChangedBitsWrongFalsely : Prop := fnChangedBitsRow.holds Try.pinned (OpenSpec.ofChange fnChangedBitsWrong)

/-- 'laws.FnExactImageValid': WHATEVER THE INPUT: true; the input reads as it did. -/
def fnExactImageValidSpec : ChangeSpec := { name := "fnExactImageValid", fn := fun _ => fun
  | [d] => { results := [.lit (.bool true)], args := [d] }
  | _ => none }
def fnExactImageValidRow : OpenClaim := { program := "ytoagnajljdbobaa", sum := "9fe2930a416e3886ed0aeeeed5a2d4b23d2101512381e13e2fb30b45e21884d4", func := "loop.example/plcruntime/laws.FnExactImageValid", spec := "fnExactImageValid", apart := false }
def FnExactImageValidSaid : Prop := fnExactImageValidRow.holds Try.pinned (OpenSpec.ofChange fnExactImageValidSpec)

/-- ITS FALSE NEIGHBOUR: 'it returns false'. Refute it at one input. -/
def fnExactImageValidWrong : ChangeSpec := { name := "fnExactImageValid", fn := fun _ => fun
  | [d] => { results := [.lit (.bool false)], args := [d] }
  | _ => none }
def FnExactImageValidWrongFalsely : Prop := fnExactImageValidRow.holds Try.pinned (OpenSpec.ofChange fnExactImageValidWrong)

/-- 'laws.FnExactSetBit': WHATEVER THE INPUT: true; the input reads as it did. -/
def fnExactSetBitSpec : ChangeSpec := { name := "fnExactSetBit", fn := fun _ => fun
  | [d1, d2, d3] => { results := [.lit (.bool true)], args := [d1, d2, d3] }
  | _ => none }
def fnExactSetBitRow : OpenClaim := { program := "ytoagnajljdbobaa", sum := "9fe2930a416e3886ed0aeeeed5a2d4b23d2101512381e13e2fb30b45e21884d4", func := "loop.example/plcruntime/laws.FnExactSetBit", spec := "fnExactSetBit", apart := false }
def FnExactSetBitSaid : Prop := fnExactSetBitRow.holds Try.pinned (OpenSpec.ofChange fnExactSetBitSpec)

/-- ITS FALSE NEIGHBOUR: 'it returns false'. Refute it at one input. -/
def fnExactSetBitWrong : ChangeSpec := { name := "fnExactSetBit", fn := fun _ => fun
  | [d1, d2, d3] => { results := [.lit (.bool false)], args := [d1, d2, d3] }
  | _ => none }
def FnExactSetBitWrongFalsely : Prop := fnExactSetBitRow.holds Try.pinned (OpenSpec.ofChange fnExactSetBitWrong)

/-- 'laws.FnExactSetWord': WHATEVER THE INPUT: true; the input reads as it did. -/
def fnExactSetWordSpec : ChangeSpec := { name := "fnExactSetWord", fn := fun _ => fun
  | [d1, d2, d3] => { results := [.lit (.bool true)], args := [d1, d2, d3] }
  | _ => none }
def fnExactSetWordRow : OpenClaim := { program := "ytoagnajljdbobaa", sum := "9fe2930a416e3886ed0aeeeed5a2d4b23d2101512381e13e2fb30b45e21884d4", func := "loop.example/plcruntime/laws.FnExactSetWord", spec := "fnExactSetWord", apart := false }
def FnExactSetWordSaid : Prop := fnExactSetWordRow.holds Try.pinned (OpenSpec.ofChange fnExactSetWordSpec)

/-- ITS FALSE NEIGHBOUR: 'it returns false'. Refute it at one input. -/
def fnExactSetWordWrong : ChangeSpec := { name := "fnExactSetWord", fn := fun _ => fun
  | [d1, d2, d3] => { results := [.lit (.bool false)], args := [d1, d2, d3] }
  | _ => none }
def FnExactSetWordWrongFalsely : Prop := fnExactSetWordRow.holds Try.pinned (OpenSpec.ofChange fnExactSetWordWrong)

/-- 'laws.FnExactChangedBits': WHATEVER THE INPUT: true; the input reads as it did. -/
def fnExactChangedBitsSpec : ChangeSpec := { name := "fnExactChangedBits", fn := fun _ => fun
  | [d1, d2] => { results := [.lit (.bool true)], args := [d1, d2] }
  | _ => none }
def fnExactChangedBitsRow : OpenClaim := { program := "ytoagnajljdbobaa", sum := "9fe2930a416e3886ed0aeeeed5a2d4b23d2101512381e13e2fb30b45e21884d4", func := "loop.example/plcruntime/laws.FnExactChangedBits", spec := "fnExactChangedBits", apart := false }
def FnExactChangedBitsSaid : Prop := fnExactChangedBitsRow.holds Try.pinned (OpenSpec.ofChange fnExactChangedBitsSpec)

/-- ITS FALSE NEIGHBOUR: 'it returns false'. Refute it at one input. -/
def fnExactChangedBitsWrong : ChangeSpec := { name := "fnExactChangedBits", fn := fun _ => fun
  | [d1, d2] => { results := [.lit (.bool false)], args := [d1, d2] }
  | _ => none }
def FnExactChangedBitsWrongFalsely : Prop := fnExactChangedBitsRow.holds Try.pinned (OpenSpec.ofChange fnExactChangedBitsWrong)

/-- 'laws.FnRunRung': WHATEVER THE INPUT: true; the input reads as it did. -/
def fnRunRungSpec : ChangeSpec := { name := "fnRunRung", fn := fun _ => fun
  | [d] => { results := [.lit (.bool true)], args := [d] }
  | _ => none }
def fnRunRungRow : OpenClaim := { program := "ytoagnajljdbobaa", sum := "9fe2930a416e3886ed0aeeeed5a2d4b23d2101512381e13e2fb30b45e21884d4", func := "loop.example/plcruntime/laws.FnRunRung", spec := "fnRunRung", unfollowed := true, recurses := true, apart := false }
def FnRunRungSaid : Prop := fnRunRungRow.holds Try.pinned (OpenSpec.ofChange fnRunRungSpec)

/-- ITS FALSE NEIGHBOUR: 'it returns false'. Refute it at one input. -/
def fnRunRungWrong : ChangeSpec := { name := "fnRunRung", fn := fun _ => fun
  | [d] => { results := [.lit (.bool false)], args := [d] }
  | _ => none }
def FnRunRungWrongFalsely : Prop := fnRunRungRow.holds Try.pinned (OpenSpec.ofChange fnRunRungWrong)

/-- 'laws.FnRunLadder': WHATEVER THE INPUT: true; the input reads as it did. -/
def fnRunLadderSpec : ChangeSpec := { name := "fnRunLadder", fn := fun _ => fun
  | [d] => { results := [.lit (.bool true)], args := [d] }
  | _ => none }
def fnRunLadderRow : OpenClaim := { program := "ytoagnajljdbobaa", sum := "9fe2930a416e3886ed0aeeeed5a2d4b23d2101512381e13e2fb30b45e21884d4", func := "loop.example/plcruntime/laws.FnRunLadder", spec := "fnRunLadder", unfollowed := true, recurses := true, apart := false }
def FnRunLadderSaid : Prop := fnRunLadderRow.holds Try.pinned (OpenSpec.ofChange fnRunLadderSpec)

/-- ITS FALSE NEIGHBOUR: 'it returns false'. Refute it at one input. -/
def fnRunLadderWrong : ChangeSpec := { name := "fnRunLadder", fn := fun _ => fun
  | [d] => { results := [.lit (.bool false)], args := [d] }
  | _ => none }
def FnRunLadderWrongFalsely : Prop := fnRunLadderRow.holds Try.pinned (OpenSpec.ofChange fnRunLadderWrong)

/-- 'laws.FnRungsIndependent': WHATEVER THE INPUT: true; the input reads as it did. -/
def fnRungsIndependentSpec : ChangeSpec := { name := "fnRungsIndependent", fn := fun _ => fun
  | [d1, d2] => { results := [.lit (.bool true)], args := [d1, d2] }
  | _ => none }
def fnRungsIndependentRow : OpenClaim := { program := "ytoagnajljdbobaa", sum := "9fe2930a416e3886ed0aeeeed5a2d4b23d2101512381e13e2fb30b45e21884d4", func := "loop.example/plcruntime/laws.FnRungsIndependent", spec := "fnRungsIndependent", unfollowed := true, recurses := true, apart := false }
def FnRungsIndependentSaid : Prop := fnRungsIndependentRow.holds Try.pinned (OpenSpec.ofChange fnRungsIndependentSpec)

/-- ITS FALSE NEIGHBOUR: 'it returns false'. Refute it at one input. -/
def fnRungsIndependentWrong : ChangeSpec := { name := "fnRungsIndependent", fn := fun _ => fun
  | [d1, d2] => { results := [.lit (.bool false)], args := [d1, d2] }
  | _ => none }
def FnRungsIndependentWrongFalsely : Prop := fnRungsIndependentRow.holds Try.pinned (OpenSpec.ofChange fnRungsIndependentWrong)

/-- 'laws.FnDoubleCoils': WHATEVER THE INPUT: true; the input reads as it did. -/
def fnDoubleCoilsSpec : ChangeSpec := { name := "fnDoubleCoils", fn := fun _ => fun
  | [d] => { results := [.lit (.bool true)], args := [d] }
  | _ => none }
def fnDoubleCoilsRow : OpenClaim := { program := "ytoagnajljdbobaa", sum := "9fe2930a416e3886ed0aeeeed5a2d4b23d2101512381e13e2fb30b45e21884d4", func := "loop.example/plcruntime/laws.FnDoubleCoils", spec := "fnDoubleCoils", unfollowed := true, recurses := true, apart := false }
def FnDoubleCoilsSaid : Prop := fnDoubleCoilsRow.holds Try.pinned (OpenSpec.ofChange fnDoubleCoilsSpec)

/-- ITS FALSE NEIGHBOUR: 'it returns false'. Refute it at one input. -/
def fnDoubleCoilsWrong : ChangeSpec := { name := "fnDoubleCoils", fn := fun _ => fun
  | [d] => { results := [.lit (.bool false)], args := [d] }
  | _ => none }
def FnDoubleCoilsWrongFalsely : Prop := fnDoubleCoilsRow.holds Try.pinned (OpenSpec.ofChange fnDoubleCoilsWrong)

/-- 'laws.FnLadderSettles': WHATEVER THE INPUT: true; the input reads as it did. -/
def fnLadderSettlesSpec : ChangeSpec := { name := "fnLadderSettles", fn := fun _ => fun
  | [d] => { results := [.lit (.bool true)], args := [d] }
  | _ => none }
def fnLadderSettlesRow : OpenClaim := { program := "ytoagnajljdbobaa", sum := "9fe2930a416e3886ed0aeeeed5a2d4b23d2101512381e13e2fb30b45e21884d4", func := "loop.example/plcruntime/laws.FnLadderSettles", spec := "fnLadderSettles", unfollowed := true, recurses := true, apart := false }
def FnLadderSettlesSaid : Prop := fnLadderSettlesRow.holds Try.pinned (OpenSpec.ofChange fnLadderSettlesSpec)

/-- ITS FALSE NEIGHBOUR: 'it returns false'. Refute it at one input. -/
def fnLadderSettlesWrong : ChangeSpec := { name := "fnLadderSettles", fn := fun _ => fun
  | [d] => { results := [.lit (.bool false)], args := [d] }
  | _ => none }
def FnLadderSettlesWrongFalsely : Prop := fnLadderSettlesRow.holds Try.pinned (OpenSpec.ofChange fnLadderSettlesWrong)

/-- 'laws.FnExactRunRung': WHATEVER THE INPUT: true; the input reads as it did. -/
def fnExactRunRungSpec : ChangeSpec := { name := "fnExactRunRung", fn := fun _ => fun
  | [d1, d2] => { results := [.lit (.bool true)], args := [d1, d2] }
  | _ => none }
def fnExactRunRungRow : OpenClaim := { program := "ytoagnajljdbobaa", sum := "9fe2930a416e3886ed0aeeeed5a2d4b23d2101512381e13e2fb30b45e21884d4", func := "loop.example/plcruntime/laws.FnExactRunRung", spec := "fnExactRunRung", unfollowed := true, recurses := true, apart := false }
def FnExactRunRungSaid : Prop := fnExactRunRungRow.holds Try.pinned (OpenSpec.ofChange fnExactRunRungSpec)

/-- ITS FALSE NEIGHBOUR: 'it returns false'. Refute it at one input. -/
def fnExactRunRungWrong : ChangeSpec := { name := "fnExactRunRung", fn := fun _ => fun
  | [d1, d2] => { results := [.lit (.bool false)], args := [d1, d2] }
  | _ => none }
def FnExactRunRungWrongFalsely : Prop := fnExactRunRungRow.holds Try.pinned (OpenSpec.ofChange fnExactRunRungWrong)

/-- 'laws.FnExactRunLadder': WHATEVER THE INPUT: true; the input reads as it did. -/
def fnExactRunLadderSpec : ChangeSpec := { name := "fnExactRunLadder", fn := fun _ => fun
  | [d1, d2] => { results := [.lit (.bool true)], args := [d1, d2] }
  | _ => none }
def fnExactRunLadderRow : OpenClaim := { program := "ytoagnajljdbobaa", sum := "9fe2930a416e3886ed0aeeeed5a2d4b23d2101512381e13e2fb30b45e21884d4", func := "loop.example/plcruntime/laws.FnExactRunLadder", spec := "fnExactRunLadder", unfollowed := true, recurses := true, apart := false }
def FnExactRunLadderSaid : Prop := fnExactRunLadderRow.holds Try.pinned (OpenSpec.ofChange fnExactRunLadderSpec)

/-- ITS FALSE NEIGHBOUR: 'it returns false'. Refute it at one input. -/
def fnExactRunLadderWrong : ChangeSpec := { name := "fnExactRunLadder", fn := fun _ => fun
  | [d1, d2] => { results := [.lit (.bool false)], args := [d1, d2] }
  | _ => none }
def FnExactRunLadderWrongFalsely : Prop := fnExactRunLadderRow.holds Try.pinned (OpenSpec.ofChange fnExactRunLadderWrong)

/-- 'laws.FnLatchLadder': WHATEVER THE INPUT: true; the input reads as it did. -/
def fnLatchLadderSpec : ChangeSpec := { name := "fnLatchLadder", fn := fun _ => fun
  | [d] => { results := [.lit (.bool true)], args := [d] }
  | _ => none }
def fnLatchLadderRow : OpenClaim := { program := "ytoagnajljdbobaa", sum := "9fe2930a416e3886ed0aeeeed5a2d4b23d2101512381e13e2fb30b45e21884d4", func := "loop.example/plcruntime/laws.FnLatchLadder", spec := "fnLatchLadder", unfollowed := true, recurses := true, apart := false }
def FnLatchLadderSaid : Prop := fnLatchLadderRow.holds Try.pinned (OpenSpec.ofChange fnLatchLadderSpec)

/-- ITS FALSE NEIGHBOUR: 'it returns false'. Refute it at one input. -/
def fnLatchLadderWrong : ChangeSpec := { name := "fnLatchLadder", fn := fun _ => fun
  | [d] => { results := [.lit (.bool false)], args := [d] }
  | _ => none }
def FnLatchLadderWrongFalsely : Prop := fnLatchLadderRow.holds Try.pinned (OpenSpec.ofChange fnLatchLadderWrong)

/- THE SECOND FORM. 'bulk': how many values and letters a reading holds, each counted each time it is reached (what is shared counts as often as it is met; a slice's spare places count too). A statement '..UptoSaid' is the law's where the arguments, and the package variables that the reading takes, are together of bulk at most 1048576: NARROWER than '..Said'. Prove '..Said' where nothing that the law and all that it calls make is longer than what came in: it says more and counts as full. Else prove '..UptoSaid'. A law counts once. -/
mutual
def uptoBulk {H : Type} : DataW H → Nat
  | .lit (.string bytes) => bytes.length + 1
  | .lit _ => 1
  | .nil => 1
  | .ptr d => uptoBulk d + 1
  | .slice elems spare => uptoBulkAll elems + uptoBulkAll spare + 1
  | .agg parts => uptoBulkAll parts + 1
  | .iface _ d => uptoBulk d + 1
  | .map entries => uptoBulkEntries entries + 1
  | .held _ => 1
def uptoBulkAll {H : Type} : List (DataW H) → Nat
  | [] => 0
  | d :: r => uptoBulk d + uptoBulkAll r
def uptoBulkEntries {H : Type} : List (Lit × DataW H) → Nat
  | [] => 0
  | x :: r => uptoBulkEntry x + uptoBulkEntries r
def uptoBulkEntry {H : Type} : Lit × DataW H → Nat
  | (.string bytes, d) => bytes.length + uptoBulk d + 1
  | (_, d) => uptoBulk d + 1
 end
def uptoSmall : (H : Type) → List (DataW H) → Bool := fun _ ds => decide (uptoBulkAll ds ≤ 1048576)
def OpenSpec.upto (s : _root_.Go.ChangeSpec) : _root_.Go.OpenSpec := { _root_.Go.OpenSpec.ofChange s with cond := some uptoSmall }

/-- 'laws.FnImageValid', WHERE WHAT IT READS IS OF BULK AT MOST 1048576: true; the input reads as it did. -/
def fnImageValidUptoRow : OpenClaim := { program := "ytoagnajljdbobaa", sum := "9fe2930a416e3886ed0aeeeed5a2d4b23d2101512381e13e2fb30b45e21884d4", func := "loop.example/plcruntime/laws.FnImageValid", spec := "fnImageValid", apart := false, narrowed := true }
def FnImageValidUptoSaid : Prop := fnImageValidUptoRow.holds Try.pinned (OpenSpec.upto fnImageValidSpec)

/-- 'laws.FnNewImage', WHERE WHAT IT READS IS OF BULK AT MOST 1048576: true; the input reads as it did. -/
def fnNewImageUptoRow : OpenClaim := { program := "ytoagnajljdbobaa", sum := "9fe2930a416e3886ed0aeeeed5a2d4b23d2101512381e13e2fb30b45e21884d4", func := "loop.example/plcruntime/laws.FnNewImage", spec := "fnNewImage", apart := false, narrowed := true }
def FnNewImageUptoSaid : Prop := fnNewImageUptoRow.holds Try.pinned (OpenSpec.upto fnNewImageSpec)

/-- 'laws.FnSetBit', WHERE WHAT IT READS IS OF BULK AT MOST 1048576: true; the input reads as it did. -/
def fnSetBitUptoRow : OpenClaim := { program := "ytoagnajljdbobaa", sum := "9fe2930a416e3886ed0aeeeed5a2d4b23d2101512381e13e2fb30b45e21884d4", func := "loop.example/plcruntime/laws.FnSetBit", spec := "fnSetBit", apart := false, narrowed := true }
def FnSetBitUptoSaid : Prop := fnSetBitUptoRow.holds Try.pinned (OpenSpec.upto fnSetBitSpec)

/-- 'laws.FnSetWord', WHERE WHAT IT READS IS OF BULK AT MOST 1048576: true; the input reads as it did. -/
def fnSetWordUptoRow : OpenClaim := { program := "ytoagnajljdbobaa", sum := "9fe2930a416e3886ed0aeeeed5a2d4b23d2101512381e13e2fb30b45e21884d4", func := "loop.example/plcruntime/laws.FnSetWord", spec := "fnSetWord", apart := false, narrowed := true }
def FnSetWordUptoSaid : Prop := fnSetWordUptoRow.holds Try.pinned (OpenSpec.upto fnSetWordSpec)

/-- 'laws.FnChangedBits', WHERE WHAT IT READS IS OF BULK AT MOST 1048576: true; the input reads as it did. -/
def fnChangedBitsUptoRow : OpenClaim := { program := "ytoagnajljdbobaa", sum := "9fe2930a416e3886ed0aeeeed5a2d4b23d2101512381e13e2fb30b45e21884d4", func := "loop.example/plcruntime/laws.FnChangedBits", spec := "fnChangedBits", apart := false, narrowed := true }
def FnChangedBitsUptoSaid : Prop := fnChangedBitsUptoRow.holds Try.pinned (OpenSpec.upto fnChangedBitsSpec)

/-- 'laws.FnExactImageValid', WHERE WHAT IT READS IS OF BULK AT MOST 1048576: true; the input reads as it did. -/
def fnExactImageValidUptoRow : OpenClaim := { program := "ytoagnajljdbobaa", sum := "9fe2930a416e3886ed0aeeeed5a2d4b23d2101512381e13e2fb30b45e21884d4", func := "loop.example/plcruntime/laws.FnExactImageValid", spec := "fnExactImageValid", apart := false, narrowed := true }
def FnExactImageValidUptoSaid : Prop := fnExactImageValidUptoRow.holds Try.pinned (OpenSpec.upto fnExactImageValidSpec)

/-- 'laws.FnExactSetBit', WHERE WHAT IT READS IS OF BULK AT MOST 1048576: true; the input reads as it did. -/
def fnExactSetBitUptoRow : OpenClaim := { program := "ytoagnajljdbobaa", sum := "9fe2930a416e3886ed0aeeeed5a2d4b23d2101512381e13e2fb30b45e21884d4", func := "loop.example/plcruntime/laws.FnExactSetBit", spec := "fnExactSetBit", apart := false, narrowed := true }
def FnExactSetBitUptoSaid : Prop := fnExactSetBitUptoRow.holds Try.pinned (OpenSpec.upto fnExactSetBitSpec)

/-- 'laws.FnExactSetWord', WHERE WHAT IT READS IS OF BULK AT MOST 1048576: true; the input reads as it did. -/
def fnExactSetWordUptoRow : OpenClaim := { program := "ytoagnajljdbobaa", sum := "9fe2930a416e3886ed0aeeeed5a2d4b23d2101512381e13e2fb30b45e21884d4", func := "loop.example/plcruntime/laws.FnExactSetWord", spec := "fnExactSetWord", apart := false, narrowed := true }
def FnExactSetWordUptoSaid : Prop := fnExactSetWordUptoRow.holds Try.pinned (OpenSpec.upto fnExactSetWordSpec)

/-- 'laws.FnExactChangedBits', WHERE WHAT IT READS IS OF BULK AT MOST 1048576: true; the input reads as it did. -/
def fnExactChangedBitsUptoRow : OpenClaim := { program := "ytoagnajljdbobaa", sum := "9fe2930a416e3886ed0aeeeed5a2d4b23d2101512381e13e2fb30b45e21884d4", func := "loop.example/plcruntime/laws.FnExactChangedBits", spec := "fnExactChangedBits", apart := false, narrowed := true }
def FnExactChangedBitsUptoSaid : Prop := fnExactChangedBitsUptoRow.holds Try.pinned (OpenSpec.upto fnExactChangedBitsSpec)

/-- 'laws.FnRunRung', WHERE WHAT IT READS IS OF BULK AT MOST 1048576: true; the input reads as it did. -/
def fnRunRungUptoRow : OpenClaim := { program := "ytoagnajljdbobaa", sum := "9fe2930a416e3886ed0aeeeed5a2d4b23d2101512381e13e2fb30b45e21884d4", func := "loop.example/plcruntime/laws.FnRunRung", spec := "fnRunRung", unfollowed := true, recurses := true, apart := false, narrowed := true }
def FnRunRungUptoSaid : Prop := fnRunRungUptoRow.holds Try.pinned (OpenSpec.upto fnRunRungSpec)

/-- 'laws.FnRunLadder', WHERE WHAT IT READS IS OF BULK AT MOST 1048576: true; the input reads as it did. -/
def fnRunLadderUptoRow : OpenClaim := { program := "ytoagnajljdbobaa", sum := "9fe2930a416e3886ed0aeeeed5a2d4b23d2101512381e13e2fb30b45e21884d4", func := "loop.example/plcruntime/laws.FnRunLadder", spec := "fnRunLadder", unfollowed := true, recurses := true, apart := false, narrowed := true }
def FnRunLadderUptoSaid : Prop := fnRunLadderUptoRow.holds Try.pinned (OpenSpec.upto fnRunLadderSpec)

/-- 'laws.FnRungsIndependent', WHERE WHAT IT READS IS OF BULK AT MOST 1048576: true; the input reads as it did. -/
def fnRungsIndependentUptoRow : OpenClaim := { program := "ytoagnajljdbobaa", sum := "9fe2930a416e3886ed0aeeeed5a2d4b23d2101512381e13e2fb30b45e21884d4", func := "loop.example/plcruntime/laws.FnRungsIndependent", spec := "fnRungsIndependent", unfollowed := true, recurses := true, apart := false, narrowed := true }
def FnRungsIndependentUptoSaid : Prop := fnRungsIndependentUptoRow.holds Try.pinned (OpenSpec.upto fnRungsIndependentSpec)

/-- 'laws.FnDoubleCoils', WHERE WHAT IT READS IS OF BULK AT MOST 1048576: true; the input reads as it did. -/
def fnDoubleCoilsUptoRow : OpenClaim := { program := "ytoagnajljdbobaa", sum := "9fe2930a416e3886ed0aeeeed5a2d4b23d2101512381e13e2fb30b45e21884d4", func := "loop.example/plcruntime/laws.FnDoubleCoils", spec := "fnDoubleCoils", unfollowed := true, recurses := true, apart := false, narrowed := true }
def FnDoubleCoilsUptoSaid : Prop := fnDoubleCoilsUptoRow.holds Try.pinned (OpenSpec.upto fnDoubleCoilsSpec)

/-- 'laws.FnLadderSettles', WHERE WHAT IT READS IS OF BULK AT MOST 1048576: true; the input reads as it did. -/
def fnLadderSettlesUptoRow : OpenClaim := { program := "ytoagnajljdbobaa", sum := "9fe2930a416e3886ed0aeeeed5a2d4b23d2101512381e13e2fb30b45e21884d4", func := "loop.example/plcruntime/laws.FnLadderSettles", spec := "fnLadderSettles", unfollowed := true, recurses := true, apart := false, narrowed := true }
def FnLadderSettlesUptoSaid : Prop := fnLadderSettlesUptoRow.holds Try.pinned (OpenSpec.upto fnLadderSettlesSpec)

/-- 'laws.FnExactRunRung', WHERE WHAT IT READS IS OF BULK AT MOST 1048576: true; the input reads as it did. -/
def fnExactRunRungUptoRow : OpenClaim := { program := "ytoagnajljdbobaa", sum := "9fe2930a416e3886ed0aeeeed5a2d4b23d2101512381e13e2fb30b45e21884d4", func := "loop.example/plcruntime/laws.FnExactRunRung", spec := "fnExactRunRung", unfollowed := true, recurses := true, apart := false, narrowed := true }
def FnExactRunRungUptoSaid : Prop := fnExactRunRungUptoRow.holds Try.pinned (OpenSpec.upto fnExactRunRungSpec)

/-- 'laws.FnExactRunLadder', WHERE WHAT IT READS IS OF BULK AT MOST 1048576: true; the input reads as it did. -/
def fnExactRunLadderUptoRow : OpenClaim := { program := "ytoagnajljdbobaa", sum := "9fe2930a416e3886ed0aeeeed5a2d4b23d2101512381e13e2fb30b45e21884d4", func := "loop.example/plcruntime/laws.FnExactRunLadder", spec := "fnExactRunLadder", unfollowed := true, recurses := true, apart := false, narrowed := true }
def FnExactRunLadderUptoSaid : Prop := fnExactRunLadderUptoRow.holds Try.pinned (OpenSpec.upto fnExactRunLadderSpec)

/-- 'laws.FnLatchLadder', WHERE WHAT IT READS IS OF BULK AT MOST 1048576: true; the input reads as it did. -/
def fnLatchLadderUptoRow : OpenClaim := { program := "ytoagnajljdbobaa", sum := "9fe2930a416e3886ed0aeeeed5a2d4b23d2101512381e13e2fb30b45e21884d4", func := "loop.example/plcruntime/laws.FnLatchLadder", spec := "fnLatchLadder", unfollowed := true, recurses := true, apart := false, narrowed := true }
def FnLatchLadderUptoSaid : Prop := fnLatchLadderUptoRow.holds Try.pinned (OpenSpec.upto fnLatchLadderSpec)

end Rows
end Go.Proofs.Ytoagnajljdbobaa
