/-
  No cell of these rows narrows 'for every input' (looked for: loops, veiled, ifaces, maps, wideKeys, modest, calm, conditions, laid).
  DERIVED. THE GIVEN ROWS OF THIS SEAT. 14 by the template 'for every input the law returns true; each argument reads behind the call as it read before'; 0 by the template 'total and deterministic' (their statements: YtmalbjeegjhhoaaTotals.lean).
  GIVEN WITH THE SEED: the statements are not yours to turn. If you find one false, say at which input.
  Laid BY PROGRAM, IN A SANDBOX (cutbox-rows.mjs): the forced cells as the released guide's own fill.sh prints them over the translation 0a3a85ea3437d758… (all of the seat's roots in one cut). By AI agents, Wed Nov 11 2026. No macro, syntax, notation, axiom, sorry.
-/
import Derived.Test.YtmalbjeegjhhoaaChecked
import GoSem.Claim
import GoSem.ClaimJoined
import GoSem.ClaimMapViews
import Derived.JoinedTies
import Derived.KernelRfl
namespace Go.Proofs.Ytmalbjeegjhhoaa
/- THE CELL 'sum', in the pinned program and in every row, IS THE sha256 OF THE DUMP (.gsa) THAT YtmalbjeegjhhoaaProg.lean LOADS. Nothing in Lean hashes anything: it is a label: what it is worth is what the hold of that sum in a sandbox is worth. -/
noncomputable def Try.pinned : Pinned := { name := "ytmalbjeegjhhoaa", sum := "0a3a85ea3437d7588d94b8a4dd8d7645ace43c4ba2c457f5f3a82a59e809b789", checked := Try.checked }
namespace Rows
def none {H : Type} : Left H := { results := [], args := [] }

/-- 'laws.FnImageValid': WHATEVER THE INPUT: true; the input reads as it did. -/
def fnImageValidSpec : ChangeSpec := { name := "fnImageValid", fn := fun _ => fun
  | [d] => { results := [.lit (.bool true)], args := [d] }
  | _ => none }
def fnImageValidRow : OpenClaim := { program := "ytmalbjeegjhhoaa", sum := "0a3a85ea3437d7588d94b8a4dd8d7645ace43c4ba2c457f5f3a82a59e809b789", func := "loop.example/plcruntime/laws.FnImageValid", spec := "fnImageValid", apart := false }
def FnImageValidSaid : Prop := fnImageValidRow.holds Try.pinned (OpenSpec.ofChange fnImageValidSpec)

/-- ITS FALSE NEIGHBOUR: 'it returns false'. Refute it at one input. -/
def fnImageValidWrong : ChangeSpec := { name := "fnImageValid", fn := fun _ => fun
  | [d] => { results := [.lit (.bool false)], args := [d] }
  | _ => none }
def FnImageValidWrongFalsely : Prop := fnImageValidRow.holds Try.pinned (OpenSpec.ofChange fnImageValidWrong)

/-- 'laws.FnNewImage': WHATEVER THE INPUT: true; the input reads as it did. -/
def fnNewImageSpec : ChangeSpec := { name := "fnNewImage", fn := fun _ => fun
  | [d] => { results := [.lit (.bool true)], args := [d] }
  | _ => none }
def fnNewImageRow : OpenClaim := { program := "ytmalbjeegjhhoaa", sum := "0a3a85ea3437d7588d94b8a4dd8d7645ace43c4ba2c457f5f3a82a59e809b789", func := "loop.example/plcruntime/laws.FnNewImage", spec := "fnNewImage", apart := false }
def FnNewImageSaid : Prop := fnNewImageRow.holds Try.pinned (OpenSpec.ofChange fnNewImageSpec)

/-- ITS FALSE NEIGHBOUR: 'it returns false'. Refute it at one input. -/
def fnNewImageWrong : ChangeSpec := { name := "fnNewImage", fn := fun _ => fun
  | [d] => { results := [.lit (.bool false)], args := [d] }
  | _ => none }
def FnNewImageWrongFalsely : Prop := fnNewImageRow.holds Try.pinned (OpenSpec.ofChange fnNewImageWrong)

/-- 'laws.FnGetBit': WHATEVER THE INPUT: true; the input reads as it did. -/
def fnGetBitSpec : ChangeSpec := { name := "fnGetBit", fn := fun _ => fun
  | [d] => { results := [.lit (.bool true)], args := [d] }
  | _ => none }
def fnGetBitRow : OpenClaim := { program := "ytmalbjeegjhhoaa", sum := "0a3a85ea3437d7588d94b8a4dd8d7645ace43c4ba2c457f5f3a82a59e809b789", func := "loop.example/plcruntime/laws.FnGetBit", spec := "fnGetBit", apart := false }
def FnGetBitSaid : Prop := fnGetBitRow.holds Try.pinned (OpenSpec.ofChange fnGetBitSpec)

/-- ITS FALSE NEIGHBOUR: 'it returns false'. Refute it at one input. -/
def fnGetBitWrong : ChangeSpec := { name := "fnGetBit", fn := fun _ => fun
  | [d] => { results := [.lit (.bool false)], args := [d] }
  | _ => none }
def FnGetBitWrongFalsely : Prop := fnGetBitRow.holds Try.pinned (OpenSpec.ofChange fnGetBitWrong)

/-- 'laws.FnSetBit': WHATEVER THE INPUT: true; the input reads as it did. -/
def fnSetBitSpec : ChangeSpec := { name := "fnSetBit", fn := fun _ => fun
  | [d] => { results := [.lit (.bool true)], args := [d] }
  | _ => none }
def fnSetBitRow : OpenClaim := { program := "ytmalbjeegjhhoaa", sum := "0a3a85ea3437d7588d94b8a4dd8d7645ace43c4ba2c457f5f3a82a59e809b789", func := "loop.example/plcruntime/laws.FnSetBit", spec := "fnSetBit", apart := false }
def FnSetBitSaid : Prop := fnSetBitRow.holds Try.pinned (OpenSpec.ofChange fnSetBitSpec)

/-- ITS FALSE NEIGHBOUR: 'it returns false'. Refute it at one input. -/
def fnSetBitWrong : ChangeSpec := { name := "fnSetBit", fn := fun _ => fun
  | [d] => { results := [.lit (.bool false)], args := [d] }
  | _ => none }
def FnSetBitWrongFalsely : Prop := fnSetBitRow.holds Try.pinned (OpenSpec.ofChange fnSetBitWrong)

/-- 'laws.FnGetWord': WHATEVER THE INPUT: true; the input reads as it did. -/
def fnGetWordSpec : ChangeSpec := { name := "fnGetWord", fn := fun _ => fun
  | [d] => { results := [.lit (.bool true)], args := [d] }
  | _ => none }
def fnGetWordRow : OpenClaim := { program := "ytmalbjeegjhhoaa", sum := "0a3a85ea3437d7588d94b8a4dd8d7645ace43c4ba2c457f5f3a82a59e809b789", func := "loop.example/plcruntime/laws.FnGetWord", spec := "fnGetWord", apart := false }
def FnGetWordSaid : Prop := fnGetWordRow.holds Try.pinned (OpenSpec.ofChange fnGetWordSpec)

/-- ITS FALSE NEIGHBOUR: 'it returns false'. Refute it at one input. -/
def fnGetWordWrong : ChangeSpec := { name := "fnGetWord", fn := fun _ => fun
  | [d] => { results := [.lit (.bool false)], args := [d] }
  | _ => none }
def FnGetWordWrongFalsely : Prop := fnGetWordRow.holds Try.pinned (OpenSpec.ofChange fnGetWordWrong)

/-- 'laws.FnSetWord': WHATEVER THE INPUT: true; the input reads as it did. -/
def fnSetWordSpec : ChangeSpec := { name := "fnSetWord", fn := fun _ => fun
  | [d] => { results := [.lit (.bool true)], args := [d] }
  | _ => none }
def fnSetWordRow : OpenClaim := { program := "ytmalbjeegjhhoaa", sum := "0a3a85ea3437d7588d94b8a4dd8d7645ace43c4ba2c457f5f3a82a59e809b789", func := "loop.example/plcruntime/laws.FnSetWord", spec := "fnSetWord", apart := false }
def FnSetWordSaid : Prop := fnSetWordRow.holds Try.pinned (OpenSpec.ofChange fnSetWordSpec)

/-- ITS FALSE NEIGHBOUR: 'it returns false'. Refute it at one input. -/
def fnSetWordWrong : ChangeSpec := { name := "fnSetWord", fn := fun _ => fun
  | [d] => { results := [.lit (.bool false)], args := [d] }
  | _ => none }
def FnSetWordWrongFalsely : Prop := fnSetWordRow.holds Try.pinned (OpenSpec.ofChange fnSetWordWrong)

/-- 'laws.FnChangedBits': WHATEVER THE INPUT: true; the input reads as it did. -/
def fnChangedBitsSpec : ChangeSpec := { name := "fnChangedBits", fn := fun _ => fun
  | [d] => { results := [.lit (.bool true)], args := [d] }
  | _ => none }
def fnChangedBitsRow : OpenClaim := { program := "ytmalbjeegjhhoaa", sum := "0a3a85ea3437d7588d94b8a4dd8d7645ace43c4ba2c457f5f3a82a59e809b789", func := "loop.example/plcruntime/laws.FnChangedBits", spec := "fnChangedBits", apart := false }
def FnChangedBitsSaid : Prop := fnChangedBitsRow.holds Try.pinned (OpenSpec.ofChange fnChangedBitsSpec)

/-- ITS FALSE NEIGHBOUR: 'it returns false'. Refute it at one input. -/
def fnChangedBitsWrong : ChangeSpec := { name := "fnChangedBits", fn := fun _ => fun
  | [d] => { results := [.lit (.bool false)], args := [d] }
  | _ => none }
def FnChangedBitsWrongFalsely : Prop := fnChangedBitsRow.holds Try.pinned (OpenSpec.ofChange fnChangedBitsWrong)

/-- 'laws.FnExactImageValid': WHATEVER THE INPUT: true; the input reads as it did. -/
def fnExactImageValidSpec : ChangeSpec := { name := "fnExactImageValid", fn := fun _ => fun
  | [d] => { results := [.lit (.bool true)], args := [d] }
  | _ => none }
def fnExactImageValidRow : OpenClaim := { program := "ytmalbjeegjhhoaa", sum := "0a3a85ea3437d7588d94b8a4dd8d7645ace43c4ba2c457f5f3a82a59e809b789", func := "loop.example/plcruntime/laws.FnExactImageValid", spec := "fnExactImageValid", apart := false }
def FnExactImageValidSaid : Prop := fnExactImageValidRow.holds Try.pinned (OpenSpec.ofChange fnExactImageValidSpec)

/-- ITS FALSE NEIGHBOUR: 'it returns false'. Refute it at one input. -/
def fnExactImageValidWrong : ChangeSpec := { name := "fnExactImageValid", fn := fun _ => fun
  | [d] => { results := [.lit (.bool false)], args := [d] }
  | _ => none }
def FnExactImageValidWrongFalsely : Prop := fnExactImageValidRow.holds Try.pinned (OpenSpec.ofChange fnExactImageValidWrong)

/-- 'laws.FnExactNewImage': WHATEVER THE INPUT: true; the input reads as it did. -/
def fnExactNewImageSpec : ChangeSpec := { name := "fnExactNewImage", fn := fun _ => fun
  | [d1, d2] => { results := [.lit (.bool true)], args := [d1, d2] }
  | _ => none }
def fnExactNewImageRow : OpenClaim := { program := "ytmalbjeegjhhoaa", sum := "0a3a85ea3437d7588d94b8a4dd8d7645ace43c4ba2c457f5f3a82a59e809b789", func := "loop.example/plcruntime/laws.FnExactNewImage", spec := "fnExactNewImage", apart := false }
def FnExactNewImageSaid : Prop := fnExactNewImageRow.holds Try.pinned (OpenSpec.ofChange fnExactNewImageSpec)

/-- ITS FALSE NEIGHBOUR: 'it returns false'. Refute it at one input. -/
def fnExactNewImageWrong : ChangeSpec := { name := "fnExactNewImage", fn := fun _ => fun
  | [d1, d2] => { results := [.lit (.bool false)], args := [d1, d2] }
  | _ => none }
def FnExactNewImageWrongFalsely : Prop := fnExactNewImageRow.holds Try.pinned (OpenSpec.ofChange fnExactNewImageWrong)

/-- 'laws.FnExactGetBit': WHATEVER THE INPUT: true; the input reads as it did. -/
def fnExactGetBitSpec : ChangeSpec := { name := "fnExactGetBit", fn := fun _ => fun
  | [d1, d2] => { results := [.lit (.bool true)], args := [d1, d2] }
  | _ => none }
def fnExactGetBitRow : OpenClaim := { program := "ytmalbjeegjhhoaa", sum := "0a3a85ea3437d7588d94b8a4dd8d7645ace43c4ba2c457f5f3a82a59e809b789", func := "loop.example/plcruntime/laws.FnExactGetBit", spec := "fnExactGetBit", apart := false }
def FnExactGetBitSaid : Prop := fnExactGetBitRow.holds Try.pinned (OpenSpec.ofChange fnExactGetBitSpec)

/-- ITS FALSE NEIGHBOUR: 'it returns false'. Refute it at one input. -/
def fnExactGetBitWrong : ChangeSpec := { name := "fnExactGetBit", fn := fun _ => fun
  | [d1, d2] => { results := [.lit (.bool false)], args := [d1, d2] }
  | _ => none }
def FnExactGetBitWrongFalsely : Prop := fnExactGetBitRow.holds Try.pinned (OpenSpec.ofChange fnExactGetBitWrong)

/-- 'laws.FnExactSetBit': WHATEVER THE INPUT: true; the input reads as it did. -/
def fnExactSetBitSpec : ChangeSpec := { name := "fnExactSetBit", fn := fun _ => fun
  | [d1, d2, d3] => { results := [.lit (.bool true)], args := [d1, d2, d3] }
  | _ => none }
def fnExactSetBitRow : OpenClaim := { program := "ytmalbjeegjhhoaa", sum := "0a3a85ea3437d7588d94b8a4dd8d7645ace43c4ba2c457f5f3a82a59e809b789", func := "loop.example/plcruntime/laws.FnExactSetBit", spec := "fnExactSetBit", apart := false }
def FnExactSetBitSaid : Prop := fnExactSetBitRow.holds Try.pinned (OpenSpec.ofChange fnExactSetBitSpec)

/-- ITS FALSE NEIGHBOUR: 'it returns false'. Refute it at one input. -/
def fnExactSetBitWrong : ChangeSpec := { name := "fnExactSetBit", fn := fun _ => fun
  | [d1, d2, d3] => { results := [.lit (.bool false)], args := [d1, d2, d3] }
  | _ => none }
def FnExactSetBitWrongFalsely : Prop := fnExactSetBitRow.holds Try.pinned (OpenSpec.ofChange fnExactSetBitWrong)

/-- 'laws.FnExactGetWord': WHATEVER THE INPUT: true; the input reads as it did. -/
def fnExactGetWordSpec : ChangeSpec := { name := "fnExactGetWord", fn := fun _ => fun
  | [d1, d2] => { results := [.lit (.bool true)], args := [d1, d2] }
  | _ => none }
def fnExactGetWordRow : OpenClaim := { program := "ytmalbjeegjhhoaa", sum := "0a3a85ea3437d7588d94b8a4dd8d7645ace43c4ba2c457f5f3a82a59e809b789", func := "loop.example/plcruntime/laws.FnExactGetWord", spec := "fnExactGetWord", apart := false }
def FnExactGetWordSaid : Prop := fnExactGetWordRow.holds Try.pinned (OpenSpec.ofChange fnExactGetWordSpec)

/-- ITS FALSE NEIGHBOUR: 'it returns false'. Refute it at one input. -/
def fnExactGetWordWrong : ChangeSpec := { name := "fnExactGetWord", fn := fun _ => fun
  | [d1, d2] => { results := [.lit (.bool false)], args := [d1, d2] }
  | _ => none }
def FnExactGetWordWrongFalsely : Prop := fnExactGetWordRow.holds Try.pinned (OpenSpec.ofChange fnExactGetWordWrong)

/-- 'laws.FnExactSetWord': WHATEVER THE INPUT: true; the input reads as it did. -/
def fnExactSetWordSpec : ChangeSpec := { name := "fnExactSetWord", fn := fun _ => fun
  | [d1, d2, d3] => { results := [.lit (.bool true)], args := [d1, d2, d3] }
  | _ => none }
def fnExactSetWordRow : OpenClaim := { program := "ytmalbjeegjhhoaa", sum := "0a3a85ea3437d7588d94b8a4dd8d7645ace43c4ba2c457f5f3a82a59e809b789", func := "loop.example/plcruntime/laws.FnExactSetWord", spec := "fnExactSetWord", apart := false }
def FnExactSetWordSaid : Prop := fnExactSetWordRow.holds Try.pinned (OpenSpec.ofChange fnExactSetWordSpec)

/-- ITS FALSE NEIGHBOUR: 'it returns false'. Refute it at one input. -/
def fnExactSetWordWrong : ChangeSpec := { name := "fnExactSetWord", fn := fun _ => fun
  | [d1, d2, d3] => { results := [.lit (.bool false)], args := [d1, d2, d3] }
  | _ => none }
def FnExactSetWordWrongFalsely : Prop := fnExactSetWordRow.holds Try.pinned (OpenSpec.ofChange fnExactSetWordWrong)

/-- 'laws.FnExactChangedBits': WHATEVER THE INPUT: true; the input reads as it did. -/
def fnExactChangedBitsSpec : ChangeSpec := { name := "fnExactChangedBits", fn := fun _ => fun
  | [d1, d2] => { results := [.lit (.bool true)], args := [d1, d2] }
  | _ => none }
def fnExactChangedBitsRow : OpenClaim := { program := "ytmalbjeegjhhoaa", sum := "0a3a85ea3437d7588d94b8a4dd8d7645ace43c4ba2c457f5f3a82a59e809b789", func := "loop.example/plcruntime/laws.FnExactChangedBits", spec := "fnExactChangedBits", apart := false }
def FnExactChangedBitsSaid : Prop := fnExactChangedBitsRow.holds Try.pinned (OpenSpec.ofChange fnExactChangedBitsSpec)

/-- ITS FALSE NEIGHBOUR: 'it returns false'. Refute it at one input. -/
def fnExactChangedBitsWrong : ChangeSpec := { name := "fnExactChangedBits", fn := fun _ => fun
  | [d1, d2] => { results := [.lit (.bool false)], args := [d1, d2] }
  | _ => none }
def FnExactChangedBitsWrongFalsely : Prop := fnExactChangedBitsRow.holds Try.pinned (OpenSpec.ofChange fnExactChangedBitsWrong)

/- THE SECOND FORM. 'bulk': how many values and letters a reading holds, each counted each time it is reached (what is shared counts as often as it is met; a slice's spare places count too). A statement '..UptoSaid' is the law's where the arguments, and the package variables that the reading takes, are together of bulk at most 1048576: NARROWER than '..Said'. Prove '..Said' where nothing that the law and all that it calls make is longer than what came in: it says more and counts as full. Else prove '..UptoSaid'. A law counts once. -/
mutual
def uptoBulk {H : Type} : DataW H → Nat
  | .lit (.string bytes) => bytes.length + 1
  | .lit _ => 1
  | .nil => 1
  | .ptr d => uptoBulk d + 1
  | .slice elems spare => uptoBulkAll elems + uptoBulkAll spare + 1
  | .agg parts => uptoBulkAll parts + 1
  | .iface _ d => uptoBulk d + 1
  | .map entries => uptoBulkEntries entries + 1
  | .held _ => 1
def uptoBulkAll {H : Type} : List (DataW H) → Nat
  | [] => 0
  | d :: r => uptoBulk d + uptoBulkAll r
def uptoBulkEntries {H : Type} : List (Lit × DataW H) → Nat
  | [] => 0
  | x :: r => uptoBulkEntry x + uptoBulkEntries r
def uptoBulkEntry {H : Type} : Lit × DataW H → Nat
  | (.string bytes, d) => bytes.length + uptoBulk d + 1
  | (_, d) => uptoBulk d + 1
 end
def uptoSmall : (H : Type) → List (DataW H) → Bool := fun _ ds => decide (uptoBulkAll ds ≤ 1048576)
def OpenSpec.upto (s : _root_.Go.ChangeSpec) : _root_.Go.OpenSpec := { _root_.Go.OpenSpec.ofChange s with cond := some uptoSmall }

/-- 'laws.FnImageValid', WHERE WHAT IT READS IS OF BULK AT MOST 1048576: true; the input reads as it did. -/
def fnImageValidUptoRow : OpenClaim := { program := "ytmalbjeegjhhoaa", sum := "0a3a85ea3437d7588d94b8a4dd8d7645ace43c4ba2c457f5f3a82a59e809b789", func := "loop.example/plcruntime/laws.FnImageValid", spec := "fnImageValid", apart := false, narrowed := true }
def FnImageValidUptoSaid : Prop := fnImageValidUptoRow.holds Try.pinned (OpenSpec.upto fnImageValidSpec)

/-- 'laws.FnNewImage', WHERE WHAT IT READS IS OF BULK AT MOST 1048576: true; the input reads as it did. -/
def fnNewImageUptoRow : OpenClaim := { program := "ytmalbjeegjhhoaa", sum := "0a3a85ea3437d7588d94b8a4dd8d7645ace43c4ba2c457f5f3a82a59e809b789", func := "loop.example/plcruntime/laws.FnNewImage", spec := "fnNewImage", apart := false, narrowed := true }
def FnNewImageUptoSaid : Prop := fnNewImageUptoRow.holds Try.pinned (OpenSpec.upto fnNewImageSpec)

/-- 'laws.FnGetBit', WHERE WHAT IT READS IS OF BULK AT MOST 1048576: true; the input reads as it did. -/
def fnGetBitUptoRow : OpenClaim := { program := "ytmalbjeegjhhoaa", sum := "0a3a85ea3437d7588d94b8a4dd8d7645ace43c4ba2c457f5f3a82a59e809b789", func := "loop.example/plcruntime/laws.FnGetBit", spec := "fnGetBit", apart := false, narrowed := true }
def FnGetBitUptoSaid : Prop := fnGetBitUptoRow.holds Try.pinned (OpenSpec.upto fnGetBitSpec)

/-- 'laws.FnSetBit', WHERE WHAT IT READS IS OF BULK AT MOST 1048576: true; the input reads as it did. -/
def fnSetBitUptoRow : OpenClaim := { program := "ytmalbjeegjhhoaa", sum := "0a3a85ea3437d7588d94b8a4dd8d7645ace43c4ba2c457f5f3a82a59e809b789", func := "loop.example/plcruntime/laws.FnSetBit", spec := "fnSetBit", apart := false, narrowed := true }
def FnSetBitUptoSaid : Prop := fnSetBitUptoRow.holds Try.pinned (OpenSpec.upto fnSetBitSpec)

/-- 'laws.FnGetWord', WHERE WHAT IT READS IS OF BULK AT MOST 1048576: true; the input reads as it did. -/
def fnGetWordUptoRow : OpenClaim := { program := "ytmalbjeegjhhoaa", sum := "0a3a85ea3437d7588d94b8a4dd8d7645ace43c4ba2c457f5f3a82a59e809b789", func := "loop.example/plcruntime/laws.FnGetWord", spec := "fnGetWord", apart := false, narrowed := true }
def FnGetWordUptoSaid : Prop := fnGetWordUptoRow.holds Try.pinned (OpenSpec.upto fnGetWordSpec)

/-- 'laws.FnSetWord', WHERE WHAT IT READS IS OF BULK AT MOST 1048576: true; the input reads as it did. -/
def fnSetWordUptoRow : OpenClaim := { program := "ytmalbjeegjhhoaa", sum := "0a3a85ea3437d7588d94b8a4dd8d7645ace43c4ba2c457f5f3a82a59e809b789", func := "loop.example/plcruntime/laws.FnSetWord", spec := "fnSetWord", apart := false, narrowed := true }
def FnSetWordUptoSaid : Prop := fnSetWordUptoRow.holds Try.pinned (OpenSpec.upto fnSetWordSpec)

/-- 'laws.FnChangedBits', WHERE WHAT IT READS IS OF BULK AT MOST 1048576: true; the input reads as it did. -/
def fnChangedBitsUptoRow : OpenClaim := { program := "ytmalbjeegjhhoaa", sum := "0a3a85ea3437d7588d94b8a4dd8d7645ace43c4ba2c457f5f3a82a59e809b789", func := "loop.example/plcruntime/laws.FnChangedBits", spec := "fnChangedBits", apart := false, narrowed := true }
def FnChangedBitsUptoSaid : Prop := fnChangedBitsUptoRow.holds Try.pinned (OpenSpec.upto fnChangedBitsSpec)

/-- 'laws.FnExactImageValid', WHERE WHAT IT READS IS OF BULK AT MOST 1048576: true; the input reads as it did. -/
def fnExactImageValidUptoRow : OpenClaim := { program := "ytmalbjeegjhhoaa", sum := "0a3a85ea3437d7588d94b8a4dd8d7645ace43c4ba2c457f5f3a82a59e809b789", func := "loop.example/plcruntime/laws.FnExactImageValid", spec := "fnExactImageValid", apart := false, narrowed := true }
def FnExactImageValidUptoSaid : Prop := fnExactImageValidUptoRow.holds Try.pinned (OpenSpec.upto fnExactImageValidSpec)

/-- 'laws.FnExactNewImage', WHERE WHAT IT READS IS OF BULK AT MOST 1048576: true; the input reads as it did. -/
def fnExactNewImageUptoRow : OpenClaim := { program := "ytmalbjeegjhhoaa", sum := "0a3a85ea3437d7588d94b8a4dd8d7645ace43c4ba2c457f5f3a82a59e809b789", func := "loop.example/plcruntime/laws.FnExactNewImage", spec := "fnExactNewImage", apart := false, narrowed := true }
def FnExactNewImageUptoSaid : Prop := fnExactNewImageUptoRow.holds Try.pinned (OpenSpec.upto fnExactNewImageSpec)

/-- 'laws.FnExactGetBit', WHERE WHAT IT READS IS OF BULK AT MOST 1048576: true; the input reads as it did. -/
def fnExactGetBitUptoRow : OpenClaim := { program := "ytmalbjeegjhhoaa", sum := "0a3a85ea3437d7588d94b8a4dd8d7645ace43c4ba2c457f5f3a82a59e809b789", func := "loop.example/plcruntime/laws.FnExactGetBit", spec := "fnExactGetBit", apart := false, narrowed := true }
def FnExactGetBitUptoSaid : Prop := fnExactGetBitUptoRow.holds Try.pinned (OpenSpec.upto fnExactGetBitSpec)

/-- 'laws.FnExactSetBit', WHERE WHAT IT READS IS OF BULK AT MOST 1048576: true; the input reads as it did. -/
def fnExactSetBitUptoRow : OpenClaim := { program := "ytmalbjeegjhhoaa", sum := "0a3a85ea3437d7588d94b8a4dd8d7645ace43c4ba2c457f5f3a82a59e809b789", func := "loop.example/plcruntime/laws.FnExactSetBit", spec := "fnExactSetBit", apart := false, narrowed := true }
def FnExactSetBitUptoSaid : Prop := fnExactSetBitUptoRow.holds Try.pinned (OpenSpec.upto fnExactSetBitSpec)

/-- 'laws.FnExactGetWord', WHERE WHAT IT READS IS OF BULK AT MOST 1048576: true; the input reads as it did. -/
def fnExactGetWordUptoRow : OpenClaim := { program := "ytmalbjeegjhhoaa", sum := "0a3a85ea3437d7588d94b8a4dd8d7645ace43c4ba2c457f5f3a82a59e809b789", func := "loop.example/plcruntime/laws.FnExactGetWord", spec := "fnExactGetWord", apart := false, narrowed := true }
def FnExactGetWordUptoSaid : Prop := fnExactGetWordUptoRow.holds Try.pinned (OpenSpec.upto fnExactGetWordSpec)

/-- 'laws.FnExactSetWord', WHERE WHAT IT READS IS OF BULK AT MOST 1048576: true; the input reads as it did. -/
def fnExactSetWordUptoRow : OpenClaim := { program := "ytmalbjeegjhhoaa", sum := "0a3a85ea3437d7588d94b8a4dd8d7645ace43c4ba2c457f5f3a82a59e809b789", func := "loop.example/plcruntime/laws.FnExactSetWord", spec := "fnExactSetWord", apart := false, narrowed := true }
def FnExactSetWordUptoSaid : Prop := fnExactSetWordUptoRow.holds Try.pinned (OpenSpec.upto fnExactSetWordSpec)

/-- 'laws.FnExactChangedBits', WHERE WHAT IT READS IS OF BULK AT MOST 1048576: true; the input reads as it did. -/
def fnExactChangedBitsUptoRow : OpenClaim := { program := "ytmalbjeegjhhoaa", sum := "0a3a85ea3437d7588d94b8a4dd8d7645ace43c4ba2c457f5f3a82a59e809b789", func := "loop.example/plcruntime/laws.FnExactChangedBits", spec := "fnExactChangedBits", apart := false, narrowed := true }
def FnExactChangedBitsUptoSaid : Prop := fnExactChangedBitsUptoRow.holds Try.pinned (OpenSpec.upto fnExactChangedBitsSpec)

end Rows
end Go.Proofs.Ytmalbjeegjhhoaa
