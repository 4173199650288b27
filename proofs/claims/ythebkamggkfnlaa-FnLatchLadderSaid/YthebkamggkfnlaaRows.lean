/-
  No cell of these rows narrows 'for every input' (looked for: loops, veiled, ifaces, maps, wideKeys, modest, calm, conditions, laid).
  DERIVED. THE GIVEN ROWS OF THIS SEAT. 11 by the template 'for every input the law returns true; each argument reads behind the call as it read before'; 0 by the template 'total and deterministic' (their statements: YthebkamggkfnlaaTotals.lean).
  GIVEN WITH THE SEED: the statements are not yours to turn. If you find one false, say at which input.
  Laid BY PROGRAM, IN A SANDBOX (cutbox-rows.mjs): the forced cells as the released guide's own fill.sh prints them over the translation 7c2777a2450a0995… (all of the seat's roots in one cut). By AI agents, Wed Nov 11 2026. No macro, syntax, notation, axiom, sorry.
-/
import Derived.Test.YthebkamggkfnlaaChecked
import GoSem.Claim
import GoSem.ClaimJoined
import GoSem.ClaimMapViews
import Derived.JoinedTies
import Derived.KernelRfl
namespace Go.Proofs.Ythebkamggkfnlaa
/- THE CELL 'sum', in the pinned program and in every row, IS THE sha256 OF THE DUMP (.gsa) THAT YthebkamggkfnlaaProg.lean LOADS. Nothing in Lean hashes anything: it is a label: what it is worth is what the hold of that sum in a sandbox is worth. -/
noncomputable def Try.pinned : Pinned := { name := "ythebkamggkfnlaa", sum := "7c2777a2450a09950aad5f2fe1cf799aef71c718c252e09914fd6bd8db054d4f", checked := Try.checked }
namespace Rows
def none {H : Type} : Left H := { results := [], args := [] }

/-- 'laws.FnRisingEdge': WHATEVER THE INPUT: true; the input reads as it did. -/
def fnRisingEdgeSpec : ChangeSpec := { name := "fnRisingEdge", fn := fun _ => fun
  | [d] => { results := [.lit (.bool true)], args := [d] }
  | _ => none }
def fnRisingEdgeRow : OpenClaim := { program := "ythebkamggkfnlaa", sum := "7c2777a2450a09950aad5f2fe1cf799aef71c718c252e09914fd6bd8db054d4f", func := "loop.example/plcruntime/laws.FnRisingEdge", spec := "fnRisingEdge", apart := false }
def FnRisingEdgeSaid : Prop := fnRisingEdgeRow.holds Try.pinned (OpenSpec.ofChange fnRisingEdgeSpec)

/-- ITS FALSE NEIGHBOUR: 'it returns false'. Refute it at one input. -/
def fnRisingEdgeWrong : ChangeSpec := { name := "fnRisingEdge", fn := fun _ => fun
  | [d] => { results := [.lit (.bool false)], args := [d] }
  | _ => none }
def FnRisingEdgeWrongFalsely : Prop := fnRisingEdgeRow.holds Try.pinned (OpenSpec.ofChange fnRisingEdgeWrong)

/-- 'laws.FnSetDominant': WHATEVER THE INPUT: true; the input reads as it did. -/
def fnSetDominantSpec : ChangeSpec := { name := "fnSetDominant", fn := fun _ => fun
  | [d] => { results := [.lit (.bool true)], args := [d] }
  | _ => none }
def fnSetDominantRow : OpenClaim := { program := "ythebkamggkfnlaa", sum := "7c2777a2450a09950aad5f2fe1cf799aef71c718c252e09914fd6bd8db054d4f", func := "loop.example/plcruntime/laws.FnSetDominant", spec := "fnSetDominant", apart := false }
def FnSetDominantSaid : Prop := fnSetDominantRow.holds Try.pinned (OpenSpec.ofChange fnSetDominantSpec)

/-- ITS FALSE NEIGHBOUR: 'it returns false'. Refute it at one input. -/
def fnSetDominantWrong : ChangeSpec := { name := "fnSetDominant", fn := fun _ => fun
  | [d] => { results := [.lit (.bool false)], args := [d] }
  | _ => none }
def FnSetDominantWrongFalsely : Prop := fnSetDominantRow.holds Try.pinned (OpenSpec.ofChange fnSetDominantWrong)

/-- 'laws.FnResetDominant': WHATEVER THE INPUT: true; the input reads as it did. -/
def fnResetDominantSpec : ChangeSpec := { name := "fnResetDominant", fn := fun _ => fun
  | [d] => { results := [.lit (.bool true)], args := [d] }
  | _ => none }
def fnResetDominantRow : OpenClaim := { program := "ythebkamggkfnlaa", sum := "7c2777a2450a09950aad5f2fe1cf799aef71c718c252e09914fd6bd8db054d4f", func := "loop.example/plcruntime/laws.FnResetDominant", spec := "fnResetDominant", apart := false }
def FnResetDominantSaid : Prop := fnResetDominantRow.holds Try.pinned (OpenSpec.ofChange fnResetDominantSpec)

/-- ITS FALSE NEIGHBOUR: 'it returns false'. Refute it at one input. -/
def fnResetDominantWrong : ChangeSpec := { name := "fnResetDominant", fn := fun _ => fun
  | [d] => { results := [.lit (.bool false)], args := [d] }
  | _ => none }
def FnResetDominantWrongFalsely : Prop := fnResetDominantRow.holds Try.pinned (OpenSpec.ofChange fnResetDominantWrong)

/-- 'laws.FnEdgeTrace': WHATEVER THE INPUT: true; the input reads as it did. -/
def fnEdgeTraceSpec : ChangeSpec := { name := "fnEdgeTrace", fn := fun _ => fun
  | [d] => { results := [.lit (.bool true)], args := [d] }
  | _ => none }
def fnEdgeTraceRow : OpenClaim := { program := "ythebkamggkfnlaa", sum := "7c2777a2450a09950aad5f2fe1cf799aef71c718c252e09914fd6bd8db054d4f", func := "loop.example/plcruntime/laws.FnEdgeTrace", spec := "fnEdgeTrace", apart := false }
def FnEdgeTraceSaid : Prop := fnEdgeTraceRow.holds Try.pinned (OpenSpec.ofChange fnEdgeTraceSpec)

/-- ITS FALSE NEIGHBOUR: 'it returns false'. Refute it at one input. -/
def fnEdgeTraceWrong : ChangeSpec := { name := "fnEdgeTrace", fn := fun _ => fun
  | [d] => { results := [.lit (.bool false)], args := [d] }
  | _ => none }
def FnEdgeTraceWrongFalsely : Prop := fnEdgeTraceRow.holds Try.pinned (OpenSpec.ofChange fnEdgeTraceWrong)

/-- 'laws.FnDebounce': WHATEVER THE INPUT: true; the input reads as it did. -/
def fnDebounceSpec : ChangeSpec := { name := "fnDebounce", fn := fun _ => fun
  | [d] => { results := [.lit (.bool true)], args := [d] }
  | _ => none }
def fnDebounceRow : OpenClaim := { program := "ythebkamggkfnlaa", sum := "7c2777a2450a09950aad5f2fe1cf799aef71c718c252e09914fd6bd8db054d4f", func := "loop.example/plcruntime/laws.FnDebounce", spec := "fnDebounce", apart := false }
def FnDebounceSaid : Prop := fnDebounceRow.holds Try.pinned (OpenSpec.ofChange fnDebounceSpec)

/-- ITS FALSE NEIGHBOUR: 'it returns false'. Refute it at one input. -/
def fnDebounceWrong : ChangeSpec := { name := "fnDebounce", fn := fun _ => fun
  | [d] => { results := [.lit (.bool false)], args := [d] }
  | _ => none }
def FnDebounceWrongFalsely : Prop := fnDebounceRow.holds Try.pinned (OpenSpec.ofChange fnDebounceWrong)

/-- 'laws.FnLatchLadder': WHATEVER THE INPUT: true; the input reads as it did. -/
def fnLatchLadderSpec : ChangeSpec := { name := "fnLatchLadder", fn := fun _ => fun
  | [d] => { results := [.lit (.bool true)], args := [d] }
  | _ => none }
def fnLatchLadderRow : OpenClaim := { program := "ythebkamggkfnlaa", sum := "7c2777a2450a09950aad5f2fe1cf799aef71c718c252e09914fd6bd8db054d4f", func := "loop.example/plcruntime/laws.FnLatchLadder", spec := "fnLatchLadder", unfollowed := true, recurses := true, apart := false }
def FnLatchLadderSaid : Prop := fnLatchLadderRow.holds Try.pinned (OpenSpec.ofChange fnLatchLadderSpec)

/-- ITS FALSE NEIGHBOUR: 'it returns false'. Refute it at one input. -/
def fnLatchLadderWrong : ChangeSpec := { name := "fnLatchLadder", fn := fun _ => fun
  | [d] => { results := [.lit (.bool false)], args := [d] }
  | _ => none }
def FnLatchLadderWrongFalsely : Prop := fnLatchLadderRow.holds Try.pinned (OpenSpec.ofChange fnLatchLadderWrong)

/-- 'laws.FnExactRisingEdge': WHATEVER THE INPUT: true; the input reads as it did. -/
def fnExactRisingEdgeSpec : ChangeSpec := { name := "fnExactRisingEdge", fn := fun _ => fun
  | [d1, d2] => { results := [.lit (.bool true)], args := [d1, d2] }
  | _ => none }
def fnExactRisingEdgeRow : OpenClaim := { program := "ythebkamggkfnlaa", sum := "7c2777a2450a09950aad5f2fe1cf799aef71c718c252e09914fd6bd8db054d4f", func := "loop.example/plcruntime/laws.FnExactRisingEdge", spec := "fnExactRisingEdge", apart := false }
def FnExactRisingEdgeSaid : Prop := fnExactRisingEdgeRow.holds Try.pinned (OpenSpec.ofChange fnExactRisingEdgeSpec)

/-- ITS FALSE NEIGHBOUR: 'it returns false'. Refute it at one input. -/
def fnExactRisingEdgeWrong : ChangeSpec := { name := "fnExactRisingEdge", fn := fun _ => fun
  | [d1, d2] => { results := [.lit (.bool false)], args := [d1, d2] }
  | _ => none }
def FnExactRisingEdgeWrongFalsely : Prop := fnExactRisingEdgeRow.holds Try.pinned (OpenSpec.ofChange fnExactRisingEdgeWrong)

/-- 'laws.FnExactSetDominant': WHATEVER THE INPUT: true; the input reads as it did. -/
def fnExactSetDominantSpec : ChangeSpec := { name := "fnExactSetDominant", fn := fun _ => fun
  | [d1, d2, d3] => { results := [.lit (.bool true)], args := [d1, d2, d3] }
  | _ => none }
def fnExactSetDominantRow : OpenClaim := { program := "ythebkamggkfnlaa", sum := "7c2777a2450a09950aad5f2fe1cf799aef71c718c252e09914fd6bd8db054d4f", func := "loop.example/plcruntime/laws.FnExactSetDominant", spec := "fnExactSetDominant", apart := false }
def FnExactSetDominantSaid : Prop := fnExactSetDominantRow.holds Try.pinned (OpenSpec.ofChange fnExactSetDominantSpec)

/-- ITS FALSE NEIGHBOUR: 'it returns false'. Refute it at one input. -/
def fnExactSetDominantWrong : ChangeSpec := { name := "fnExactSetDominant", fn := fun _ => fun
  | [d1, d2, d3] => { results := [.lit (.bool false)], args := [d1, d2, d3] }
  | _ => none }
def FnExactSetDominantWrongFalsely : Prop := fnExactSetDominantRow.holds Try.pinned (OpenSpec.ofChange fnExactSetDominantWrong)

/-- 'laws.FnExactResetDominant': WHATEVER THE INPUT: true; the input reads as it did. -/
def fnExactResetDominantSpec : ChangeSpec := { name := "fnExactResetDominant", fn := fun _ => fun
  | [d1, d2, d3] => { results := [.lit (.bool true)], args := [d1, d2, d3] }
  | _ => none }
def fnExactResetDominantRow : OpenClaim := { program := "ythebkamggkfnlaa", sum := "7c2777a2450a09950aad5f2fe1cf799aef71c718c252e09914fd6bd8db054d4f", func := "loop.example/plcruntime/laws.FnExactResetDominant", spec := "fnExactResetDominant", apart := false }
def FnExactResetDominantSaid : Prop := fnExactResetDominantRow.holds Try.pinned (OpenSpec.ofChange fnExactResetDominantSpec)

/-- ITS FALSE NEIGHBOUR: 'it returns false'. Refute it at one input. -/
def fnExactResetDominantWrong : ChangeSpec := { name := "fnExactResetDominant", fn := fun _ => fun
  | [d1, d2, d3] => { results := [.lit (.bool false)], args := [d1, d2, d3] }
  | _ => none }
def FnExactResetDominantWrongFalsely : Prop := fnExactResetDominantRow.holds Try.pinned (OpenSpec.ofChange fnExactResetDominantWrong)

/-- 'laws.FnExactEdgeTrace': WHATEVER THE INPUT: true; the input reads as it did. -/
def fnExactEdgeTraceSpec : ChangeSpec := { name := "fnExactEdgeTrace", fn := fun _ => fun
  | [d1, d2] => { results := [.lit (.bool true)], args := [d1, d2] }
  | _ => none }
def fnExactEdgeTraceRow : OpenClaim := { program := "ythebkamggkfnlaa", sum := "7c2777a2450a09950aad5f2fe1cf799aef71c718c252e09914fd6bd8db054d4f", func := "loop.example/plcruntime/laws.FnExactEdgeTrace", spec := "fnExactEdgeTrace", apart := false }
def FnExactEdgeTraceSaid : Prop := fnExactEdgeTraceRow.holds Try.pinned (OpenSpec.ofChange fnExactEdgeTraceSpec)

/-- ITS FALSE NEIGHBOUR: 'it returns false'. Refute it at one input. -/
def fnExactEdgeTraceWrong : ChangeSpec := { name := "fnExactEdgeTrace", fn := fun _ => fun
  | [d1, d2] => { results := [.lit (.bool false)], args := [d1, d2] }
  | _ => none }
def FnExactEdgeTraceWrongFalsely : Prop := fnExactEdgeTraceRow.holds Try.pinned (OpenSpec.ofChange fnExactEdgeTraceWrong)

/-- 'laws.FnExactDebounce': WHATEVER THE INPUT: true; the input reads as it did. -/
def fnExactDebounceSpec : ChangeSpec := { name := "fnExactDebounce", fn := fun _ => fun
  | [d1, d2, d3] => { results := [.lit (.bool true)], args := [d1, d2, d3] }
  | _ => none }
def fnExactDebounceRow : OpenClaim := { program := "ythebkamggkfnlaa", sum := "7c2777a2450a09950aad5f2fe1cf799aef71c718c252e09914fd6bd8db054d4f", func := "loop.example/plcruntime/laws.FnExactDebounce", spec := "fnExactDebounce", apart := false }
def FnExactDebounceSaid : Prop := fnExactDebounceRow.holds Try.pinned (OpenSpec.ofChange fnExactDebounceSpec)

/-- ITS FALSE NEIGHBOUR: 'it returns false'. Refute it at one input. -/
def fnExactDebounceWrong : ChangeSpec := { name := "fnExactDebounce", fn := fun _ => fun
  | [d1, d2, d3] => { results := [.lit (.bool false)], args := [d1, d2, d3] }
  | _ => none }
def FnExactDebounceWrongFalsely : Prop := fnExactDebounceRow.holds Try.pinned (OpenSpec.ofChange fnExactDebounceWrong)

/- THE SECOND FORM. 'bulk': how many values and letters a reading holds, each counted each time it is reached (what is shared counts as often as it is met; a slice's spare places count too). A statement '..UptoSaid' is the law's where the arguments, and the package variables that the reading takes, are together of bulk at most 1048576: NARROWER than '..Said'. Prove '..Said' where nothing that the law and all that it calls make is longer than what came in: it says more and counts as full. Else prove '..UptoSaid'. A law counts once. -/
mutual
def uptoBulk {H : Type} : DataW H → Nat
  | .lit (.string bytes) => bytes.length + 1
  | .lit _ => 1
  | .nil => 1
  | .ptr d => uptoBulk d + 1
  | .slice elems spare => uptoBulkAll elems + uptoBulkAll spare + 1
  | .agg parts => uptoBulkAll parts + 1
  | .iface _ d => uptoBulk d + 1
  | .map entries => uptoBulkEntries entries + 1
  | .held _ => 1
def uptoBulkAll {H : Type} : List (DataW H) → Nat
  | [] => 0
  | d :: r => uptoBulk d + uptoBulkAll r
def uptoBulkEntries {H : Type} : List (Lit × DataW H) → Nat
  | [] => 0
  | x :: r => uptoBulkEntry x + uptoBulkEntries r
def uptoBulkEntry {H : Type} : Lit × DataW H → Nat
  | (.string bytes, d) => bytes.length + uptoBulk d + 1
  | (_, d) => uptoBulk d + 1
 end
def uptoSmall : (H : Type) → List (DataW H) → Bool := fun _ ds => decide (uptoBulkAll ds ≤ 1048576)
def OpenSpec.upto (s : _root_.Go.ChangeSpec) : _root_.Go.OpenSpec := { _root_.Go.OpenSpec.ofChange s with cond := some uptoSmall }

/-- 'laws.FnRisingEdge', WHERE WHAT IT READS IS OF BULK AT MOST 1048576: true; the input reads as it did. -/
def fnRisingEdgeUptoRow : OpenClaim := { program := "ythebkamggkfnlaa", sum := "7c2777a2450a09950aad5f2fe1cf799aef71c718c252e09914fd6bd8db054d4f", func := "loop.example/plcruntime/laws.FnRisingEdge", spec := "fnRisingEdge", apart := false, narrowed := true }
def FnRisingEdgeUptoSaid : Prop := fnRisingEdgeUptoRow.holds Try.pinned (OpenSpec.upto fnRisingEdgeSpec)

/-- 'laws.FnSetDominant', WHERE WHAT IT READS IS OF BULK AT MOST 1048576: true; the input reads as it did. -/
def fnSetDominantUptoRow : OpenClaim := { program := "ythebkamggkfnlaa", sum := "7c2777a2450a09950aad5f2fe1cf799aef71c718c252e09914fd6bd8db054d4f", func := "loop.example/plcruntime/laws.FnSetDominant", spec := "fnSetDominant", apart := false, narrowed := true }
def FnSetDominantUptoSaid : Prop := fnSetDominantUptoRow.holds Try.pinned (OpenSpec.upto fnSetDominantSpec)

/-- 'laws.FnResetDominant', WHERE WHAT IT READS IS OF BULK AT MOST 1048576: true; the input reads as it did. -/
def fnResetDominantUptoRow : OpenClaim := { program := "ythebkamggkfnlaa", sum := "7c2777a2450a09950aad5f2fe1cf799aef71c718c252e09914fd6bd8db054d4f", func := "loop.example/plcruntime/laws.FnResetDominant", spec := "fnResetDominant", apart := false, narrowed := true }
def FnResetDominantUptoSaid : Prop := fnResetDominantUptoRow.holds Try.pinned (OpenSpec.upto fnResetDominantSpec)

/-- 'laws.FnEdgeTrace', WHERE WHAT IT READS IS OF BULK AT MOST 1048576: true; the input reads as it did. -/
def fnEdgeTraceUptoRow : OpenClaim := { program := "ythebkamggkfnlaa", sum := "7c2777a2450a09950aad5f2fe1cf799aef71c718c252e09914fd6bd8db054d4f", func := "loop.example/plcruntime/laws.FnEdgeTrace", spec := "fnEdgeTrace", apart := false, narrowed := true }
def FnEdgeTraceUptoSaid : Prop := fnEdgeTraceUptoRow.holds Try.pinned (OpenSpec.upto fnEdgeTraceSpec)

/-- 'laws.FnDebounce', WHERE WHAT IT READS IS OF BULK AT MOST 1048576: true; the input reads as it did. -/
def fnDebounceUptoRow : OpenClaim := { program := "ythebkamggkfnlaa", sum := "7c2777a2450a09950aad5f2fe1cf799aef71c718c252e09914fd6bd8db054d4f", func := "loop.example/plcruntime/laws.FnDebounce", spec := "fnDebounce", apart := false, narrowed := true }
def FnDebounceUptoSaid : Prop := fnDebounceUptoRow.holds Try.pinned (OpenSpec.upto fnDebounceSpec)

/-- 'laws.FnLatchLadder', WHERE WHAT IT READS IS OF BULK AT MOST 1048576: true; the input reads as it did. -/
def fnLatchLadderUptoRow : OpenClaim := { program := "ythebkamggkfnlaa", sum := "7c2777a2450a09950aad5f2fe1cf799aef71c718c252e09914fd6bd8db054d4f", func := "loop.example/plcruntime/laws.FnLatchLadder", spec := "fnLatchLadder", unfollowed := true, recurses := true, apart := false, narrowed := true }
def FnLatchLadderUptoSaid : Prop := fnLatchLadderUptoRow.holds Try.pinned (OpenSpec.upto fnLatchLadderSpec)

/-- 'laws.FnExactRisingEdge', WHERE WHAT IT READS IS OF BULK AT MOST 1048576: true; the input reads as it did. -/
def fnExactRisingEdgeUptoRow : OpenClaim := { program := "ythebkamggkfnlaa", sum := "7c2777a2450a09950aad5f2fe1cf799aef71c718c252e09914fd6bd8db054d4f", func := "loop.example/plcruntime/laws.FnExactRisingEdge", spec := "fnExactRisingEdge", apart := false, narrowed := true }
def FnExactRisingEdgeUptoSaid : Prop := fnExactRisingEdgeUptoRow.holds Try.pinned (OpenSpec.upto fnExactRisingEdgeSpec)

/-- 'laws.FnExactSetDominant', WHERE WHAT IT READS IS OF BULK AT MOST 1048576: true; the input reads as it did. -/
def fnExactSetDominantUptoRow : OpenClaim := { program := "ythebkamggkfnlaa", sum := "7c2777a2450a09950aad5f2fe1cf799aef71c718c252e09914fd6bd8db054d4f", func := "loop.example/plcruntime/laws.FnExactSetDominant", spec := "fnExactSetDominant", apart := false, narrowed := true }
def FnExactSetDominantUptoSaid : Prop := fnExactSetDominantUptoRow.holds Try.pinned (OpenSpec.upto fnExactSetDominantSpec)

/-- 'laws.FnExactResetDominant', WHERE WHAT IT READS IS OF BULK AT MOST 1048576: true; the input reads as it did. -/
def fnExactResetDominantUptoRow : OpenClaim := { program := "ythebkamggkfnlaa", sum := "7c2777a2450a09950aad5f2fe1cf799aef71c718c252e09914fd6bd8db054d4f", func := "loop.example/plcruntime/laws.FnExactResetDominant", spec := "fnExactResetDominant", apart := false, narrowed := true }
def FnExactResetDominantUptoSaid : Prop := fnExactResetDominantUptoRow.holds Try.pinned (OpenSpec.upto fnExactResetDominantSpec)

/-- 'laws.FnExactEdgeTrace', WHERE WHAT IT READS IS OF BULK AT MOST 1048576: true; the input reads as it did. -/
def fnExactEdgeTraceUptoRow : OpenClaim := { program := "ythebkamggkfnlaa", sum := "7c2777a2450a09950aad5f2fe1cf799aef71c718c252e09914fd6bd8db054d4f", func := "loop.example/plcruntime/laws.FnExactEdgeTrace", spec := "fnExactEdgeTrace", apart := false, narrowed := true }
def FnExactEdgeTraceUptoSaid : Prop := fnExactEdgeTraceUptoRow.holds Try.pinned (OpenSpec.upto fnExactEdgeTraceSpec)

/-- 'laws.FnExactDebounce', WHERE WHAT IT READS IS OF BULK AT MOST 1048576: true; the input reads as it did. -/
def fnExactDebounceUptoRow : OpenClaim := { program := "ythebkamggkfnlaa", sum := "7c2777a2450a09950aad5f2fe1cf799aef71c718c252e09914fd6bd8db054d4f", func := "loop.example/plcruntime/laws.FnExactDebounce", spec := "fnExactDebounce", apart := false, narrowed := true }
def FnExactDebounceUptoSaid : Prop := fnExactDebounceUptoRow.holds Try.pinned (OpenSpec.upto fnExactDebounceSpec)

end Rows
end Go.Proofs.Ythebkamggkfnlaa
