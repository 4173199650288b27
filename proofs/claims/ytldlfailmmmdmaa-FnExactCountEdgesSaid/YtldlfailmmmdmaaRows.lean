/-
  No cell of these rows narrows 'for every input' (looked for: loops, veiled, ifaces, maps, wideKeys, modest, calm, conditions, laid).
  DERIVED. THE GIVEN ROWS OF THIS SEAT. 10 by the template 'for every input the law returns true; each argument reads behind the call as it read before'; 0 by the template 'total and deterministic' (their statements: YtldlfailmmmdmaaTotals.lean).
  GIVEN WITH THE SEED: the statements are not yours to turn. If you find one false, say at which input.
  Laid BY PROGRAM, IN A SANDBOX (cutbox-rows.mjs): the forced cells as the released guide's own fill.sh prints them over the translation c81a0e5876d51b9a… (all of the seat's roots in one cut). By AI agents, Wed Nov 11 2026. No macro, syntax, notation, axiom, sorry.
-/
import Derived.Test.YtldlfailmmmdmaaChecked
import GoSem.Claim
import GoSem.ClaimJoined
import GoSem.ClaimMapViews
import Derived.JoinedTies
import Derived.KernelRfl
namespace Go.Proofs.Ytldlfailmmmdmaa
/- THE CELL 'sum', in the pinned program and in every row, IS THE sha256 OF THE DUMP (.gsa) THAT YtldlfailmmmdmaaProg.lean LOADS. Nothing in Lean hashes anything: it is a label: what it is worth is what the hold of that sum in a sandbox is worth. -/
noncomputable def Try.pinned : Pinned := { name := "ytldlfailmmmdmaa", sum := "c81a0e5876d51b9aa58e1638b939e5a7cf7c1d51fd89ce1c14aa1cb9d3c74730", checked := Try.checked }
namespace Rows
def none {H : Type} : Left H := { results := [], args := [] }

/-- 'laws.FnCounterValid': WHATEVER THE INPUT: true; the input reads as it did. -/
def fnCounterValidSpec : ChangeSpec := { name := "fnCounterValid", fn := fun _ => fun
  | [d] => { results := [.lit (.bool true)], args := [d] }
  | _ => none }
def fnCounterValidRow : OpenClaim := { program := "ytldlfailmmmdmaa", sum := "c81a0e5876d51b9aa58e1638b939e5a7cf7c1d51fd89ce1c14aa1cb9d3c74730", func := "loop.example/plcruntime/laws.FnCounterValid", spec := "fnCounterValid", apart := false }
def FnCounterValidSaid : Prop := fnCounterValidRow.holds Try.pinned (OpenSpec.ofChange fnCounterValidSpec)

/-- ITS FALSE NEIGHBOUR: 'it returns false'. Refute it at one input. -/
def fnCounterValidWrong : ChangeSpec := { name := "fnCounterValid", fn := fun _ => fun
  | [d] => { results := [.lit (.bool false)], args := [d] }
  | _ => none }
def FnCounterValidWrongFalsely : Prop := fnCounterValidRow.holds Try.pinned (OpenSpec.ofChange fnCounterValidWrong)

/-- 'laws.FnCounterStep': WHATEVER THE INPUT: true; the input reads as it did. -/
def fnCounterStepSpec : ChangeSpec := { name := "fnCounterStep", fn := fun _ => fun
  | [d] => { results := [.lit (.bool true)], args := [d] }
  | _ => none }
def fnCounterStepRow : OpenClaim := { program := "ytldlfailmmmdmaa", sum := "c81a0e5876d51b9aa58e1638b939e5a7cf7c1d51fd89ce1c14aa1cb9d3c74730", func := "loop.example/plcruntime/laws.FnCounterStep", spec := "fnCounterStep", apart := false }
def FnCounterStepSaid : Prop := fnCounterStepRow.holds Try.pinned (OpenSpec.ofChange fnCounterStepSpec)

/-- ITS FALSE NEIGHBOUR: 'it returns false'. Refute it at one input. -/
def fnCounterStepWrong : ChangeSpec := { name := "fnCounterStep", fn := fun _ => fun
  | [d] => { results := [.lit (.bool false)], args := [d] }
  | _ => none }
def FnCounterStepWrongFalsely : Prop := fnCounterStepRow.holds Try.pinned (OpenSpec.ofChange fnCounterStepWrong)

/-- 'laws.FnCounterReached': WHATEVER THE INPUT: true; the input reads as it did. -/
def fnCounterReachedSpec : ChangeSpec := { name := "fnCounterReached", fn := fun _ => fun
  | [d] => { results := [.lit (.bool true)], args := [d] }
  | _ => none }
def fnCounterReachedRow : OpenClaim := { program := "ytldlfailmmmdmaa", sum := "c81a0e5876d51b9aa58e1638b939e5a7cf7c1d51fd89ce1c14aa1cb9d3c74730", func := "loop.example/plcruntime/laws.FnCounterReached", spec := "fnCounterReached", apart := false }
def FnCounterReachedSaid : Prop := fnCounterReachedRow.holds Try.pinned (OpenSpec.ofChange fnCounterReachedSpec)

/-- ITS FALSE NEIGHBOUR: 'it returns false'. Refute it at one input. -/
def fnCounterReachedWrong : ChangeSpec := { name := "fnCounterReached", fn := fun _ => fun
  | [d] => { results := [.lit (.bool false)], args := [d] }
  | _ => none }
def FnCounterReachedWrongFalsely : Prop := fnCounterReachedRow.holds Try.pinned (OpenSpec.ofChange fnCounterReachedWrong)

/-- 'laws.FnCounterEmpty': WHATEVER THE INPUT: true; the input reads as it did. -/
def fnCounterEmptySpec : ChangeSpec := { name := "fnCounterEmpty", fn := fun _ => fun
  | [d] => { results := [.lit (.bool true)], args := [d] }
  | _ => none }
def fnCounterEmptyRow : OpenClaim := { program := "ytldlfailmmmdmaa", sum := "c81a0e5876d51b9aa58e1638b939e5a7cf7c1d51fd89ce1c14aa1cb9d3c74730", func := "loop.example/plcruntime/laws.FnCounterEmpty", spec := "fnCounterEmpty", apart := false }
def FnCounterEmptySaid : Prop := fnCounterEmptyRow.holds Try.pinned (OpenSpec.ofChange fnCounterEmptySpec)

/-- ITS FALSE NEIGHBOUR: 'it returns false'. Refute it at one input. -/
def fnCounterEmptyWrong : ChangeSpec := { name := "fnCounterEmpty", fn := fun _ => fun
  | [d] => { results := [.lit (.bool false)], args := [d] }
  | _ => none }
def FnCounterEmptyWrongFalsely : Prop := fnCounterEmptyRow.holds Try.pinned (OpenSpec.ofChange fnCounterEmptyWrong)

/-- 'laws.FnCountEdges': WHATEVER THE INPUT: true; the input reads as it did. -/
def fnCountEdgesSpec : ChangeSpec := { name := "fnCountEdges", fn := fun _ => fun
  | [d] => { results := [.lit (.bool true)], args := [d] }
  | _ => none }
def fnCountEdgesRow : OpenClaim := { program := "ytldlfailmmmdmaa", sum := "c81a0e5876d51b9aa58e1638b939e5a7cf7c1d51fd89ce1c14aa1cb9d3c74730", func := "loop.example/plcruntime/laws.FnCountEdges", spec := "fnCountEdges", apart := false }
def FnCountEdgesSaid : Prop := fnCountEdgesRow.holds Try.pinned (OpenSpec.ofChange fnCountEdgesSpec)

/-- ITS FALSE NEIGHBOUR: 'it returns false'. Refute it at one input. -/
def fnCountEdgesWrong : ChangeSpec := { name := "fnCountEdges", fn := fun _ => fun
  | [d] => { results := [.lit (.bool false)], args := [d] }
  | _ => none }
def FnCountEdgesWrongFalsely : Prop := fnCountEdgesRow.holds Try.pinned (OpenSpec.ofChange fnCountEdgesWrong)

/-- 'laws.FnExactCounterValid': WHATEVER THE INPUT: true; the input reads as it did. -/
def fnExactCounterValidSpec : ChangeSpec := { name := "fnExactCounterValid", fn := fun _ => fun
  | [d] => { results := [.lit (.bool true)], args := [d] }
  | _ => none }
def fnExactCounterValidRow : OpenClaim := { program := "ytldlfailmmmdmaa", sum := "c81a0e5876d51b9aa58e1638b939e5a7cf7c1d51fd89ce1c14aa1cb9d3c74730", func := "loop.example/plcruntime/laws.FnExactCounterValid", spec := "fnExactCounterValid", apart := false }
def FnExactCounterValidSaid : Prop := fnExactCounterValidRow.holds Try.pinned (OpenSpec.ofChange fnExactCounterValidSpec)

/-- ITS FALSE NEIGHBOUR: 'it returns false'. Refute it at one input. -/
def fnExactCounterValidWrong : ChangeSpec := { name := "fnExactCounterValid", fn := fun _ => fun
  | [d] => { results := [.lit (.bool false)], args := [d] }
  | _ => none }
def FnExactCounterValidWrongFalsely : Prop := fnExactCounterValidRow.holds Try.pinned (OpenSpec.ofChange fnExactCounterValidWrong)

/-- 'laws.FnExactCounterStep': WHATEVER THE INPUT: true; the input reads as it did. -/
def fnExactCounterStepSpec : ChangeSpec := { name := "fnExactCounterStep", fn := fun _ => fun
  | [d1, d2, d3, d4, d5] => { results := [.lit (.bool true)], args := [d1, d2, d3, d4, d5] }
  | _ => none }
def fnExactCounterStepRow : OpenClaim := { program := "ytldlfailmmmdmaa", sum := "c81a0e5876d51b9aa58e1638b939e5a7cf7c1d51fd89ce1c14aa1cb9d3c74730", func := "loop.example/plcruntime/laws.FnExactCounterStep", spec := "fnExactCounterStep", apart := false }
def FnExactCounterStepSaid : Prop := fnExactCounterStepRow.holds Try.pinned (OpenSpec.ofChange fnExactCounterStepSpec)

/-- ITS FALSE NEIGHBOUR: 'it returns false'. Refute it at one input. -/
def fnExactCounterStepWrong : ChangeSpec := { name := "fnExactCounterStep", fn := fun _ => fun
  | [d1, d2, d3, d4, d5] => { results := [.lit (.bool false)], args := [d1, d2, d3, d4, d5] }
  | _ => none }
def FnExactCounterStepWrongFalsely : Prop := fnExactCounterStepRow.holds Try.pinned (OpenSpec.ofChange fnExactCounterStepWrong)

/-- 'laws.FnExactCounterReached': WHATEVER THE INPUT: true; the input reads as it did. -/
def fnExactCounterReachedSpec : ChangeSpec := { name := "fnExactCounterReached", fn := fun _ => fun
  | [d] => { results := [.lit (.bool true)], args := [d] }
  | _ => none }
def fnExactCounterReachedRow : OpenClaim := { program := "ytldlfailmmmdmaa", sum := "c81a0e5876d51b9aa58e1638b939e5a7cf7c1d51fd89ce1c14aa1cb9d3c74730", func := "loop.example/plcruntime/laws.FnExactCounterReached", spec := "fnExactCounterReached", apart := false }
def FnExactCounterReachedSaid : Prop := fnExactCounterReachedRow.holds Try.pinned (OpenSpec.ofChange fnExactCounterReachedSpec)

/-- ITS FALSE NEIGHBOUR: 'it returns false'. Refute it at one input. -/
def fnExactCounterReachedWrong : ChangeSpec := { name := "fnExactCounterReached", fn := fun _ => fun
  | [d] => { results := [.lit (.bool false)], args := [d] }
  | _ => none }
def FnExactCounterReachedWrongFalsely : Prop := fnExactCounterReachedRow.holds Try.pinned (OpenSpec.ofChange fnExactCounterReachedWrong)

/-- 'laws.FnExactCounterEmpty': WHATEVER THE INPUT: true; the input reads as it did. -/
def fnExactCounterEmptySpec : ChangeSpec := { name := "fnExactCounterEmpty", fn := fun _ => fun
  | [d] => { results := [.lit (.bool true)], args := [d] }
  | _ => none }
def fnExactCounterEmptyRow : OpenClaim := { program := "ytldlfailmmmdmaa", sum := "c81a0e5876d51b9aa58e1638b939e5a7cf7c1d51fd89ce1c14aa1cb9d3c74730", func := "loop.example/plcruntime/laws.FnExactCounterEmpty", spec := "fnExactCounterEmpty", apart := false }
def FnExactCounterEmptySaid : Prop := fnExactCounterEmptyRow.holds Try.pinned (OpenSpec.ofChange fnExactCounterEmptySpec)

/-- ITS FALSE NEIGHBOUR: 'it returns false'. Refute it at one input. -/
def fnExactCounterEmptyWrong : ChangeSpec := { name := "fnExactCounterEmpty", fn := fun _ => fun
  | [d] => { results := [.lit (.bool false)], args := [d] }
  | _ => none }
def FnExactCounterEmptyWrongFalsely : Prop := fnExactCounterEmptyRow.holds Try.pinned (OpenSpec.ofChange fnExactCounterEmptyWrong)

/-- 'laws.FnExactCountEdges': WHATEVER THE INPUT: true; the input reads as it did. -/
def fnExactCountEdgesSpec : ChangeSpec := { name := "fnExactCountEdges", fn := fun _ => fun
  | [d1, d2] => { results := [.lit (.bool true)], args := [d1, d2] }
  | _ => none }
def fnExactCountEdgesRow : OpenClaim := { program := "ytldlfailmmmdmaa", sum := "c81a0e5876d51b9aa58e1638b939e5a7cf7c1d51fd89ce1c14aa1cb9d3c74730", func := "loop.example/plcruntime/laws.FnExactCountEdges", spec := "fnExactCountEdges", apart := false }
def FnExactCountEdgesSaid : Prop := fnExactCountEdgesRow.holds Try.pinned (OpenSpec.ofChange fnExactCountEdgesSpec)

/-- ITS FALSE NEIGHBOUR: 'it returns false'. Refute it at one input. -/
def fnExactCountEdgesWrong : ChangeSpec := { name := "fnExactCountEdges", fn := fun _ => fun
  | [d1, d2] => { results := [.lit (.bool false)], args := [d1, d2] }
  | _ => none }
def FnExactCountEdgesWrongFalsely : Prop := fnExactCountEdgesRow.holds Try.pinned (OpenSpec.ofChange fnExactCountEdgesWrong)

/- THE SECOND FORM. 'bulk': how many values and letters a reading holds, each counted each time it is reached (what is shared counts as often as it is met; a slice's spare places count too). A statement '..UptoSaid' is the law's where the arguments, and the package variables that the reading takes, are together of bulk at most 1048576: NARROWER than '..Said'. Prove '..Said' where nothing that the law and all that it calls make is longer than what came in: it says more and counts as full. Else prove '..UptoSaid'. A law counts once. -/
mutual
def uptoBulk {H : Type} : DataW H → Nat
  | .lit (.string bytes) => bytes.length + 1
  | .lit _ => 1
  | .nil => 1
  | .ptr d => uptoBulk d + 1
  | .slice elems spare => uptoBulkAll elems + uptoBulkAll spare + 1
  | .agg parts => uptoBulkAll parts + 1
  | .iface _ d => uptoBulk d + 1
  | .map entries => uptoBulkEntries entries + 1
  | .held _ => 1
def uptoBulkAll {H : Type} : List (DataW H) → Nat
  | [] => 0
  | d :: r => uptoBulk d + uptoBulkAll r
def uptoBulkEntries {H : Type} : List (Lit × DataW H) → Nat
  | [] => 0
  | x :: r => uptoBulkEntry x + uptoBulkEntries r
def uptoBulkEntry {H : Type} : Lit × DataW H → Nat
  | (.string bytes, d) => bytes.length + uptoBulk d + 1
  | (_, d) => uptoBulk d + 1
 end
def uptoSmall : (H : Type) → List (DataW H) → Bool := fun _ ds => decide (uptoBulkAll ds ≤ 1048576)
def OpenSpec.upto (s : _root_.Go.ChangeSpec) : _root_.Go.OpenSpec := { _root_.Go.OpenSpec.ofChange s with cond := some uptoSmall }

/-- 'laws.FnCounterValid', WHERE WHAT IT READS IS OF BULK AT MOST 1048576: true; the input reads as it did. -/
def fnCounterValidUptoRow : OpenClaim := { program := "ytldlfailmmmdmaa", sum := "c81a0e5876d51b9aa58e1638b939e5a7cf7c1d51fd89ce1c14aa1cb9d3c74730", func := "loop.example/plcruntime/laws.FnCounterValid", spec := "fnCounterValid", apart := false, narrowed := true }
def FnCounterValidUptoSaid : Prop := fnCounterValidUptoRow.holds Try.pinned (OpenSpec.upto fnCounterValidSpec)

/-- 'laws.FnCounterStep', WHERE WHAT IT READS IS OF BULK AT MOST 1048576: true; the input reads as it did. -/
def fnCounterStepUptoRow : OpenClaim := { program := "ytldlfailmmmdmaa", sum := "c81a0e5876d51b9aa58e1638b939e5a7cf7c1d51fd89ce1c14aa1cb9d3c74730", func := "loop.example/plcruntime/laws.FnCounterStep", spec := "fnCounterStep", apart := false, narrowed := true }
def FnCounterStepUptoSaid : Prop := fnCounterStepUptoRow.holds Try.pinned (OpenSpec.upto fnCounterStepSpec)

/-- 'laws.FnCounterReached', WHERE WHAT IT READS IS OF BULK AT MOST 1048576: true; the input reads as it did. -/
def fnCounterReachedUptoRow : OpenClaim := { program := "ytldlfailmmmdmaa", sum := "c81a0e5876d51b9aa58e1638b939e5a7cf7c1d51fd89ce1c14aa1cb9d3c74730", func := "loop.example/plcruntime/laws.FnCounterReached", spec := "fnCounterReached", apart := false, narrowed := true }
def FnCounterReachedUptoSaid : Prop := fnCounterReachedUptoRow.holds Try.pinned (OpenSpec.upto fnCounterReachedSpec)

/-- 'laws.FnCounterEmpty', WHERE WHAT IT READS IS OF BULK AT MOST 1048576: true; the input reads as it did. -/
def fnCounterEmptyUptoRow : OpenClaim := { program := "ytldlfailmmmdmaa", sum := "c81a0e5876d51b9aa58e1638b939e5a7cf7c1d51fd89ce1c14aa1cb9d3c74730", func := "loop.example/plcruntime/laws.FnCounterEmpty", spec := "fnCounterEmpty", apart := false, narrowed := true }
def FnCounterEmptyUptoSaid : Prop := fnCounterEmptyUptoRow.holds Try.pinned (OpenSpec.upto fnCounterEmptySpec)

/-- 'laws.FnCountEdges', WHERE WHAT IT READS IS OF BULK AT MOST 1048576: true; the input reads as it did. -/
def fnCountEdgesUptoRow : OpenClaim := { program := "ytldlfailmmmdmaa", sum := "c81a0e5876d51b9aa58e1638b939e5a7cf7c1d51fd89ce1c14aa1cb9d3c74730", func := "loop.example/plcruntime/laws.FnCountEdges", spec := "fnCountEdges", apart := false, narrowed := true }
def FnCountEdgesUptoSaid : Prop := fnCountEdgesUptoRow.holds Try.pinned (OpenSpec.upto fnCountEdgesSpec)

/-- 'laws.FnExactCounterValid', WHERE WHAT IT READS IS OF BULK AT MOST 1048576: true; the input reads as it did. -/
def fnExactCounterValidUptoRow : OpenClaim := { program := "ytldlfailmmmdmaa", sum := "c81a0e5876d51b9aa58e1638b939e5a7cf7c1d51fd89ce1c14aa1cb9d3c74730", func := "loop.example/plcruntime/laws.FnExactCounterValid", spec := "fnExactCounterValid", apart := false, narrowed := true }
def FnExactCounterValidUptoSaid : Prop := fnExactCounterValidUptoRow.holds Try.pinned (OpenSpec.upto fnExactCounterValidSpec)

/-- 'laws.FnExactCounterStep', WHERE WHAT IT READS IS OF BULK AT MOST 1048576: true; the input reads as it did. -/
def fnExactCounterStepUptoRow : OpenClaim := { program := "ytldlfailmmmdmaa", sum := "c81a0e5876d51b9aa58e1638b939e5a7cf7c1d51fd89ce1c14aa1cb9d3c74730", func := "loop.example/plcruntime/laws.FnExactCounterStep", spec := "fnExactCounterStep", apart := false, narrowed := true }
def FnExactCounterStepUptoSaid : Prop := fnExactCounterStepUptoRow.holds Try.pinned (OpenSpec.upto fnExactCounterStepSpec)

/-- 'laws.FnExactCounterReached', WHERE WHAT IT READS IS OF BULK AT MOST 1048576: true; the input reads as it did. -/
def fnExactCounterReachedUptoRow : OpenClaim := { program := "ytldlfailmmmdmaa", sum := "c81a0e5876d51b9aa58e1638b939e5a7cf7c1d51fd89ce1c14aa1cb9d3c74730", func := "loop.example/plcruntime/laws.FnExactCounterReached", spec := "fnExactCounterReached", apart := false, narrowed := true }
def FnExactCounterReachedUptoSaid : Prop := fnExactCounterReachedUptoRow.holds Try.pinned (OpenSpec.upto fnExactCounterReachedSpec)

/-- 'laws.FnExactCounterEmpty', WHERE WHAT IT READS IS OF BULK AT MOST 1048576: true; the input reads as it did. -/
def fnExactCounterEmptyUptoRow : OpenClaim := { program := "ytldlfailmmmdmaa", sum := "c81a0e5876d51b9aa58e1638b939e5a7cf7c1d51fd89ce1c14aa1cb9d3c74730", func := "loop.example/plcruntime/laws.FnExactCounterEmpty", spec := "fnExactCounterEmpty", apart := false, narrowed := true }
def FnExactCounterEmptyUptoSaid : Prop := fnExactCounterEmptyUptoRow.holds Try.pinned (OpenSpec.upto fnExactCounterEmptySpec)

/-- 'laws.FnExactCountEdges', WHERE WHAT IT READS IS OF BULK AT MOST 1048576: true; the input reads as it did. -/
def fnExactCountEdgesUptoRow : OpenClaim := { program := "ytldlfailmmmdmaa", sum := "c81a0e5876d51b9aa58e1638b939e5a7cf7c1d51fd89ce1c14aa1cb9d3c74730", func := "loop.example/plcruntime/laws.FnExactCountEdges", spec := "fnExactCountEdges", apart := false, narrowed := true }
def FnExactCountEdgesUptoSaid : Prop := fnExactCountEdgesUptoRow.holds Try.pinned (OpenSpec.upto fnExactCountEdgesSpec)

end Rows
end Go.Proofs.Ytldlfailmmmdmaa
