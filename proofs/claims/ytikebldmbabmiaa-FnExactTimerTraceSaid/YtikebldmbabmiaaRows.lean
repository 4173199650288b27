/-
  No cell of these rows narrows 'for every input' (looked for: loops, veiled, ifaces, maps, wideKeys, modest, calm, conditions, laid).
  DERIVED. THE GIVEN ROWS OF THIS SEAT. 11 by the template 'for every input the law returns true; each argument reads behind the call as it read before'; 0 by the template 'total and deterministic' (their statements: YtikebldmbabmiaaTotals.lean).
  GIVEN WITH THE SEED: the statements are not yours to turn. If you find one false, say at which input.
  Laid BY PROGRAM, IN A SANDBOX (cutbox-rows.mjs): the forced cells as the released guide's own fill.sh prints them over the translation 120b904712a91af6… (all of the seat's roots in one cut). By AI agents, Wed Nov 11 2026. No macro, syntax, notation, axiom, sorry.
-/
import Derived.Test.YtikebldmbabmiaaChecked
import GoSem.Claim
import GoSem.ClaimJoined
import GoSem.ClaimMapViews
import Derived.JoinedTies
import Derived.KernelRfl
namespace Go.Proofs.Ytikebldmbabmiaa
/- THE CELL 'sum', in the pinned program and in every row, IS THE sha256 OF THE DUMP (.gsa) THAT YtikebldmbabmiaaProg.lean LOADS. Nothing in Lean hashes anything: it is a label: what it is worth is what the hold of that sum in a sandbox is worth. -/
noncomputable def Try.pinned : Pinned := { name := "ytikebldmbabmiaa", sum := "120b904712a91af690de8c7b2a993f29e8693f43da88db6a7aa754151502e0c0", checked := Try.checked }
namespace Rows
def none {H : Type} : Left H := { results := [], args := [] }

/-- 'laws.FnTimerValid': WHATEVER THE INPUT: true; the input reads as it did. -/
def fnTimerValidSpec : ChangeSpec := { name := "fnTimerValid", fn := fun _ => fun
  | [d] => { results := [.lit (.bool true)], args := [d] }
  | _ => none }
def fnTimerValidRow : OpenClaim := { program := "ytikebldmbabmiaa", sum := "120b904712a91af690de8c7b2a993f29e8693f43da88db6a7aa754151502e0c0", func := "loop.example/plcruntime/laws.FnTimerValid", spec := "fnTimerValid", apart := false }
def FnTimerValidSaid : Prop := fnTimerValidRow.holds Try.pinned (OpenSpec.ofChange fnTimerValidSpec)

/-- ITS FALSE NEIGHBOUR: 'it returns false'. Refute it at one input. -/
def fnTimerValidWrong : ChangeSpec := { name := "fnTimerValid", fn := fun _ => fun
  | [d] => { results := [.lit (.bool false)], args := [d] }
  | _ => none }
def FnTimerValidWrongFalsely : Prop := fnTimerValidRow.holds Try.pinned (OpenSpec.ofChange fnTimerValidWrong)

/-- 'laws.FnNewTimer': WHATEVER THE INPUT: true; the input reads as it did. -/
def fnNewTimerSpec : ChangeSpec := { name := "fnNewTimer", fn := fun _ => fun
  | [d] => { results := [.lit (.bool true)], args := [d] }
  | _ => none }
def fnNewTimerRow : OpenClaim := { program := "ytikebldmbabmiaa", sum := "120b904712a91af690de8c7b2a993f29e8693f43da88db6a7aa754151502e0c0", func := "loop.example/plcruntime/laws.FnNewTimer", spec := "fnNewTimer", unfollowed := true, recurses := true, apart := false }
def FnNewTimerSaid : Prop := fnNewTimerRow.holds Try.pinned (OpenSpec.ofChange fnNewTimerSpec)

/-- ITS FALSE NEIGHBOUR: 'it returns false'. Refute it at one input. -/
def fnNewTimerWrong : ChangeSpec := { name := "fnNewTimer", fn := fun _ => fun
  | [d] => { results := [.lit (.bool false)], args := [d] }
  | _ => none }
def FnNewTimerWrongFalsely : Prop := fnNewTimerRow.holds Try.pinned (OpenSpec.ofChange fnNewTimerWrong)

/-- 'laws.FnTimerStep': WHATEVER THE INPUT: true; the input reads as it did. -/
def fnTimerStepSpec : ChangeSpec := { name := "fnTimerStep", fn := fun _ => fun
  | [d] => { results := [.lit (.bool true)], args := [d] }
  | _ => none }
def fnTimerStepRow : OpenClaim := { program := "ytikebldmbabmiaa", sum := "120b904712a91af690de8c7b2a993f29e8693f43da88db6a7aa754151502e0c0", func := "loop.example/plcruntime/laws.FnTimerStep", spec := "fnTimerStep", unfollowed := true, recurses := true, apart := false }
def FnTimerStepSaid : Prop := fnTimerStepRow.holds Try.pinned (OpenSpec.ofChange fnTimerStepSpec)

/-- ITS FALSE NEIGHBOUR: 'it returns false'. Refute it at one input. -/
def fnTimerStepWrong : ChangeSpec := { name := "fnTimerStep", fn := fun _ => fun
  | [d] => { results := [.lit (.bool false)], args := [d] }
  | _ => none }
def FnTimerStepWrongFalsely : Prop := fnTimerStepRow.holds Try.pinned (OpenSpec.ofChange fnTimerStepWrong)

/-- 'laws.FnTimerTrace': WHATEVER THE INPUT: true; the input reads as it did. -/
def fnTimerTraceSpec : ChangeSpec := { name := "fnTimerTrace", fn := fun _ => fun
  | [d] => { results := [.lit (.bool true)], args := [d] }
  | _ => none }
def fnTimerTraceRow : OpenClaim := { program := "ytikebldmbabmiaa", sum := "120b904712a91af690de8c7b2a993f29e8693f43da88db6a7aa754151502e0c0", func := "loop.example/plcruntime/laws.FnTimerTrace", spec := "fnTimerTrace", unfollowed := true, recurses := true, apart := false }
def FnTimerTraceSaid : Prop := fnTimerTraceRow.holds Try.pinned (OpenSpec.ofChange fnTimerTraceSpec)

/-- ITS FALSE NEIGHBOUR: 'it returns false'. Refute it at one input. -/
def fnTimerTraceWrong : ChangeSpec := { name := "fnTimerTrace", fn := fun _ => fun
  | [d] => { results := [.lit (.bool false)], args := [d] }
  | _ => none }
def FnTimerTraceWrongFalsely : Prop := fnTimerTraceRow.holds Try.pinned (OpenSpec.ofChange fnTimerTraceWrong)

/-- 'laws.FnTimerOn': WHATEVER THE INPUT: true; the input reads as it did. -/
def fnTimerOnSpec : ChangeSpec := { name := "fnTimerOn", fn := fun _ => fun
  | [d1, d2] => { results := [.lit (.bool true)], args := [d1, d2] }
  | _ => none }
def fnTimerOnRow : OpenClaim := { program := "ytikebldmbabmiaa", sum := "120b904712a91af690de8c7b2a993f29e8693f43da88db6a7aa754151502e0c0", func := "loop.example/plcruntime/laws.FnTimerOn", spec := "fnTimerOn", unfollowed := true, recurses := true, apart := false }
def FnTimerOnSaid : Prop := fnTimerOnRow.holds Try.pinned (OpenSpec.ofChange fnTimerOnSpec)

/-- ITS FALSE NEIGHBOUR: 'it returns false'. Refute it at one input. -/
def fnTimerOnWrong : ChangeSpec := { name := "fnTimerOn", fn := fun _ => fun
  | [d1, d2] => { results := [.lit (.bool false)], args := [d1, d2] }
  | _ => none }
def FnTimerOnWrongFalsely : Prop := fnTimerOnRow.holds Try.pinned (OpenSpec.ofChange fnTimerOnWrong)

/-- 'laws.FnTimerPulse': WHATEVER THE INPUT: true; the input reads as it did. -/
def fnTimerPulseSpec : ChangeSpec := { name := "fnTimerPulse", fn := fun _ => fun
  | [d1, d2] => { results := [.lit (.bool true)], args := [d1, d2] }
  | _ => none }
def fnTimerPulseRow : OpenClaim := { program := "ytikebldmbabmiaa", sum := "120b904712a91af690de8c7b2a993f29e8693f43da88db6a7aa754151502e0c0", func := "loop.example/plcruntime/laws.FnTimerPulse", spec := "fnTimerPulse", unfollowed := true, recurses := true, apart := false }
def FnTimerPulseSaid : Prop := fnTimerPulseRow.holds Try.pinned (OpenSpec.ofChange fnTimerPulseSpec)

/-- ITS FALSE NEIGHBOUR: 'it returns false'. Refute it at one input. -/
def fnTimerPulseWrong : ChangeSpec := { name := "fnTimerPulse", fn := fun _ => fun
  | [d1, d2] => { results := [.lit (.bool false)], args := [d1, d2] }
  | _ => none }
def FnTimerPulseWrongFalsely : Prop := fnTimerPulseRow.holds Try.pinned (OpenSpec.ofChange fnTimerPulseWrong)

/-- 'laws.FnTimerOff': WHATEVER THE INPUT: true; the input reads as it did. -/
def fnTimerOffSpec : ChangeSpec := { name := "fnTimerOff", fn := fun _ => fun
  | [d1, d2] => { results := [.lit (.bool true)], args := [d1, d2] }
  | _ => none }
def fnTimerOffRow : OpenClaim := { program := "ytikebldmbabmiaa", sum := "120b904712a91af690de8c7b2a993f29e8693f43da88db6a7aa754151502e0c0", func := "loop.example/plcruntime/laws.FnTimerOff", spec := "fnTimerOff", unfollowed := true, recurses := true, apart := false }
def FnTimerOffSaid : Prop := fnTimerOffRow.holds Try.pinned (OpenSpec.ofChange fnTimerOffSpec)

/-- ITS FALSE NEIGHBOUR: 'it returns false'. Refute it at one input. -/
def fnTimerOffWrong : ChangeSpec := { name := "fnTimerOff", fn := fun _ => fun
  | [d1, d2] => { results := [.lit (.bool false)], args := [d1, d2] }
  | _ => none }
def FnTimerOffWrongFalsely : Prop := fnTimerOffRow.holds Try.pinned (OpenSpec.ofChange fnTimerOffWrong)

/-- 'laws.FnExactTimerValid': WHATEVER THE INPUT: true; the input reads as it did. -/
def fnExactTimerValidSpec : ChangeSpec := { name := "fnExactTimerValid", fn := fun _ => fun
  | [d] => { results := [.lit (.bool true)], args := [d] }
  | _ => none }
def fnExactTimerValidRow : OpenClaim := { program := "ytikebldmbabmiaa", sum := "120b904712a91af690de8c7b2a993f29e8693f43da88db6a7aa754151502e0c0", func := "loop.example/plcruntime/laws.FnExactTimerValid", spec := "fnExactTimerValid", apart := false }
def FnExactTimerValidSaid : Prop := fnExactTimerValidRow.holds Try.pinned (OpenSpec.ofChange fnExactTimerValidSpec)

/-- ITS FALSE NEIGHBOUR: 'it returns false'. Refute it at one input. -/
def fnExactTimerValidWrong : ChangeSpec := { name := "fnExactTimerValid", fn := fun _ => fun
  | [d] => { results := [.lit (.bool false)], args := [d] }
  | _ => none }
def FnExactTimerValidWrongFalsely : Prop := fnExactTimerValidRow.holds Try.pinned (OpenSpec.ofChange fnExactTimerValidWrong)

/-- 'laws.FnExactNewTimer': WHATEVER THE INPUT: true; the input reads as it did. -/
def fnExactNewTimerSpec : ChangeSpec := { name := "fnExactNewTimer", fn := fun _ => fun
  | [d1, d2] => { results := [.lit (.bool true)], args := [d1, d2] }
  | _ => none }
def fnExactNewTimerRow : OpenClaim := { program := "ytikebldmbabmiaa", sum := "120b904712a91af690de8c7b2a993f29e8693f43da88db6a7aa754151502e0c0", func := "loop.example/plcruntime/laws.FnExactNewTimer", spec := "fnExactNewTimer", unfollowed := true, recurses := true, apart := false }
def FnExactNewTimerSaid : Prop := fnExactNewTimerRow.holds Try.pinned (OpenSpec.ofChange fnExactNewTimerSpec)

/-- ITS FALSE NEIGHBOUR: 'it returns false'. Refute it at one input. -/
def fnExactNewTimerWrong : ChangeSpec := { name := "fnExactNewTimer", fn := fun _ => fun
  | [d1, d2] => { results := [.lit (.bool false)], args := [d1, d2] }
  | _ => none }
def FnExactNewTimerWrongFalsely : Prop := fnExactNewTimerRow.holds Try.pinned (OpenSpec.ofChange fnExactNewTimerWrong)

/-- 'laws.FnExactTimerStep': WHATEVER THE INPUT: true; the input reads as it did. -/
def fnExactTimerStepSpec : ChangeSpec := { name := "fnExactTimerStep", fn := fun _ => fun
  | [d1, d2, d3] => { results := [.lit (.bool true)], args := [d1, d2, d3] }
  | _ => none }
def fnExactTimerStepRow : OpenClaim := { program := "ytikebldmbabmiaa", sum := "120b904712a91af690de8c7b2a993f29e8693f43da88db6a7aa754151502e0c0", func := "loop.example/plcruntime/laws.FnExactTimerStep", spec := "fnExactTimerStep", unfollowed := true, recurses := true, apart := false }
def FnExactTimerStepSaid : Prop := fnExactTimerStepRow.holds Try.pinned (OpenSpec.ofChange fnExactTimerStepSpec)

/-- ITS FALSE NEIGHBOUR: 'it returns false'. Refute it at one input. -/
def fnExactTimerStepWrong : ChangeSpec := { name := "fnExactTimerStep", fn := fun _ => fun
  | [d1, d2, d3] => { results := [.lit (.bool false)], args := [d1, d2, d3] }
  | _ => none }
def FnExactTimerStepWrongFalsely : Prop := fnExactTimerStepRow.holds Try.pinned (OpenSpec.ofChange fnExactTimerStepWrong)

/-- 'laws.FnExactTimerTrace': WHATEVER THE INPUT: true; the input reads as it did. -/
def fnExactTimerTraceSpec : ChangeSpec := { name := "fnExactTimerTrace", fn := fun _ => fun
  | [d1, d2, d3] => { results := [.lit (.bool true)], args := [d1, d2, d3] }
  | _ => none }
def fnExactTimerTraceRow : OpenClaim := { program := "ytikebldmbabmiaa", sum := "120b904712a91af690de8c7b2a993f29e8693f43da88db6a7aa754151502e0c0", func := "loop.example/plcruntime/laws.FnExactTimerTrace", spec := "fnExactTimerTrace", unfollowed := true, recurses := true, apart := false }
def FnExactTimerTraceSaid : Prop := fnExactTimerTraceRow.holds Try.pinned (OpenSpec.ofChange fnExactTimerTraceSpec)

/-- ITS FALSE NEIGHBOUR: 'it returns false'. Refute it at one input. -/
def fnExactTimerTraceWrong : ChangeSpec := { name := "fnExactTimerTrace", fn := fun _ => fun
  | [d1, d2, d3] => { results := [.lit (.bool false)], args := [d1, d2, d3] }
  | _ => none }
def FnExactTimerTraceWrongFalsely : Prop := fnExactTimerTraceRow.holds Try.pinned (OpenSpec.ofChange fnExactTimerTraceWrong)

/- THE SECOND FORM. 'bulk': how many values and letters a reading holds, each counted each time it is reached (what is shared counts as often as it is met; a slice's spare places count too). A statement '..UptoSaid' is the law's where the arguments, and the package variables that the reading takes, are together of bulk at most 1048576: NARROWER than '..Said'. Prove '..Said' where nothing that the law and all that it calls make is longer than what came in: it says more and counts as full. Else prove '..UptoSaid'. A law counts once. -/
mutual
def uptoBulk {H : Type} : DataW H → Nat
  | .lit (.string bytes) => bytes.length + 1
  | .lit _ => 1
  | .nil => 1
  | .ptr d => uptoBulk d + 1
  | .slice elems spare => uptoBulkAll elems + uptoBulkAll spare + 1
  | .agg parts => uptoBulkAll parts + 1
  | .iface _ d => uptoBulk d + 1
  | .map entries => uptoBulkEntries entries + 1
  | .held _ => 1
def uptoBulkAll {H : Type} : List (DataW H) → Nat
  | [] => 0
  | d :: r => uptoBulk d + uptoBulkAll r
def uptoBulkEntries {H : Type} : List (Lit × DataW H) → Nat
  | [] => 0
  | x :: r => uptoBulkEntry x + uptoBulkEntries r
def uptoBulkEntry {H : Type} : Lit × DataW H → Nat
  | (.string bytes, d) => bytes.length + uptoBulk d + 1
  | (_, d) => uptoBulk d + 1
 end
def uptoSmall : (H : Type) → List (DataW H) → Bool := fun _ ds => decide (uptoBulkAll ds ≤ 1048576)
def OpenSpec.upto (s : _root_.Go.ChangeSpec) : _root_.Go.OpenSpec := { _root_.Go.OpenSpec.ofChange s with cond := some uptoSmall }

/-- 'laws.FnTimerValid', WHERE WHAT IT READS IS OF BULK AT MOST 1048576: true; the input reads as it did. -/
def fnTimerValidUptoRow : OpenClaim := { program := "ytikebldmbabmiaa", sum := "120b904712a91af690de8c7b2a993f29e8693f43da88db6a7aa754151502e0c0", func := "loop.example/plcruntime/laws.FnTimerValid", spec := "fnTimerValid", apart := false, narrowed := true }
def FnTimerValidUptoSaid : Prop := fnTimerValidUptoRow.holds Try.pinned (OpenSpec.upto fnTimerValidSpec)

/-- 'laws.FnNewTimer', WHERE WHAT IT READS IS OF BULK AT MOST 1048576: true; the input reads as it did. -/
def fnNewTimerUptoRow : OpenClaim := { program := "ytikebldmbabmiaa", sum := "120b904712a91af690de8c7b2a993f29e8693f43da88db6a7aa754151502e0c0", func := "loop.example/plcruntime/laws.FnNewTimer", spec := "fnNewTimer", unfollowed := true, recurses := true, apart := false, narrowed := true }
def FnNewTimerUptoSaid : Prop := fnNewTimerUptoRow.holds Try.pinned (OpenSpec.upto fnNewTimerSpec)

/-- 'laws.FnTimerStep', WHERE WHAT IT READS IS OF BULK AT MOST 1048576: true; the input reads as it did. -/
def fnTimerStepUptoRow : OpenClaim := { program := "ytikebldmbabmiaa", sum := "120b904712a91af690de8c7b2a993f29e8693f43da88db6a7aa754151502e0c0", func := "loop.example/plcruntime/laws.FnTimerStep", spec := "fnTimerStep", unfollowed := true, recurses := true, apart := false, narrowed := true }
def FnTimerStepUptoSaid : Prop := fnTimerStepUptoRow.holds Try.pinned (OpenSpec.upto fnTimerStepSpec)

/-- 'laws.FnTimerTrace', WHERE WHAT IT READS IS OF BULK AT MOST 1048576: true; the input reads as it did. -/
def fnTimerTraceUptoRow : OpenClaim := { program := "ytikebldmbabmiaa", sum := "120b904712a91af690de8c7b2a993f29e8693f43da88db6a7aa754151502e0c0", func := "loop.example/plcruntime/laws.FnTimerTrace", spec := "fnTimerTrace", unfollowed := true, recurses := true, apart := false, narrowed := true }
def FnTimerTraceUptoSaid : Prop := fnTimerTraceUptoRow.holds Try.pinned (OpenSpec.upto fnTimerTraceSpec)

/-- 'laws.FnTimerOn', WHERE WHAT IT READS IS OF BULK AT MOST 1048576: true; the input reads as it did. -/
def fnTimerOnUptoRow : OpenClaim := { program := "ytikebldmbabmiaa", sum := "120b904712a91af690de8c7b2a993f29e8693f43da88db6a7aa754151502e0c0", func := "loop.example/plcruntime/laws.FnTimerOn", spec := "fnTimerOn", unfollowed := true, recurses := true, apart := false, narrowed := true }
def FnTimerOnUptoSaid : Prop := fnTimerOnUptoRow.holds Try.pinned (OpenSpec.upto fnTimerOnSpec)

/-- 'laws.FnTimerPulse', WHERE WHAT IT READS IS OF BULK AT MOST 1048576: true; the input reads as it did. -/
def fnTimerPulseUptoRow : OpenClaim := { program := "ytikebldmbabmiaa", sum := "120b904712a91af690de8c7b2a993f29e8693f43da88db6a7aa754151502e0c0", func := "loop.example/plcruntime/laws.FnTimerPulse", spec := "fnTimerPulse", unfollowed := true, recurses := true, apart := false, narrowed := true }
def FnTimerPulseUptoSaid : Prop := fnTimerPulseUptoRow.holds Try.pinned (OpenSpec.upto fnTimerPulseSpec)

/-- 'laws.FnTimerOff', WHERE WHAT IT READS IS OF BULK AT MOST 1048576: true; the input reads as it did. -/
def fnTimerOffUptoRow : OpenClaim := { program := "ytikebldmbabmiaa", sum := "120b904712a91af690de8c7b2a993f29e8693f43da88db6a7aa754151502e0c0", func := "loop.example/plcruntime/laws.FnTimerOff", spec := "fnTimerOff", unfollowed := true, recurses := true, apart := false, narrowed := true }
def FnTimerOffUptoSaid : Prop := fnTimerOffUptoRow.holds Try.pinned (OpenSpec.upto fnTimerOffSpec)

/-- 'laws.FnExactTimerValid', WHERE WHAT IT READS IS OF BULK AT MOST 1048576: true; the input reads as it did. -/
def fnExactTimerValidUptoRow : OpenClaim := { program := "ytikebldmbabmiaa", sum := "120b904712a91af690de8c7b2a993f29e8693f43da88db6a7aa754151502e0c0", func := "loop.example/plcruntime/laws.FnExactTimerValid", spec := "fnExactTimerValid", apart := false, narrowed := true }
def FnExactTimerValidUptoSaid : Prop := fnExactTimerValidUptoRow.holds Try.pinned (OpenSpec.upto fnExactTimerValidSpec)

/-- 'laws.FnExactNewTimer', WHERE WHAT IT READS IS OF BULK AT MOST 1048576: true; the input reads as it did. -/
def fnExactNewTimerUptoRow : OpenClaim := { program := "ytikebldmbabmiaa", sum := "120b904712a91af690de8c7b2a993f29e8693f43da88db6a7aa754151502e0c0", func := "loop.example/plcruntime/laws.FnExactNewTimer", spec := "fnExactNewTimer", unfollowed := true, recurses := true, apart := false, narrowed := true }
def FnExactNewTimerUptoSaid : Prop := fnExactNewTimerUptoRow.holds Try.pinned (OpenSpec.upto fnExactNewTimerSpec)

/-- 'laws.FnExactTimerStep', WHERE WHAT IT READS IS OF BULK AT MOST 1048576: true; the input reads as it did. -/
def fnExactTimerStepUptoRow : OpenClaim := { program := "ytikebldmbabmiaa", sum := "120b904712a91af690de8c7b2a993f29e8693f43da88db6a7aa754151502e0c0", func := "loop.example/plcruntime/laws.FnExactTimerStep", spec := "fnExactTimerStep", unfollowed := true, recurses := true, apart := false, narrowed := true }
def FnExactTimerStepUptoSaid : Prop := fnExactTimerStepUptoRow.holds Try.pinned (OpenSpec.upto fnExactTimerStepSpec)

/-- 'laws.FnExactTimerTrace', WHERE WHAT IT READS IS OF BULK AT MOST 1048576: true; the input reads as it did. -/
def fnExactTimerTraceUptoRow : OpenClaim := { program := "ytikebldmbabmiaa", sum := "120b904712a91af690de8c7b2a993f29e8693f43da88db6a7aa754151502e0c0", func := "loop.example/plcruntime/laws.FnExactTimerTrace", spec := "fnExactTimerTrace", unfollowed := true, recurses := true, apart := false, narrowed := true }
def FnExactTimerTraceUptoSaid : Prop := fnExactTimerTraceUptoRow.holds Try.pinned (OpenSpec.upto fnExactTimerTraceSpec)

end Rows
end Go.Proofs.Ytikebldmbabmiaa
