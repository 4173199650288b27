/-
  FnExactCounterEmpty returns true for every argument, and writes nothing that was there. No condition.
-/
import Derived.Test.YtldlfailmmmdmaaCf
import Derived.Test.YtldlfailmmmdmaaCH
import Derived.Test.YtldlfailmmmdmaaKJ
import Derived.ProofKit
import Derived.OpenShut
import Derived.ShutString
import Derived.ChangeOld
namespace Go.Proofs.Ytldlfailmmmdmaa.fnExactCounterEmpty
open Go.ChangeShapes Go.WideShapes Go.ChangeAt Go.RowKit

theorem own : ownKnob Try.prog.godebug = none := by kernel_rfl
theorem laidOut : laidOutB Try.prog = true := by kernel_rfl
theorem walk (t0 : Cn) (hf0 : fitC t0) (w : World)  :
    Calls Try.prog 11 #[cnV t0] w (LawPost w) := by
  exact FnExactCounterEmpty_any t0 w hf0

set_option maxRecDepth 100000 in
theorem lifted (os : Os) (started : os.Started) (H : Type) (enc : TypeId × Value → H) :
    ReturnsInHanded {} Try.checked os 11 .any (Rows.fnExactCounterEmptySpec.pre6 enc Try.prog Try.f11 Rows.fnExactCounterEmptyRow.domain false) (Rows.fnExactCounterEmptySpec.post enc Try.prog Try.f11 false true false false) := by
  refine returnsInHanded_of_change (C := Try.checked) own started (by kernel_rfl) Try.func11
    (ChangeSpec.witness6 (enc := enc) (C := Try.checked) false ⟨#[], #[.agg #[.int .i64 0, .int .i64 0, .bool false, .bool false]], []⟩ 8 (by kernel_rfl) (by kernel_rfl) (by kernel_rfl) (by kernel_rfl)) ?_
  intro W base args ds gs before hval0 hW _ _
  have hval : ∀ (j : Nat) t v, Try.f11.params[j]? = some t → args[j]? = some v → Value.okWide Try.prog W .any base t v := hval0
  have hW' := hW
  obtain ⟨p, q, hA0, hV, rfl, -, -⟩ := hW
  have hA : DataW.TrodAll enc Try.prog W 0 (fun _ => true) true Try.f11.params.toList args.toList ds p := hA0
  rw [Try.params11] at hA hval
  obtain ⟨v0, vs0, d0, ds0, p0, q0, hargs0, rfl, rfl, h0, r0⟩ := trodAll_cons hA
  obtain ⟨rfl, rfl, rfl⟩ := trodAll_nil r0
  obtain rfl : args = #[v0] := by cases args; simp_all
  obtain ⟨rfl, rfl⟩ := trodVars_none hV
  have k0' := h0
  have lt0 : ∀ x ∈ p0, x.block < W.heap.size := by obtain ⟨m, hm⟩ := k0'; exact DataW.trod_lt m _ _ _ hm
  obtain ⟨t0, rfl, hf0⟩ := open_counter (hval 0 38 v0 rfl rfl) h0
  clear hA0 hval0
  refine (walk t0 hf0 W ).mono fun e W' ⟨he, bel⟩ => ?_
  subst he
  exact ⟨_, rfl, _, _, _, [], _, [], hW', trodAll_mk1 (shut_bool Try.underlying4 _), (trodAll_cons_mk (Below.trod laidOut (by kernel_rfl) (of_decide_eq_true (by kernel_rfl)) k0' bel lt0) trodAll_mk0), rfl, bel.frame _, fun h => by cases h⟩

theorem jInPlace : (Rows.fnExactCounterEmptyRow.inPlace == Try.prog.inPlace 11) = true := by kernel_rfl
theorem jUnfollowed : (Rows.fnExactCounterEmptyRow.unfollowed == Try.prog.unfollowed 11) = true := by kernel_rfl
theorem jRecurses : (Rows.fnExactCounterEmptyRow.recurses == Try.prog.recurses 11) = true := by kernel_rfl
theorem jNamed : (Rows.fnExactCounterEmptyRow.named == Try.prog.varsNamed 11) = true := by kernel_rfl
theorem jMake : (Try.prog.make == some Rows.fnExactCounterEmptyRow.make) = true := by rw [fMake]; kernel_rfl
theorem jLifts : (Rows.fnExactCounterEmptyRow.lifted == Try.prog.liftsFinal) = true := by rw [fLifts]; kernel_rfl
theorem closed : joinedFacts Try.prog 11 Try.f11 Rows.fnExactCounterEmptySpec Rows.fnExactCounterEmptyRow = true := by
  simp only [joinedFacts, Bool.and_eq_true]
  repeat' apply And.intro
  all_goals first | (with_reducible exact jInPlace) | (with_reducible exact jUnfollowed) | (with_reducible exact jRecurses) | (with_reducible exact jNamed) | (with_reducible exact jMake) | (with_reducible exact jLifts) | (with_reducible exact fEnter) | kernel_rfl
theorem over : Rows.fnExactCounterEmptyRow.holds Try.pinned (OpenSpec.ofChange Rows.fnExactCounterEmptySpec) :=
  OpenClaim.holds_of_wide 11 Try.f11 rfl rfl rfl rfl rfl rfl rfl ⟨rfl, rfl, rfl, rfl, rfl⟩ rfl rfl rfl rfl rfl (by kernel_rfl) Try.func11 closed
    (of_decide_eq_true (by kernel_rfl)) (by unfold Func.isWrapper; first | (rw [if_pos (by decide +kernel)]; kernel_rfl) | (rw [if_neg (by decide +kernel)]; exact ⟨rfl, rfl⟩))
    (fun os started H enc _ => lifted os started H enc)
theorem proved : Rows.FnExactCounterEmptySaid := over
end Go.Proofs.Ytldlfailmmmdmaa.fnExactCounterEmpty
