/-
  FnExactMedianOf returns true for every argument, and writes nothing that was there. No condition.
-/
import Derived.Test.YtcpjafhhmhaenaaAg
import Derived.Test.YtcpjafhhmhaenaaAH
import Derived.Test.YtcpjafhhmhaenaaKJ
import Derived.ProofKit
import Derived.OpenShut
import Derived.ShutString
import Derived.ChangeOld
namespace Go.Proofs.Ytcpjafhhmhaenaa.fnExactMedianOf
open Go.ChangeShapes Go.WideShapes Go.ChangeAt Go.RowKit

theorem own : ownKnob Try.prog.godebug = none := by kernel_rfl
theorem laidOut : laidOutB Try.prog = true := by kernel_rfl
theorem walk (A0 : Option Addr) (n0 c0 : Nat) (hn0 : n0 ≤ 9223372036854775807) (w : World) (f0 : n0 ≤ 1048576 → ∃ l : List Int, l.length = n0 ∧ IntsR w w.heap.size (.slice A0 n0 c0) l) :
    Calls Try.prog 17 #[.slice A0 n0 c0] w (LawPost w) := by
  by_cases hs : 1048576 < n0
  · exact FnExactMedianOf_long A0 n0 c0 w hn0 (by omega)
  · obtain ⟨l0, rfl, g0⟩ := f0 (by omega)
    exact FnExactMedianOf_core A0 c0 l0 w g0 (by omega)

set_option maxRecDepth 100000 in
theorem lifted (os : Os) (started : os.Started) (H : Type) (enc : TypeId × Value → H) :
    ReturnsInHanded {} Try.checked os 17 .any (Rows.fnExactMedianOfSpec.pre6 enc Try.prog Try.f17 Rows.fnExactMedianOfRow.domain false) (Rows.fnExactMedianOfSpec.post enc Try.prog Try.f17 false true false false) := by
  refine returnsInHanded_of_change (C := Try.checked) own started (by kernel_rfl) Try.func17
    (ChangeSpec.witness6 (enc := enc) (C := Try.checked) false ⟨#[], #[.slice none 0 0], []⟩ 8 (by kernel_rfl) (by kernel_rfl) (by kernel_rfl) (by kernel_rfl)) ?_
  intro W base args ds gs before hval0 hW _ _
  have hval : ∀ (j : Nat) t v, Try.f17.params[j]? = some t → args[j]? = some v → Value.okWide Try.prog W .any base t v := hval0
  have hW' := hW
  obtain ⟨p, q, hA0, hV, rfl, -, -⟩ := hW
  have hA : DataW.TrodAll enc Try.prog W 0 (fun _ => true) true Try.f17.params.toList args.toList ds p := hA0
  rw [Try.params17] at hA hval
  obtain ⟨v0, vs0, d0, ds0, p0, q0, hargs0, rfl, rfl, h0, r0⟩ := trodAll_cons hA
  obtain ⟨rfl, rfl, rfl⟩ := trodAll_nil r0
  obtain rfl : args = #[v0] := by cases args; simp_all
  obtain ⟨rfl, rfl⟩ := trodVars_none hV
  have k0' := h0
  have lt0 : ∀ x ∈ p0, x.block < W.heap.size := by obtain ⟨m, hm⟩ := k0'; exact DataW.trod_lt m _ _ _ hm
  obtain ⟨A0, n0, c0, rfl, hn0, f0⟩ := open_nums (hval 0 39 v0 rfl rfl) h0
  clear hA0 hval0
  refine (walk A0 n0 c0 hn0 W f0).mono fun e W' ⟨he, bel⟩ => ?_
  subst he
  exact ⟨_, rfl, _, _, _, [], _, [], hW', trodAll_mk1 (shut_bool Try.underlying4 _), (trodAll_cons_mk (Below.trod laidOut (by kernel_rfl) (of_decide_eq_true (by kernel_rfl)) k0' bel lt0) trodAll_mk0), rfl, bel.frame _, fun h => by cases h⟩

theorem jInPlace : (Rows.fnExactMedianOfRow.inPlace == Try.prog.inPlace 17) = true := by kernel_rfl
theorem jUnfollowed : (Rows.fnExactMedianOfRow.unfollowed == Try.prog.unfollowed 17) = true := by kernel_rfl
theorem jRecurses : (Rows.fnExactMedianOfRow.recurses == Try.prog.recurses 17) = true := by kernel_rfl
theorem jNamed : (Rows.fnExactMedianOfRow.named == Try.prog.varsNamed 17) = true := by kernel_rfl
theorem jMake : (Try.prog.make == some Rows.fnExactMedianOfRow.make) = true := by rw [fMake]; kernel_rfl
theorem jLifts : (Rows.fnExactMedianOfRow.lifted == Try.prog.liftsFinal) = true := by rw [fLifts]; kernel_rfl
theorem closed : joinedFacts Try.prog 17 Try.f17 Rows.fnExactMedianOfSpec Rows.fnExactMedianOfRow = true := by
  simp only [joinedFacts, Bool.and_eq_true]
  repeat' apply And.intro
  all_goals first | (with_reducible exact jInPlace) | (with_reducible exact jUnfollowed) | (with_reducible exact jRecurses) | (with_reducible exact jNamed) | (with_reducible exact jMake) | (with_reducible exact jLifts) | (with_reducible exact fEnter) | kernel_rfl
theorem over : Rows.fnExactMedianOfRow.holds Try.pinned (OpenSpec.ofChange Rows.fnExactMedianOfSpec) :=
  OpenClaim.holds_of_wide 17 Try.f17 rfl rfl rfl rfl rfl rfl rfl ⟨rfl, rfl, rfl, rfl, rfl⟩ rfl rfl rfl rfl rfl (by kernel_rfl) Try.func17 closed
    (of_decide_eq_true (by kernel_rfl)) (by unfold Func.isWrapper; first | (rw [if_pos (by decide +kernel)]; kernel_rfl) | (rw [if_neg (by decide +kernel)]; exact ⟨rfl, rfl⟩))
    (fun os started H enc _ => lifted os started H enc)
theorem proved : Rows.FnExactMedianOfSaid := over
end Go.Proofs.Ytcpjafhhmhaenaa.fnExactMedianOf
