/-
  FnExactMovingAverage returns true for every argument, and writes nothing that was there. No condition.
-/
import Derived.Test.YtcpjafhhmhaenaaAg
import Derived.Test.YtcpjafhhmhaenaaAH
import Derived.Test.YtcpjafhhmhaenaaKJ
import Derived.ProofKit
import Derived.OpenShut
import Derived.ShutString
import Derived.ChangeOld
namespace Go.Proofs.Ytcpjafhhmhaenaa.fnExactMovingAverage
open Go.ChangeShapes Go.WideShapes Go.ChangeAt Go.RowKit

theorem own : ownKnob Try.prog.godebug = none := by kernel_rfl
theorem laidOut : laidOutB Try.prog = true := by kernel_rfl
theorem walk (A0 : Option Addr) (n0 c0 : Nat) (hn0 : n0 ≤ 9223372036854775807) (n1 : Int) (_hn1 : -9223372036854775808 ≤ n1 ∧ n1 ≤ 9223372036854775807) (w : World) (f0 : n0 ≤ 1048576 → ∃ l : List Int, l.length = n0 ∧ IntsR w w.heap.size (.slice A0 n0 c0) l) :
    Calls Try.prog 16 #[.slice A0 n0 c0, .int .i64 n1] w (LawPost w) := by
  by_cases hs : 1048576 < n0
  · exact FnExactMovingAverage_long A0 n0 c0 n1 w hn0 (by omega)
  · obtain ⟨l0, rfl, g0⟩ := f0 (by omega)
    exact FnExactMovingAverage_core A0 c0 l0 n1 w g0 (by omega)

set_option maxRecDepth 100000 in
theorem lifted (os : Os) (started : os.Started) (H : Type) (enc : TypeId × Value → H) :
    ReturnsInHanded {} Try.checked os 16 .any (Rows.fnExactMovingAverageSpec.pre6 enc Try.prog Try.f16 Rows.fnExactMovingAverageRow.domain false) (Rows.fnExactMovingAverageSpec.post enc Try.prog Try.f16 false true false false) := by
  refine returnsInHanded_of_change (C := Try.checked) own started (by kernel_rfl) Try.func16
    (ChangeSpec.witness6 (enc := enc) (C := Try.checked) false ⟨#[], #[.slice none 0 0, .int .i64 0], []⟩ 8 (by kernel_rfl) (by kernel_rfl) (by kernel_rfl) (by kernel_rfl)) ?_
  intro W base args ds gs before hval0 hW _ _
  have hval : ∀ (j : Nat) t v, Try.f16.params[j]? = some t → args[j]? = some v → Value.okWide Try.prog W .any base t v := hval0
  have hW' := hW
  obtain ⟨p, q, hA0, hV, rfl, -, -⟩ := hW
  have hA : DataW.TrodAll enc Try.prog W 0 (fun _ => true) true Try.f16.params.toList args.toList ds p := hA0
  rw [Try.params16] at hA hval
  obtain ⟨v0, vs0, d0, ds0, p0, q0, hargs0, rfl, rfl, h0, r0⟩ := trodAll_cons hA
  obtain ⟨v1, vs1, d1, ds1, p1, q1, hargs1, rfl, rfl, h1, r1⟩ := trodAll_cons r0
  obtain ⟨rfl, rfl, rfl⟩ := trodAll_nil r1
  obtain rfl : args = #[v0, v1] := by cases args; simp_all
  obtain ⟨rfl, rfl⟩ := trodVars_none hV
  have k0' := h0
  have lt0 : ∀ x ∈ p0, x.block < W.heap.size := by obtain ⟨m, hm⟩ := k0'; exact DataW.trod_lt m _ _ _ hm
  obtain ⟨A0, n0, c0, rfl, hn0, f0⟩ := open_nums (hval 0 39 v0 rfl rfl) h0
  have k1' := h1
  have lt1 : ∀ x ∈ p1, x.block < W.heap.size := by obtain ⟨m, hm⟩ := k1'; exact DataW.trod_lt m _ _ _ hm
  obtain ⟨n1, rfl, -, -, wf1⟩ := open_int Try.underlying3 (hval 1 3 v1 rfl rfl) h1
  have hn1 : -9223372036854775808 ≤ n1 ∧ n1 ≤ 9223372036854775807 := by
    simp [Lit.wf, IntKind.min, IntKind.max, IntKind.signed, IntKind.bits] at wf1
    omega
  clear hA0 hval0
  refine (walk A0 n0 c0 hn0 n1 hn1 W f0).mono fun e W' ⟨he, bel⟩ => ?_
  subst he
  exact ⟨_, rfl, _, _, _, [], _, [], hW', trodAll_mk1 (shut_bool Try.underlying4 _), (trodAll_cons_mk (Below.trod laidOut (by kernel_rfl) (of_decide_eq_true (by kernel_rfl)) k0' bel lt0) (trodAll_cons_mk (Below.trod laidOut (by kernel_rfl) (of_decide_eq_true (by kernel_rfl)) k1' bel lt1) trodAll_mk0)), rfl, bel.frame _, fun h => by cases h⟩

theorem jInPlace : (Rows.fnExactMovingAverageRow.inPlace == Try.prog.inPlace 16) = true := by kernel_rfl
theorem jUnfollowed : (Rows.fnExactMovingAverageRow.unfollowed == Try.prog.unfollowed 16) = true := by kernel_rfl
theorem jRecurses : (Rows.fnExactMovingAverageRow.recurses == Try.prog.recurses 16) = true := by kernel_rfl
theorem jNamed : (Rows.fnExactMovingAverageRow.named == Try.prog.varsNamed 16) = true := by kernel_rfl
theorem jMake : (Try.prog.make == some Rows.fnExactMovingAverageRow.make) = true := by rw [fMake]; kernel_rfl
theorem jLifts : (Rows.fnExactMovingAverageRow.lifted == Try.prog.liftsFinal) = true := by rw [fLifts]; kernel_rfl
theorem closed : joinedFacts Try.prog 16 Try.f16 Rows.fnExactMovingAverageSpec Rows.fnExactMovingAverageRow = true := by
  simp only [joinedFacts, Bool.and_eq_true]
  repeat' apply And.intro
  all_goals first | (with_reducible exact jInPlace) | (with_reducible exact jUnfollowed) | (with_reducible exact jRecurses) | (with_reducible exact jNamed) | (with_reducible exact jMake) | (with_reducible exact jLifts) | (with_reducible exact fEnter) | kernel_rfl
theorem over : Rows.fnExactMovingAverageRow.holds Try.pinned (OpenSpec.ofChange Rows.fnExactMovingAverageSpec) :=
  OpenClaim.holds_of_wide 16 Try.f16 rfl rfl rfl rfl rfl rfl rfl ⟨rfl, rfl, rfl, rfl, rfl⟩ rfl rfl rfl rfl rfl (by kernel_rfl) Try.func16 closed
    (of_decide_eq_true (by kernel_rfl)) (by unfold Func.isWrapper; first | (rw [if_pos (by decide +kernel)]; kernel_rfl) | (rw [if_neg (by decide +kernel)]; exact ⟨rfl, rfl⟩))
    (fun os started H enc _ => lifted os started H enc)
theorem proved : Rows.FnExactMovingAverageSaid := over
end Go.Proofs.Ytcpjafhhmhaenaa.fnExactMovingAverage
