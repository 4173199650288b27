/-
  FnExactRungValid returns true for every argument, and writes nothing that was there. No condition.
-/
import Derived.Test.YtlpoeijjlkdceaaEU
import Derived.Test.YtlpoeijjlkdceaaOR
import Derived.Test.YtlpoeijjlkdceaaKJ
import Derived.ProofKit
import Derived.OpenShut
import Derived.ShutString
import Derived.ChangeOld
namespace Go.Proofs.Ytlpoeijjlkdceaa.fnExactRungValid
open Go.ChangeShapes Go.WideShapes Go.ChangeAt Go.RowKit

theorem own : ownKnob Try.prog.godebug = none := by kernel_rfl
theorem laidOut : laidOutB Try.prog = true := by kernel_rfl
theorem walk (A0 : Option Addr) (n0 c0 : Nat) (x0 y0 : Int) (hn0 : n0 ≤ 9223372036854775807) (hx0 : fit64 x0 ∧ fit64 y0) (n1 : Int) (hn1 : -9223372036854775808 ≤ n1 ∧ n1 ≤ 9223372036854775807) (w : World) (f0 : n0 ≤ 1048576 → ∃ l : List Nd, l.length = n0 ∧ NodesR w w.heap.size (.slice A0 n0 c0) l) :
    Calls Try.prog 12 #[.agg #[.slice A0 n0 c0, .int .i64 x0, .int .i64 y0], .int .i64 n1] w (LawPost w) := by
  by_cases hs : 1048576 < n0
  · exact FnExactRungValid_long A0 n0 c0 x0 y0 n1 w hn0 hx0 (by omega)
  · obtain ⟨l0, rfl, g0⟩ := f0 (by omega)
    exact FnExactRungValid_core A0 c0 x0 y0 l0 n1 w g0 hx0 (by omega)

set_option maxRecDepth 100000 in
theorem lifted (os : Os) (started : os.Started) (H : Type) (enc : TypeId × Value → H) :
    ReturnsInHanded {} Try.checked os 12 .any (Rows.fnExactRungValidSpec.pre6 enc Try.prog Try.f12 Rows.fnExactRungValidRow.domain false) (Rows.fnExactRungValidSpec.post enc Try.prog Try.f12 false true false false) := by
  refine returnsInHanded_of_change (C := Try.checked) own started (by kernel_rfl) Try.func12
    (ChangeSpec.witness6 (enc := enc) (C := Try.checked) false ⟨#[], #[.agg #[.slice none 0 0, .int .i64 0, .int .i64 0], .int .i64 0], []⟩ 8 (by kernel_rfl) (by kernel_rfl) (by kernel_rfl) (by kernel_rfl)) ?_
  intro W base args ds gs before hval0 hW _ _
  have hval : ∀ (j : Nat) t v, Try.f12.params[j]? = some t → args[j]? = some v → Value.okWide Try.prog W .any base t v := hval0
  have hW' := hW
  obtain ⟨p, q, hA0, hV, rfl, -, -⟩ := hW
  have hA : DataW.TrodAll enc Try.prog W 0 (fun _ => true) true Try.f12.params.toList args.toList ds p := hA0
  rw [Try.params12] at hA hval
  obtain ⟨v0, vs0, d0, ds0, p0, q0, hargs0, rfl, rfl, h0, r0⟩ := trodAll_cons hA
  obtain ⟨v1, vs1, d1, ds1, p1, q1, hargs1, rfl, rfl, h1, r1⟩ := trodAll_cons r0
  obtain ⟨rfl, rfl, rfl⟩ := trodAll_nil r1
  obtain rfl : args = #[v0, v1] := by cases args; simp_all
  obtain ⟨rfl, rfl⟩ := trodVars_none hV
  have k0' := h0
  have lt0 : ∀ x ∈ p0, x.block < W.heap.size := by obtain ⟨m, hm⟩ := k0'; exact DataW.trod_lt m _ _ _ hm
  obtain ⟨A0, n0, c0, x0, y0, rfl, hn0, hx0, f0⟩ := open_rung (hval 0 67 v0 rfl rfl) h0
  have k1' := h1
  have lt1 : ∀ x ∈ p1, x.block < W.heap.size := by obtain ⟨m, hm⟩ := k1'; exact DataW.trod_lt m _ _ _ hm
  obtain ⟨n1, rfl, -, -, wf1⟩ := open_int Try.underlying3 (hval 1 3 v1 rfl rfl) h1
  have hn1 : -9223372036854775808 ≤ n1 ∧ n1 ≤ 9223372036854775807 := by
    simp [Lit.wf, IntKind.min, IntKind.max, IntKind.signed, IntKind.bits] at wf1
    omega
  clear hA0 hval0
  refine (walk A0 n0 c0 x0 y0 hn0 hx0 n1 hn1 W f0).mono fun e W' ⟨he, bel⟩ => ?_
  subst he
  exact ⟨_, rfl, _, _, _, [], _, [], hW', trodAll_mk1 (shut_bool Try.underlying4 _), (trodAll_cons_mk (Below.trod laidOut (by kernel_rfl) (of_decide_eq_true (by kernel_rfl)) k0' bel lt0) (trodAll_cons_mk (Below.trod laidOut (by kernel_rfl) (of_decide_eq_true (by kernel_rfl)) k1' bel lt1) trodAll_mk0)), rfl, bel.frame _, fun h => by cases h⟩

theorem jInPlace : (Rows.fnExactRungValidRow.inPlace == Try.prog.inPlace 12) = true := by kernel_rfl
theorem jUnfollowed : (Rows.fnExactRungValidRow.unfollowed == Try.prog.unfollowed 12) = true := by kernel_rfl
theorem jRecurses : (Rows.fnExactRungValidRow.recurses == Try.prog.recurses 12) = true := by kernel_rfl
theorem jNamed : (Rows.fnExactRungValidRow.named == Try.prog.varsNamed 12) = true := by kernel_rfl
theorem jMake : (Try.prog.make == some Rows.fnExactRungValidRow.make) = true := by rw [fMake]; kernel_rfl
theorem jLifts : (Rows.fnExactRungValidRow.lifted == Try.prog.liftsFinal) = true := by rw [fLifts]; kernel_rfl
theorem closed : joinedFacts Try.prog 12 Try.f12 Rows.fnExactRungValidSpec Rows.fnExactRungValidRow = true := by
  simp only [joinedFacts, Bool.and_eq_true]
  repeat' apply And.intro
  all_goals first | (with_reducible exact jInPlace) | (with_reducible exact jUnfollowed) | (with_reducible exact jRecurses) | (with_reducible exact jNamed) | (with_reducible exact jMake) | (with_reducible exact jLifts) | (with_reducible exact fEnter) | kernel_rfl
theorem over : Rows.fnExactRungValidRow.holds Try.pinned (OpenSpec.ofChange Rows.fnExactRungValidSpec) :=
  OpenClaim.holds_of_wide 12 Try.f12 rfl rfl rfl rfl rfl rfl rfl ⟨rfl, rfl, rfl, rfl, rfl⟩ rfl rfl rfl rfl rfl (by kernel_rfl) Try.func12 closed
    (of_decide_eq_true (by kernel_rfl)) (by unfold Func.isWrapper; first | (rw [if_pos (by decide +kernel)]; kernel_rfl) | (rw [if_neg (by decide +kernel)]; exact ⟨rfl, rfl⟩))
    (fun os started H enc _ => lifted os started H enc)
theorem proved : Rows.FnExactRungValidSaid := over
end Go.Proofs.Ytlpoeijjlkdceaa.fnExactRungValid
