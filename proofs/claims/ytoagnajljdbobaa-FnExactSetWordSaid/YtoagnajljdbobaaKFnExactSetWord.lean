/-
  FnExactSetWord returns true for every argument, and writes nothing that was there. No condition.
-/
import Derived.Test.YtoagnajljdbobaaEF
import Derived.Test.YtoagnajljdbobaaOI
import Derived.Test.YtoagnajljdbobaaKJ
import Derived.ProofKit
import Derived.OpenShut
import Derived.ShutString
import Derived.ChangeOld
namespace Go.Proofs.Ytoagnajljdbobaa.fnExactSetWord
open Go.ChangeShapes Go.WideShapes Go.ChangeAt Go.RowKit

theorem own : ownKnob Try.prog.godebug = none := by kernel_rfl
theorem laidOut : laidOutB Try.prog = true := by kernel_rfl
theorem walk (A0 : Option Addr) (n0 c0 : Nat) (B0 : Option Addr) (k0 e0 : Nat) (hn0 : n0 ≤ 9223372036854775807) (hk0 : k0 ≤ 9223372036854775807) (n1 : Int) (_hn1 : -9223372036854775808 ≤ n1 ∧ n1 ≤ 9223372036854775807) (n2 : Int) (_hn2 : -9223372036854775808 ≤ n2 ∧ n2 ≤ 9223372036854775807) (w : World) (f0 : n0 + k0 ≤ 1048576 → ∃ m : Img, m.bits.length = n0 ∧ m.words.length = k0 ∧ ImgR w w.heap.size (.agg #[.slice A0 n0 c0, .slice B0 k0 e0]) m) :
    Calls Try.prog 10 #[.agg #[.slice A0 n0 c0, .slice B0 k0 e0], .int .i64 n1, .int .i64 n2] w (LawPost w) := by
  by_cases hs : 1048576 < n0 + k0
  · exact FnExactSetWord_long A0 n0 c0 B0 k0 e0 n1 n2 w hn0 hk0 (by omega)
  · obtain ⟨m0, rfl, rfl, g0⟩ := f0 (by omega)
    exact FnExactSetWord_core A0 c0 B0 e0 m0 n1 n2 w g0 (by omega)

set_option maxRecDepth 100000 in
theorem lifted (os : Os) (started : os.Started) (H : Type) (enc : TypeId × Value → H) :
    ReturnsInHanded {} Try.checked os 10 .any (Rows.fnExactSetWordSpec.pre6 enc Try.prog Try.f10 Rows.fnExactSetWordRow.domain false) (Rows.fnExactSetWordSpec.post enc Try.prog Try.f10 false true false false) := by
  refine returnsInHanded_of_change (C := Try.checked) own started (by kernel_rfl) Try.func10
    (ChangeSpec.witness6 (enc := enc) (C := Try.checked) false ⟨#[], #[.agg #[.slice none 0 0, .slice none 0 0], .int .i64 0, .int .i64 0], []⟩ 8 (by kernel_rfl) (by kernel_rfl) (by kernel_rfl) (by kernel_rfl)) ?_
  intro W base args ds gs before hval0 hW _ _
  have hval : ∀ (j : Nat) t v, Try.f10.params[j]? = some t → args[j]? = some v → Value.okWide Try.prog W .any base t v := hval0
  have hW' := hW
  obtain ⟨p, q, hA0, hV, rfl, -, -⟩ := hW
  have hA : DataW.TrodAll enc Try.prog W 0 (fun _ => true) true Try.f10.params.toList args.toList ds p := hA0
  rw [Try.params10] at hA hval
  obtain ⟨v0, vs0, d0, ds0, p0, q0, hargs0, rfl, rfl, h0, r0⟩ := trodAll_cons hA
  obtain ⟨v1, vs1, d1, ds1, p1, q1, hargs1, rfl, rfl, h1, r1⟩ := trodAll_cons r0
  obtain ⟨v2, vs2, d2, ds2, p2, q2, hargs2, rfl, rfl, h2, r2⟩ := trodAll_cons r1
  obtain ⟨rfl, rfl, rfl⟩ := trodAll_nil r2
  obtain rfl : args = #[v0, v1, v2] := by cases args; simp_all
  obtain ⟨rfl, rfl⟩ := trodVars_none hV
  have k0' := h0
  have lt0 : ∀ x ∈ p0, x.block < W.heap.size := by obtain ⟨m, hm⟩ := k0'; exact DataW.trod_lt m _ _ _ hm
  obtain ⟨A0, n0, c0, B0, m0, e0, rfl, hn0, hk0, f0⟩ := open_image (hval 0 48 v0 rfl rfl) h0
  have k1' := h1
  have lt1 : ∀ x ∈ p1, x.block < W.heap.size := by obtain ⟨m, hm⟩ := k1'; exact DataW.trod_lt m _ _ _ hm
  obtain ⟨n1, rfl, -, -, wf1⟩ := open_int Try.underlying3 (hval 1 3 v1 rfl rfl) h1
  have hn1 : -9223372036854775808 ≤ n1 ∧ n1 ≤ 9223372036854775807 := by
    simp [Lit.wf, IntKind.min, IntKind.max, IntKind.signed, IntKind.bits] at wf1
    omega
  have k2' := h2
  have lt2 : ∀ x ∈ p2, x.block < W.heap.size := by obtain ⟨m, hm⟩ := k2'; exact DataW.trod_lt m _ _ _ hm
  obtain ⟨n2, rfl, -, -, wf2⟩ := open_int Try.underlying3 (hval 2 3 v2 rfl rfl) h2
  have hn2 : -9223372036854775808 ≤ n2 ∧ n2 ≤ 9223372036854775807 := by
    simp [Lit.wf, IntKind.min, IntKind.max, IntKind.signed, IntKind.bits] at wf2
    omega
  clear hA0 hval0
  refine (walk A0 n0 c0 B0 m0 e0 hn0 hk0 n1 hn1 n2 hn2 W f0).mono fun e W' ⟨he, bel⟩ => ?_
  subst he
  exact ⟨_, rfl, _, _, _, [], _, [], hW', trodAll_mk1 (shut_bool Try.underlying4 _), (trodAll_cons_mk (Below.trod laidOut (by kernel_rfl) (of_decide_eq_true (by kernel_rfl)) k0' bel lt0) (trodAll_cons_mk (Below.trod laidOut (by kernel_rfl) (of_decide_eq_true (by kernel_rfl)) k1' bel lt1) (trodAll_cons_mk (Below.trod laidOut (by kernel_rfl) (of_decide_eq_true (by kernel_rfl)) k2' bel lt2) trodAll_mk0))), rfl, bel.frame _, fun h => by cases h⟩

theorem jInPlace : (Rows.fnExactSetWordRow.inPlace == Try.prog.inPlace 10) = true := by kernel_rfl
theorem jUnfollowed : (Rows.fnExactSetWordRow.unfollowed == Try.prog.unfollowed 10) = true := by kernel_rfl
theorem jRecurses : (Rows.fnExactSetWordRow.recurses == Try.prog.recurses 10) = true := by kernel_rfl
theorem jNamed : (Rows.fnExactSetWordRow.named == Try.prog.varsNamed 10) = true := by kernel_rfl
theorem jMake : (Try.prog.make == some Rows.fnExactSetWordRow.make) = true := by rw [fMake]; kernel_rfl
theorem jLifts : (Rows.fnExactSetWordRow.lifted == Try.prog.liftsFinal) = true := by rw [fLifts]; kernel_rfl
theorem closed : joinedFacts Try.prog 10 Try.f10 Rows.fnExactSetWordSpec Rows.fnExactSetWordRow = true := by
  simp only [joinedFacts, Bool.and_eq_true]
  repeat' apply And.intro
  all_goals first | (with_reducible exact jInPlace) | (with_reducible exact jUnfollowed) | (with_reducible exact jRecurses) | (with_reducible exact jNamed) | (with_reducible exact jMake) | (with_reducible exact jLifts) | (with_reducible exact fEnter) | kernel_rfl
theorem over : Rows.fnExactSetWordRow.holds Try.pinned (OpenSpec.ofChange Rows.fnExactSetWordSpec) :=
  OpenClaim.holds_of_wide 10 Try.f10 rfl rfl rfl rfl rfl rfl rfl ⟨rfl, rfl, rfl, rfl, rfl⟩ rfl rfl rfl rfl rfl (by kernel_rfl) Try.func10 closed
    (of_decide_eq_true (by kernel_rfl)) (by unfold Func.isWrapper; first | (rw [if_pos (by decide +kernel)]; kernel_rfl) | (rw [if_neg (by decide +kernel)]; exact ⟨rfl, rfl⟩))
    (fun os started H enc _ => lifted os started H enc)
theorem proved : Rows.FnExactSetWordSaid := over
end Go.Proofs.Ytoagnajljdbobaa.fnExactSetWord
