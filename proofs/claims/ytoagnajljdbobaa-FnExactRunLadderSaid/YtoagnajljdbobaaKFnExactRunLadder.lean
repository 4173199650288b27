/-
  FnExactRunLadder returns true for every argument, and writes nothing that was there. No condition.
-/
import Derived.Test.YtoagnajljdbobaaEH
import Derived.Test.YtoagnajljdbobaaOR
import Derived.Test.YtoagnajljdbobaaOI
import Derived.Test.YtoagnajljdbobaaKJ
import Derived.ProofKit
import Derived.OpenShut
import Derived.ShutString
import Derived.ChangeOld
namespace Go.Proofs.Ytoagnajljdbobaa.fnExactRunLadder
open Go.ChangeShapes Go.WideShapes Go.ChangeAt Go.RowKit

theorem own : ownKnob Try.prog.godebug = none := by kernel_rfl
theorem laidOut : laidOutB Try.prog = true := by kernel_rfl
theorem walk (A0 : Option Addr) (n0 c0 : Nat) (B0 : Option Addr) (k0 e0 : Nat) (hn0 : n0 ≤ 9223372036854775807) (hk0 : k0 ≤ 9223372036854775807) (A1 : Option Addr) (n1 c1 : Nat) (hn1 : n1 ≤ 9223372036854775807) (w : World) (f0 : n0 + k0 ≤ 1048576 → ∃ m : Img, m.bits.length = n0 ∧ m.words.length = k0 ∧ ImgR w w.heap.size (.agg #[.slice A0 n0 c0, .slice B0 k0 e0]) m) (f1 : n1 ≤ 1048576 → ∃ qs : List Rw, qs.length = n1 ∧ LadW w w.heap.size (.slice A1 n1 c1) qs) :
    Calls Try.prog 18 #[.agg #[.slice A0 n0 c0, .slice B0 k0 e0], .slice A1 n1 c1] w (LawPost w) := by
  exact FnExactRunLadder_any A0 n0 c0 B0 k0 e0 A1 n1 c1 w hn0 hk0 hn1 f0 f1

set_option maxRecDepth 100000 in
theorem lifted (os : Os) (started : os.Started) (H : Type) (enc : TypeId × Value → H) :
    ReturnsInHanded {} Try.checked os 18 .any (Rows.fnExactRunLadderSpec.pre6 enc Try.prog Try.f18 Rows.fnExactRunLadderRow.domain false) (Rows.fnExactRunLadderSpec.post enc Try.prog Try.f18 false true false false) := by
  refine returnsInHanded_of_change (C := Try.checked) own started (by kernel_rfl) Try.func18
    (ChangeSpec.witness6 (enc := enc) (C := Try.checked) false ⟨#[], #[.agg #[.slice none 0 0, .slice none 0 0], .slice none 0 0], []⟩ 8 (by kernel_rfl) (by kernel_rfl) (by kernel_rfl) (by kernel_rfl)) ?_
  intro W base args ds gs before hval0 hW _ _
  have hval : ∀ (j : Nat) t v, Try.f18.params[j]? = some t → args[j]? = some v → Value.okWide Try.prog W .any base t v := hval0
  have hW' := hW
  obtain ⟨p, q, hA0, hV, rfl, -, -⟩ := hW
  have hA : DataW.TrodAll enc Try.prog W 0 (fun _ => true) true Try.f18.params.toList args.toList ds p := hA0
  rw [Try.params18] at hA hval
  obtain ⟨v0, vs0, d0, ds0, p0, q0, hargs0, rfl, rfl, h0, r0⟩ := trodAll_cons hA
  obtain ⟨v1, vs1, d1, ds1, p1, q1, hargs1, rfl, rfl, h1, r1⟩ := trodAll_cons r0
  obtain ⟨rfl, rfl, rfl⟩ := trodAll_nil r1
  obtain rfl : args = #[v0, v1] := by cases args; simp_all
  obtain ⟨rfl, rfl⟩ := trodVars_none hV
  have k0' := h0
  have lt0 : ∀ x ∈ p0, x.block < W.heap.size := by obtain ⟨m, hm⟩ := k0'; exact DataW.trod_lt m _ _ _ hm
  obtain ⟨A0, n0, c0, B0, m0, e0, rfl, hn0, hk0, f0⟩ := open_image (hval 0 48 v0 rfl rfl) h0
  have k1' := h1
  have lt1 : ∀ x ∈ p1, x.block < W.heap.size := by obtain ⟨m, hm⟩ := k1'; exact DataW.trod_lt m _ _ _ hm
  obtain ⟨A1, n1, c1, rfl, hn1, f1⟩ := open_rungs (hval 1 83 v1 rfl rfl) h1
  clear hA0 hval0
  refine (walk A0 n0 c0 B0 m0 e0 hn0 hk0 A1 n1 c1 hn1 W f0 f1).mono fun e W' ⟨he, bel⟩ => ?_
  subst he
  exact ⟨_, rfl, _, _, _, [], _, [], hW', trodAll_mk1 (shut_bool Try.underlying4 _), (trodAll_cons_mk (Below.trod laidOut (by kernel_rfl) (of_decide_eq_true (by kernel_rfl)) k0' bel lt0) (trodAll_cons_mk (Below.trod laidOut (by kernel_rfl) (of_decide_eq_true (by kernel_rfl)) k1' bel lt1) trodAll_mk0)), rfl, bel.frame _, fun h => by cases h⟩

theorem jInPlace : (Rows.fnExactRunLadderRow.inPlace == Try.prog.inPlace 18) = true := by kernel_rfl
theorem jUnfollowed : (Rows.fnExactRunLadderRow.unfollowed == Try.prog.unfollowed 18) = true := by kernel_rfl
theorem jRecurses : (Rows.fnExactRunLadderRow.recurses == Try.prog.recurses 18) = true := by kernel_rfl
theorem jNamed : (Rows.fnExactRunLadderRow.named == Try.prog.varsNamed 18) = true := by kernel_rfl
theorem jMake : (Try.prog.make == some Rows.fnExactRunLadderRow.make) = true := by rw [fMake]; kernel_rfl
theorem jLifts : (Rows.fnExactRunLadderRow.lifted == Try.prog.liftsFinal) = true := by rw [fLifts]; kernel_rfl
theorem closed : joinedFacts Try.prog 18 Try.f18 Rows.fnExactRunLadderSpec Rows.fnExactRunLadderRow = true := by
  simp only [joinedFacts, Bool.and_eq_true]
  repeat' apply And.intro
  all_goals first | (with_reducible exact jInPlace) | (with_reducible exact jUnfollowed) | (with_reducible exact jRecurses) | (with_reducible exact jNamed) | (with_reducible exact jMake) | (with_reducible exact jLifts) | (with_reducible exact fEnter) | kernel_rfl
theorem over : Rows.fnExactRunLadderRow.holds Try.pinned (OpenSpec.ofChange Rows.fnExactRunLadderSpec) :=
  OpenClaim.holds_of_wide 18 Try.f18 rfl rfl rfl rfl rfl rfl rfl ⟨rfl, rfl, rfl, rfl, rfl⟩ rfl rfl rfl rfl rfl (by kernel_rfl) Try.func18 closed
    (of_decide_eq_true (by kernel_rfl)) (by unfold Func.isWrapper; first | (rw [if_pos (by decide +kernel)]; kernel_rfl) | (rw [if_neg (by decide +kernel)]; exact ⟨rfl, rfl⟩))
    (fun os started H enc _ => lifted os started H enc)
theorem proved : Rows.FnExactRunLadderSaid := over
end Go.Proofs.Ytoagnajljdbobaa.fnExactRunLadder
