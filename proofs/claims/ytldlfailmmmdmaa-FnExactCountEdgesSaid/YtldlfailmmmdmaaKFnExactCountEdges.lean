/-
  FnExactCountEdges returns true for every argument, and writes nothing that was there. No condition.
-/
import Derived.Test.YtldlfailmmmdmaaCg
import Derived.Test.YtldlfailmmmdmaaLO
import Derived.Test.YtldlfailmmmdmaaCH
import Derived.Test.YtldlfailmmmdmaaKJ
import Derived.ProofKit
import Derived.OpenShut
import Derived.ShutString
import Derived.ChangeOld
namespace Go.Proofs.Ytldlfailmmmdmaa.fnExactCountEdges
open Go.ChangeShapes Go.WideShapes Go.ChangeAt Go.RowKit

theorem own : ownKnob Try.prog.godebug = none := by kernel_rfl
theorem laidOut : laidOutB Try.prog = true := by kernel_rfl
theorem walk (t0 : Cn) (hf0 : fitC t0) (A1 : Option Addr) (n1 c1 : Nat) (hn1 : n1 ≤ 9223372036854775807) (w : World) (f1 : n1 ≤ 1048576 → ∃ l : List Bool, l.length = n1 ∧ BoolsR w w.heap.size (.slice A1 n1 c1) l) :
    Calls Try.prog 12 #[cnV t0, .slice A1 n1 c1] w (LawPost w) := by
  by_cases hs : 1048576 < n1
  · exact FnExactCountEdges_long t0 A1 n1 c1 w hn1 (by omega)
  · obtain ⟨l1, rfl, g1⟩ := f1 (by omega)
    exact FnExactCountEdges_core t0 A1 c1 l1 w g1 hf0 (by omega)

set_option maxRecDepth 100000 in
theorem lifted (os : Os) (started : os.Started) (H : Type) (enc : TypeId × Value → H) :
    ReturnsInHanded {} Try.checked os 12 .any (Rows.fnExactCountEdgesSpec.pre6 enc Try.prog Try.f12 Rows.fnExactCountEdgesRow.domain false) (Rows.fnExactCountEdgesSpec.post enc Try.prog Try.f12 false true false false) := by
  refine returnsInHanded_of_change (C := Try.checked) own started (by kernel_rfl) Try.func12
    (ChangeSpec.witness6 (enc := enc) (C := Try.checked) false ⟨#[], #[.agg #[.int .i64 0, .int .i64 0, .bool false, .bool false], .slice none 0 0], []⟩ 8 (by kernel_rfl) (by kernel_rfl) (by kernel_rfl) (by kernel_rfl)) ?_
  intro W base args ds gs before hval0 hW _ _
  have hval : ∀ (j : Nat) t v, Try.f12.params[j]? = some t → args[j]? = some v → Value.okWide Try.prog W .any base t v := hval0
  have hW' := hW
  obtain ⟨p, q, hA0, hV, rfl, -, -⟩ := hW
  have hA : DataW.TrodAll enc Try.prog W 0 (fun _ => true) true Try.f12.params.toList args.toList ds p := hA0
  rw [Try.params12] at hA hval
  obtain ⟨v0, vs0, d0, ds0, p0, q0, hargs0, rfl, rfl, h0, r0⟩ := trodAll_cons hA
  obtain ⟨v1, vs1, d1, ds1, p1, q1, hargs1, rfl, rfl, h1, r1⟩ := trodAll_cons r0
  obtain ⟨rfl, rfl, rfl⟩ := trodAll_nil r1
  obtain rfl : args = #[v0, v1] := by cases args; simp_all
  obtain ⟨rfl, rfl⟩ := trodVars_none hV
  have k0' := h0
  have lt0 : ∀ x ∈ p0, x.block < W.heap.size := by obtain ⟨m, hm⟩ := k0'; exact DataW.trod_lt m _ _ _ hm
  obtain ⟨t0, rfl, hf0⟩ := open_counter (hval 0 38 v0 rfl rfl) h0
  have k1' := h1
  have lt1 : ∀ x ∈ p1, x.block < W.heap.size := by obtain ⟨m, hm⟩ := k1'; exact DataW.trod_lt m _ _ _ hm
  obtain ⟨A1, n1, c1, rfl, hn1, f1⟩ := open_signal (hval 1 33 v1 rfl rfl) h1
  clear hA0 hval0
  refine (walk t0 hf0 A1 n1 c1 hn1 W f1).mono fun e W' ⟨he, bel⟩ => ?_
  subst he
  exact ⟨_, rfl, _, _, _, [], _, [], hW', trodAll_mk1 (shut_bool Try.underlying4 _), (trodAll_cons_mk (Below.trod laidOut (by kernel_rfl) (of_decide_eq_true (by kernel_rfl)) k0' bel lt0) (trodAll_cons_mk (Below.trod laidOut (by kernel_rfl) (of_decide_eq_true (by kernel_rfl)) k1' bel lt1) trodAll_mk0)), rfl, bel.frame _, fun h => by cases h⟩

theorem jInPlace : (Rows.fnExactCountEdgesRow.inPlace == Try.prog.inPlace 12) = true := by kernel_rfl
theorem jUnfollowed : (Rows.fnExactCountEdgesRow.unfollowed == Try.prog.unfollowed 12) = true := by kernel_rfl
theorem jRecurses : (Rows.fnExactCountEdgesRow.recurses == Try.prog.recurses 12) = true := by kernel_rfl
theorem jNamed : (Rows.fnExactCountEdgesRow.named == Try.prog.varsNamed 12) = true := by kernel_rfl
theorem jMake : (Try.prog.make == some Rows.fnExactCountEdgesRow.make) = true := by rw [fMake]; kernel_rfl
theorem jLifts : (Rows.fnExactCountEdgesRow.lifted == Try.prog.liftsFinal) = true := by rw [fLifts]; kernel_rfl
theorem closed : joinedFacts Try.prog 12 Try.f12 Rows.fnExactCountEdgesSpec Rows.fnExactCountEdgesRow = true := by
  simp only [joinedFacts, Bool.and_eq_true]
  repeat' apply And.intro
  all_goals first | (with_reducible exact jInPlace) | (with_reducible exact jUnfollowed) | (with_reducible exact jRecurses) | (with_reducible exact jNamed) | (with_reducible exact jMake) | (with_reducible exact jLifts) | (with_reducible exact fEnter) | kernel_rfl
theorem over : Rows.fnExactCountEdgesRow.holds Try.pinned (OpenSpec.ofChange Rows.fnExactCountEdgesSpec) :=
  OpenClaim.holds_of_wide 12 Try.f12 rfl rfl rfl rfl rfl rfl rfl ⟨rfl, rfl, rfl, rfl, rfl⟩ rfl rfl rfl rfl rfl (by kernel_rfl) Try.func12 closed
    (of_decide_eq_true (by kernel_rfl)) (by unfold Func.isWrapper; first | (rw [if_pos (by decide +kernel)]; kernel_rfl) | (rw [if_neg (by decide +kernel)]; exact ⟨rfl, rfl⟩))
    (fun os started H enc _ => lifted os started H enc)
theorem proved : Rows.FnExactCountEdgesSaid := over
end Go.Proofs.Ytldlfailmmmdmaa.fnExactCountEdges
