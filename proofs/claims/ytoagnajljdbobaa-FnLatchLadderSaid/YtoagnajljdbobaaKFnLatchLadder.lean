/-
  FnLatchLadder returns true for every argument, and writes nothing that was there. No condition.
-/
import Derived.Test.YtoagnajljdbobaaLL
import Derived.Test.YtoagnajljdbobaaKJ
import Derived.ProofKit
import Derived.OpenShut
import Derived.ShutString
import Derived.ChangeOld
namespace Go.Proofs.Ytoagnajljdbobaa.fnLatchLadder
open Go.ChangeShapes Go.WideShapes Go.ChangeAt Go.RowKit

theorem own : ownKnob Try.prog.godebug = none := by kernel_rfl
theorem laidOut : laidOutB Try.prog = true := by kernel_rfl
theorem walk (a0 : Option Addr) (len0 cap0 : Nat) (z0 : List Int) (w : World) (w0 : BytesIn w a0 len0 cap0 z0) :
    Calls Try.prog 19 #[.slice a0 len0 cap0] w (LawPost w) := by
  by_cases hl : 1048576 < len0
  · exact FnLatchLadder_long a0 len0 cap0 w hl (w0.small)
  · exact FnLatchLadder_core _ _ w (w0.bytes (by omega)) (by have := w0.len_take; omega)

set_option maxRecDepth 100000 in
theorem lifted (os : Os) (started : os.Started) (H : Type) (enc : TypeId × Value → H) :
    ReturnsInHanded {} Try.checked os 19 .any (Rows.fnLatchLadderSpec.pre6 enc Try.prog Try.f19 Rows.fnLatchLadderRow.domain false) (Rows.fnLatchLadderSpec.post enc Try.prog Try.f19 false true false false) := by
  refine returnsInHanded_of_change (C := Try.checked) own started (by kernel_rfl) Try.func19
    (ChangeSpec.witness6 (enc := enc) (C := Try.checked) false ⟨#[], #[.slice none 0 0], []⟩ 8 (by kernel_rfl) (by kernel_rfl) (by kernel_rfl) (by kernel_rfl)) ?_
  intro W base args ds gs before hval0 hW _ _
  have hval : ∀ (j : Nat) t v, Try.f19.params[j]? = some t → args[j]? = some v → Value.okWide Try.prog W .any base t v := hval0
  have hW' := hW
  obtain ⟨p, q, hA0, hV, rfl, -, -⟩ := hW
  have hA : DataW.TrodAll enc Try.prog W 0 (fun _ => true) true Try.f19.params.toList args.toList ds p := hA0
  rw [Try.params19] at hA hval
  obtain ⟨v0, vs0, d0, ds0, p0, q0, hargs0, rfl, rfl, h0, r0⟩ := trodAll_cons hA
  obtain ⟨rfl, rfl, rfl⟩ := trodAll_nil r0
  obtain rfl : args = #[v0] := by cases args; simp_all
  obtain ⟨rfl, rfl⟩ := trodVars_none hV
  have k0' := h0
  have lt0 : ∀ x ∈ p0, x.block < W.heap.size := by obtain ⟨m, hm⟩ := k0'; exact DataW.trod_lt m _ _ _ hm
  obtain ⟨a0, len0, cap0, rfl⟩ := okWide_slice Try.underlying22 (hval 0 22 v0 rfl rfl)
  obtain ⟨z0, w0⟩ : ∃ zs, BytesIn W a0 len0 cap0 zs := by
    obtain ⟨fuel, hf⟩ := h0
    rcases open_ints Try.underlying22 Try.underlying5 (by kernel_rfl) hf with ⟨hcs, _⟩ | ⟨x, l, c, zs, hcs, _, hl, hm, hz, _, hcell, hwz⟩
    · simp [Value.cells] at hcs
      obtain ⟨rfl, rfl, rfl⟩ := hcs
      exact ⟨[], .inl ⟨rfl, rfl, rfl, rfl⟩⟩
    · simp [Value.cells] at hcs
      obtain ⟨rfl, rfl, rfl⟩ := hcs
      exact ⟨zs, .inr ⟨_, rfl, hl, hm, by simpa using hz, hcell, hwz⟩⟩
  clear hA0 hval0
  refine (walk a0 len0 cap0 z0 W w0).mono fun e W' ⟨he, bel⟩ => ?_
  subst he
  exact ⟨_, rfl, _, _, _, [], _, [], hW', trodAll_mk1 (shut_bool Try.underlying4 _), (trodAll_cons_mk (Below.trod laidOut (by kernel_rfl) (of_decide_eq_true (by kernel_rfl)) k0' bel lt0) trodAll_mk0), rfl, bel.frame _, fun h => by cases h⟩

theorem jInPlace : (Rows.fnLatchLadderRow.inPlace == Try.prog.inPlace 19) = true := by kernel_rfl
theorem jUnfollowed : (Rows.fnLatchLadderRow.unfollowed == Try.prog.unfollowed 19) = true := by kernel_rfl
theorem jRecurses : (Rows.fnLatchLadderRow.recurses == Try.prog.recurses 19) = true := by kernel_rfl
theorem jNamed : (Rows.fnLatchLadderRow.named == Try.prog.varsNamed 19) = true := by kernel_rfl
theorem jMake : (Try.prog.make == some Rows.fnLatchLadderRow.make) = true := by rw [fMake]; kernel_rfl
theorem jLifts : (Rows.fnLatchLadderRow.lifted == Try.prog.liftsFinal) = true := by rw [fLifts]; kernel_rfl
theorem closed : joinedFacts Try.prog 19 Try.f19 Rows.fnLatchLadderSpec Rows.fnLatchLadderRow = true := by
  simp only [joinedFacts, Bool.and_eq_true]
  repeat' apply And.intro
  all_goals first | (with_reducible exact jInPlace) | (with_reducible exact jUnfollowed) | (with_reducible exact jRecurses) | (with_reducible exact jNamed) | (with_reducible exact jMake) | (with_reducible exact jLifts) | (with_reducible exact fEnter) | kernel_rfl
theorem over : Rows.fnLatchLadderRow.holds Try.pinned (OpenSpec.ofChange Rows.fnLatchLadderSpec) :=
  OpenClaim.holds_of_wide 19 Try.f19 rfl rfl rfl rfl rfl rfl rfl ⟨rfl, rfl, rfl, rfl, rfl⟩ rfl rfl rfl rfl rfl (by kernel_rfl) Try.func19 closed
    (of_decide_eq_true (by kernel_rfl)) (by unfold Func.isWrapper; first | (rw [if_pos (by decide +kernel)]; kernel_rfl) | (rw [if_neg (by decide +kernel)]; exact ⟨rfl, rfl⟩))
    (fun os started H enc _ => lifted os started H enc)
theorem proved : Rows.FnLatchLadderSaid := over
end Go.Proofs.Ytoagnajljdbobaa.fnLatchLadder
