/- The specification's evaluation over an image, negation, used bits. -/
import Derived.Test.YtoagnajljdbobabSe
import Derived.Test.YtoagnajljdbobabIu
import Derived.Test.YtoagnajljdbobabE
namespace Go.Proofs.Ytoagnajljdbobab
open Go.RowKit
attribute [local go_sem ↓] Go.wp_at_zero Go.wp_at_succ

set_option maxHeartbeats 1000000 in
theorem sEvalLogic_any (vm v : Value) (m : Img) (l : List Nd) (w : World) (hm : ImgR w w.heap.size vm m) (h : NodesR w w.heap.size v l) :
    Calls Try.prog 6 #[vm, v] w (EvIP (evI m l) w) := by
  have HM := Lib.hid (fun (w' : World) (hb : Below w.heap.size w w') => hm.below hb)
  have HN := Lib.hid (fun (w' : World) (hb : Below w.heap.size w w') => h.below hb)
  obtain ⟨v1, v2, rfl, ⟨A, c, rfl, hr, hl⟩, ⟨A2, c2, rfl, hr2, hl2, hb2⟩⟩ := hm
  have HB := Lib.hid (fun (w' : World) (hb : Below w.heap.size w w') => (⟨A, c, rfl, hr.below hb, hl⟩ : BoolsR w' w'.heap.size (.slice A m.bits.length c) m.bits))
  have B0 : ∀ o, Below w.heap.size w (w.alloc o) := fun o => (Below.refl _ _).alloc (Nat.le_refl _) o
  clear hr2 hb2 h hr
  cases hi : imgOK m
  · have hE : evI m l = false := by unfold evI; rw [hi]; rfl
    go_enter Try.func6, Try.ntmps6
    go_wp2_with fail
    refine (sImageValid_any _ m _ (HM.out _ (B0 _))).mono ?_
    rintro e w1 ⟨rfl, hb1⟩
    go_wp2
    go_ret
    exact ⟨ret_bool hE.symm, (B0 _).trans (hb1.mono (by simp))⟩
  · cases hv : lvalid l m.bits.length
    · have hE : evI m l = false := by unfold evI; rw [hv]; simp
      have HV := Lib.hid hv
      have HI := Lib.hid hi
      clear hv hi
      go_enter Try.func6, Try.ntmps6
      go_wp2_with fail
      refine (sImageValid_any _ m _ (HM.out _ (B0 _))).mono ?_
      rintro e w1 ⟨rfl, hb1⟩
      obtain ⟨k0, f0, l0⟩ := kept hb1 w.heap.size (by simp)
      have hb1' := (B0 (.cells #[.slice A m.bits.length c, .slice A2 m.words.length c2] 30)).trans (hb1.mono (by simp))
      have hi := HI.out
      go_wp2_with fail
      refine (sLogicValid_any v l m.bits.length _ (HN.out _ hb1')).mono ?_
      rintro e w2 ⟨rfl, hb2⟩
      have hv := HV.out
      go_wp2
      go_ret
      exact ⟨ret_bool hE.symm, hb1'.trans (hb2.mono hb1'.size)⟩
    · have hE : evI m l = val (bAlg m.bits) l := by unfold evI; rw [hv, hi]; rfl
      have HE := Lib.hid hE
      have HV := Lib.hid hv
      have HI := Lib.hid hi
      clear hv hi hE
      go_enter Try.func6, Try.ntmps6
      go_wp2_with fail
      refine (sImageValid_any _ m _ (HM.out _ (B0 _))).mono ?_
      rintro e w1 ⟨rfl, hb1⟩
      obtain ⟨k0, f0, l0⟩ := kept hb1 w.heap.size (by simp)
      have hb1' := (B0 (.cells #[.slice A m.bits.length c, .slice A2 m.words.length c2] 30)).trans (hb1.mono (by simp))
      have hi := HI.out
      go_wp2_with fail
      refine (sLogicValid_any v l m.bits.length _ (HN.out _ hb1')).mono ?_
      rintro e w2 ⟨rfl, hb2⟩
      obtain ⟨k1, f1, l1⟩ := kept hb2 w.heap.size l0
      have hb2' := hb1'.trans (hb2.mono hb1'.size)
      have hv := HV.out
      clear hb1 hb2 hb1'
      go_wp2_with fail
      refine (sEval_any v _ l m.bits _ (HN.out _ hb2') (HB.out _ hb2') HV.out).mono ?_
      rintro e w3 ⟨rfl, hb3⟩
      go_wp2
      go_ret
      exact ⟨ret_bool HE.out.symm, hb2'.trans (hb3.mono hb2'.size)⟩
end Go.Proofs.Ytoagnajljdbobab
