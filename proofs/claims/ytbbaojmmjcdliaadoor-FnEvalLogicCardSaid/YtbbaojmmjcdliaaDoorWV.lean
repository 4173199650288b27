/- The law of LogicEquivalent: its walk. -/
import Derived.Test.YtbbaojmmjcdliaaDoorWD
import Derived.Test.YtbbaojmmjcdliaaDoorWT
import Derived.Test.YtbbaojmmjcdliaaDoorDE
import Derived.Test.YtbbaojmmjcdliaaDoorSn
namespace Go.Proofs.YtbbaojmmjcdliaaDoor
open Go.RowKit
attribute [local go_sem ↓] Go.wp_at_zero Go.wp_at_succ

theorem negL_fit (l : List Nd) (h : ∀ x ∈ l, ndFit x) : ∀ x ∈ negL l, ndFit x := by
  intro x hx
  unfold negL at hx
  split at hx
  · split at hx
    · exact h x ((List.dropLast_sublist l).mem hx)
    · split at hx
      · simp at hx
      · rcases List.mem_append.1 hx with h' | h'
        · exact h x h'
        · obtain rfl := List.mem_singleton.1 h'; simp [ndFit]
  · simp at hx
theorem NodesR.fits {w : World} {B : Nat} {v : Value} {l : List Nd} (h : NodesR w B v l) : ∀ x ∈ l, ndFit x := by
  obtain ⟨_, _, _, _, _, hf⟩ := h; exact hf
theorem FnLogicEquivalent_long (a : Option Addr) (n c : Nat) (w : World) (h : 1048576 < n) (_hn : n ≤ 9223372036854775807) : Calls Tryd.prog 5 #[.slice a n c] w (LawPost w) := by
  go_enter Tryd.func5, Tryd.ntmps5
  go_wp2
  go_ret
  exact ⟨rfl, Below.refl _ _⟩
set_option maxHeartbeats 2000000 in
theorem FnLogicEquivalent_core (v : Value) (bl : List Int) (w : World) (h : BytesR w w.heap.size v bl) (hl : bl.length ≤ 1048576) (hT : Tab w) :
    Calls Tryd.prog 5 #[v] w (LawPost w) := by
  have HO := Lib.hid (drawLogicEquivalent_any v bl w h)
  have HT := Lib.hid (fun (w' : World) (hb : Below w.heap.size w w') => hT.next hb)
  have h2 := h.form
  obtain ⟨A, c, rfl, -⟩ := h
  clear h2 hT
  go_enter Tryd.func5, Tryd.ntmps5
  go_wp2_with fail
  refine HO.out.mono ?_
  rintro e w1 ⟨v1, v2, a, b, n, rfl, hA, hB, hlen, hn, hb1⟩
  clear HO
  have HA := Lib.hid fun (w' : World) (hb : Below w1.heap.size w1 w') => hA.below hb
  have HB := Lib.hid fun (w' : World) (hb : Below w1.heap.size w1 w') => hB.below hb
  have HF := Lib.hid hA.fits
  obtain ⟨P1, c1, rfl, -⟩ := hA
  obtain ⟨P2, c2, rfl, -⟩ := hB
  have hz1 := hb1.size
  go_wp2_with fail
  refine (iLogicEquivalent_any _ _ a b n _ (HA.out _ (Below.refl _ _)) (HB.out _ (Below.refl _ _)) (HT.out _ hb1)).mono ?_
  rintro e w2 ⟨rfl, hb2⟩
  have hz2 := hb2.size
  go_wp2_with fail
  refine (sLogicEquivalent_any _ _ a b n _ (HA.out _ hb2) (HB.out _ hb2)).mono ?_
  rintro e w3 ⟨rfl, hb3⟩
  replace hb3 := hb2.trans (hb3.mono hz2)
  have hz3 := hb3.size
  clear hb2
  have hc := eqw_comm b a n
  have hE0 := fun (h : ttOK a n = false) => eqw_no (a := a) (b := b) (n := n) (.inl h)
  generalize hD : eqvI a b n = D at hc hE0 ⊢
  have q0 : (D != D) = false := by simp
  go_wp2_with fail
  refine (iLogicEquivalent_any _ _ b a n _ (HB.out _ hb3) (HA.out _ hb3) (HT.out _ (hb1.trans (hb3.mono hz1)))).mono ?_
  rintro e w4 ⟨rfl, hb4⟩
  replace hb4 := hb3.trans (hb4.mono hz3)
  have hz4 := hb4.size
  rw [hc]
  clear hb3 hc
  go_wp2_with fail
  refine (sLogicValid_any _ a n _ (HA.out _ hb4)).mono ?_
  rintro e w5 ⟨rfl, hb5⟩
  replace hb5 := hb4.trans (hb5.mono hz4)
  have hz5 := hb5.size
  have hb15 := hb1.trans (hb5.mono hz1)
  clear hb4
  cases hv : lvalid a n
  · obtain rfl : D = false := hE0 (by unfold ttOK; simp [hv])
    go_wp2_with fail
    refine (fin_alive hb15).mono ?_
    rintro e w6 ⟨rfl, hb6⟩
    go_wp2
    go_ret
    exact ⟨rfl, hb6⟩
  · have ht := ttOK_make (show (0 : Int) ≤ n by omega) (by omega) hv
    have e1 := Lib.hid (eqw_self ht)
    have e2 := Lib.hid (eqw_neg a n)
    have e3 := Lib.hid fun h => eqw_negneg ht h
    have hnl := negL_len a
    have hnl2 := negL_len (negL a)
    clear hE0 hD q0
    go_wp2_with fail
    refine (iNegate_any _ a _ (HA.out _ hb5)).mono ?_
    rintro e w6 ⟨v6, rfl, hO6, hb6⟩
    have hN := Lib.hid fun (w' : World) (hb : Below w6.heap.size w6 w') => (OwnN.read hO6 (by omega) (negL_fit a HF.out)).below hb
    obtain ⟨A6, c6, rfl, -, -⟩ := own_form hO6
    replace hb6 := hb5.trans (hb6.mono hz5)
    have hz6 := hb6.size
    clear hb5 hO6
    go_wp2_with fail
    refine (iLogicEquivalent_any _ _ a a n _ (HA.out _ hb6) (HA.out _ hb6) (HT.out _ (hb1.trans (hb6.mono hz1)))).mono ?_
    rintro e w7 ⟨rfl, hb7⟩
    have hb67 := hb7
    replace hb7 := hb6.trans (hb7.mono hz6)
    have hz7 := hb7.size
    rw [e1.out]
    clear hb6
    go_wp2_with fail
    refine (iLogicEquivalent_any _ _ a (negL a) n _ (HA.out _ hb7) (hN.out _ hb67) (HT.out _ (hb1.trans (hb7.mono hz1)))).mono ?_
    rintro e w8 ⟨rfl, hb8⟩
    have hb68 := hb67.trans (hb8.mono hb67.size)
    replace hb8 := hb7.trans (hb8.mono hz7)
    have hz8 := hb8.size
    rw [e2.out]
    clear hb7 hb67
    obtain ⟨q, hq⟩ : ∃ q, q = (negL a).length := ⟨_, rfl⟩
    rw [← hq] at hnl hnl2
    have HQ := Lib.hid hq
    rw [← hq]
    have hN8 := hN.out _ hb68
    rw [← hq] at hN8
    clear hq hN
    by_cases hq0 : q = 0
    · subst hq0
      go_wp2
      go_ret
      exact ⟨rfl, hb1.trans (hb8.mono hz1)⟩
    · have e0 : ((q : Int) == 0) = false := by simp; omega
      go_wp2_with fail
      refine (iNegate_any _ (negL a) _ hN8).mono ?_
      rintro e w9 ⟨v9, rfl, hO9, hb9⟩
      replace hb9 := hb8.trans (hb9.mono hz8)
      have hz9 := hb9.size
      have hN9 := OwnN.read hO9 (by omega) (negL_fit _ (negL_fit a HF.out))
      obtain ⟨A9, c9, rfl, -, -⟩ := own_form hO9
      clear hO9 hb8
      go_wp2_with fail
      refine (iLogicEquivalent_any _ _ (negL (negL a)) a n _ hN9 (HA.out _ hb9) (HT.out _ (hb1.trans (hb9.mono hz1)))).mono ?_
      rintro e w10 ⟨rfl, hb10⟩
      rw [e3.out (by have := HQ.out; omega)]
      go_wp2
      go_ret
      exact ⟨rfl, hb1.trans ((hb9.trans (hb10.mono hz9)).mono hz1)⟩
end Go.Proofs.YtbbaojmmjcdliaaDoor
