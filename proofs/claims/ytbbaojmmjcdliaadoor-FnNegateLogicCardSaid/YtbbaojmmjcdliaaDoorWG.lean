/- The law of NegateLogic: its walk. -/
import Derived.Test.YtbbaojmmjcdliaaDoorWV
import Derived.Test.YtbbaojmmjcdliaaDoorSq
namespace Go.Proofs.YtbbaojmmjcdliaaDoor
open Go.RowKit
attribute [local go_sem ↓] Go.wp_at_zero Go.wp_at_succ

theorem tab_neg {l : List Nd} (hne : 0 < (negL l).length) (n : Int) : (tabF (negL l) n).length = (tabF l n).length ∧ ∀ (k : Nat) (h1 : k < (tabF l n).length) (h2 : k < (tabF (negL l) n).length), (tabF (negL l) n)[k] = !(tabF l n)[k] := by
  obtain ⟨-, hn⟩ := negL_ok hne
  cases ht : ttOK l n
  · have ht2 : ttOK (negL l) n = false := (ttOK_neg hn n).trans ht
    rw [tabF_no ht, tabF_no ht2]
    exact ⟨rfl, fun k h1 => absurd h1 (by simp)⟩
  · have ht2 : ttOK (negL l) n = true := (ttOK_neg hn n).trans ht
    refine ⟨by rw [tabF_len ht, tabF_len ht2], fun k h1 h2 => ?_⟩
    have h3 : k < 2 ^ n.toNat := by rw [← tabF_len ht]; exact h1
    have e1 := tabF_get ht k h3
    have e2 := tabF_get ht2 k h3
    rw [List.getElem?_eq_getElem h1] at e1
    rw [List.getElem?_eq_getElem h2] at e2
    injection e1 with e1
    injection e2 with e2
    rw [e1, e2, row_neg hn]
theorem FnNegateLogic_long (a : Option Addr) (n c : Nat) (w : World) (h : 1048576 < n) (_hn : n ≤ 9223372036854775807) : Calls Tryd.prog 6 #[.slice a n c] w (LawPost w) := by
  go_enter Tryd.func6, Tryd.ntmps6
  go_wp2
  go_ret
  exact ⟨rfl, Below.refl _ _⟩
set_option maxHeartbeats 2000000 in
theorem FnNegateLogic_core (v : Value) (bl : List Int) (w : World) (h : BytesR w w.heap.size v bl) (hl : bl.length ≤ 1048576) (hT : Tab w) :
    Calls Tryd.prog 6 #[v] w (LawPost w) := by
  have HO := Lib.hid (drawNegateLogic_any v bl w h)
  have HT := Lib.hid (fun (w' : World) (hb : Below w.heap.size w w') => hT.next hb)
  have h2 := h.form
  obtain ⟨A, c, rfl, -⟩ := h
  clear h2 hT
  go_enter Tryd.func6, Tryd.ntmps6
  go_wp2_with fail
  refine HO.out.mono ?_
  rintro e w1 ⟨v, l, rfl, hO, hL, hsm, hb1⟩
  clear HO
  obtain ⟨B, off, cap, rfl, ⟨hB1, hB2⟩, hcap, -⟩ := hO.form
  have HR := Lib.hid fun (w' : World) (hb : Below w1.heap.size w1 w') => (hO.below hb).read (by omega) hsm
  have HF := Lib.hid fun x hx => (hsm x hx).fit
  clear hO hsm
  have hz1 := hb1.size
  have hnl := negL_len l
  go_wp2_with fail
  refine (iNegate_any _ l _ (HR.out _ (Below.refl _ _))).mono ?_
  rintro e w2 ⟨v2, rfl, hO2, hb2⟩
  have hz2 := hb2.size
  obtain ⟨A2, c2, rfl, -, -⟩ := own_form hO2
  have HX := Lib.hid fun (w' : World) (hb : Below w2.heap.size w2 w') => (OwnN.read hO2 (by omega) (negL_fit l HF.out)).below hb
  clear hO2
  go_wp2_with fail
  refine (sNegate_any _ l _ (HR.out _ hb2)).mono ?_
  rintro e w3 ⟨v3, rfl, hO3, hb3⟩
  obtain ⟨A3, c3, rfl, -, -⟩ := own_form hO3
  have hb23 := hb3
  replace hb3 := hb2.trans (hb3.mono hz2)
  have hz3 := hb3.size
  clear hb2
  go_wp2_with fail
  refine (sameNodes_same _ _ (negL l) _ (HX.out _ hb23) (OwnN.read hO3 (by omega) (negL_fit l HF.out))).mono ?_
  rintro e w4 ⟨rfl, hb4⟩
  have hb24 := hb23.trans (hb4.mono hb23.size)
  replace hb4 := hb3.trans (hb4.mono hz3)
  have hz4 := hb4.size
  have hb14 := hb1.trans (hb4.mono hz1)
  clear hO3 hb3 hb23
  by_cases hne : (negL l).length = 0
  · rw [hne]
    go_wp2_with fail
    refine (fin_alive hb14).mono ?_
    rintro e w5 ⟨rfl, hb5⟩
    go_wp2
    go_ret
    exact ⟨rfl, hb5⟩
  · have hne' : 0 < (negL l).length := by omega
    obtain ⟨hv, hn⟩ := negL_ok hne'
    have e16 := Lib.hid ((hn.valid 16).trans hv)
    have HT2 := Lib.hid (fun ht => negL_twice hne' ht)
    obtain ⟨hlen, hneg⟩ := tab_neg hne' 6
    have h64 := tabF_le l 6
    have e0 : (((negL l).length : Int) == 0) = false := by rw [beq_eq_false_iff_ne]; omega
    generalize negL l = X at *
    go_wp2_with fail
    refine (iLogicTable_any _ l 6 _ (HR.out _ hb4) (HT.out _ hb14)).mono ?_
    rintro e w5 ⟨v5, rfl, hO5, hb5⟩
    obtain ⟨A5, c5, rfl, -, -⟩ := own_form hO5
    have hb45 := hb5.size
    have hb25 := hb24.trans (hb5.mono hb24.size)
    replace hb5 := hb4.trans (hb5.mono hz4)
    have hz5 := hb5.size
    have hb15 := hb1.trans (hb5.mono hz1)
    clear hb4 hb14 hb24
    go_wp2_with fail
    refine (iLogicTable_any _ X 6 _ (HX.out _ hb25) (HT.out _ hb15)).mono ?_
    rintro e w6 ⟨v6, rfl, hO6, hb6⟩
    obtain ⟨A6, c6, rfl, -, -⟩ := own_form hO6
    replace hO5 := own_below hO5 hb6
    have hb26 := hb25.trans (hb6.mono hb25.size)
    replace hb6 := hb5.trans (hb6.mono hz5)
    have hz6 := hb6.size
    have hb16 := hb1.trans (hb6.mono hz1)
    clear hb5 hb15 hb25
    generalize tabF l 6 = T at *
    generalize tabF X 6 = U at *
    have g1 := OwnB.rdA (show OwnB w6 w4.heap.size (.slice A5 T.length c5) T from hO5) rfl
    have g2 := OwnB.rdA hO6 rfl
    rw [hlen] at g2 ⊢
    clear hO5 hO6
    go_wp2_with fail
    go_loopw [7] (fun i wr => ∃ k : Nat, k ≤ T.length ∧ i = .int .i64 k ∧ Below w6.heap.size w6 wr) (fun i _ => T.length - (intOf i).toNat)
    case atStart => exact ⟨0, by omega, rfl, Below.refl _ _⟩
    case round =>
      obtain ⟨k, hk, rfl, hbr⟩ := hrel
      by_cases hlt : k < T.length
      · have hlt2 : k < U.length := by omega
        obtain ⟨p, u, rfl, hpb, hu, hc⟩ := g1.one hlt
        obtain ⟨p2, u2, rfl, hpb2, hu2, hc2⟩ := g2.one hlt
        have hx : u = .bool T[k] := by rw [List.getElem?_map, List.getElem?_eq_getElem hlt] at hu; simpa using hu.symm
        have hx2 : u2 = .bool (!T[k]) := by rw [List.getElem?_map, List.getElem?_eq_getElem hlt2, hneg k hlt hlt2] at hu2; simpa using hu2.symm
        subst hx; subst hx2
        have q1 := (hbr.cell (p := p.add k) (by rw [add_block]; exact hpb)).trans hc
        have q2 := (hbr.cell (p := p2.add k) (by rw [add_block]; exact hpb2)).trans hc2
        have i1 : (k : Int) < (T.length : Int) := by omega
        generalize T[k] = x at q1 q2
        clear hu hu2 hc hc2 g1 g2 hneg
        cases x
        all_goals
          simp only [Bool.not_true, Bool.not_false] at q2
          go_wp2
          go_quiet (fail)
          go_wp2
          exact ⟨⟨k + 1, by omega, by go_num, by exact hbr.trans ⟨rfl, rfl, rfl, Nat.le_refl _, fun _ _ => rfl⟩⟩, by simp [intOf]; omega⟩
      · obtain rfl : k = T.length := by omega
        have hz16 := hb16.size
        have hb46' := hb6.trans (hbr.mono hz6)
        have hb1r := hb1.trans (hb46'.mono hz1)
        have hb2r := hb26.trans (hbr.mono hb26.size)
        have hNr := HR.out _ hb46'
        have HX' := Lib.hid fun (w' : World) (hb : Below wr.heap.size wr w') => HX.out w' (hb2r.trans (hb.mono hb2r.size))
        have HR' := Lib.hid fun (w' : World) (hb : Below wr.heap.size wr w') => HR.out w' (hb46'.trans (hb.mono hb46'.size))
        have hz1r := hb1r.size
        have HL := Lib.hid hL
        clear g1 g2 hneg hlen HT HX HR hb16 hb6 hb26
        by_cases h1 : 1 < l.length
        · obtain ⟨P, cP, eP, hrd, -, -⟩ := hNr
          injection eP with eP1 eP2 eP3
          subst eP1; subst eP3
          obtain ⟨p, ep, hpb, q1, -⟩ := hrd.two (show l.length - 1 < l.length by omega)
          obtain ⟨p', ep', -, q2, -⟩ := hrd.two (show l.length - 2 < l.length by omega)
          injection ep with ep
          injection ep' with ep'
          subst ep; subst ep'
          have hop1 : l.getD (l.length - 1) ⟨0, 0⟩ = l[l.length - 1] := by rw [List.getD_eq_getElem?_getD, List.getElem?_eq_getElem (by omega)]; rfl
          have hop2 : l.getD (l.length - 2) ⟨0, 0⟩ = l[l.length - 2] := by rw [List.getD_eq_getElem?_getD, List.getElem?_eq_getElem (by omega)]; rfl
          have HT3 := HT2.out
          rw [hop1, hop2] at HT3
          generalize l[l.length - 1].op = o1 at q1 HT3
          generalize l[l.length - 2].op = o2 at q2 HT3
          obtain ⟨a1, ha1⟩ : ∃ a1, a1 = l.length - 1 := ⟨_, rfl⟩
          obtain ⟨a2, ha2⟩ : ∃ a2, a2 = l.length - 2 := ⟨_, rfl⟩
          rw [← ha1, Addr.add_lit] at q1
          rw [← ha2, Addr.add_lit] at q2
          have e1 : (l.length : Int) - 1 = (a1 : Int) := by omega
          have e2 : (l.length : Int) - 2 = (a2 : Int) := by omega
          have i1 : (a1 : Int) < (l.length : Int) := by omega
          have i2 : (a2 : Int) < (l.length : Int) := by omega
          have i3 : decide (1 < l.length) = true := by simpa using h1
          have i4 : (1 : Int) < (l.length : Int) := by omega
          have H4 := Lib.hid HT3
          clear ha1 ha2 HT3 hop1 hop2 hrd h1 HT2
          by_cases c1 : o1 = 2
          · by_cases c2 : o2 = 2
            · subst c1; subst c2
              clear H4
              go_wp2_with fail
              refine (iLogicValid_any _ X 16 _ (HX'.out _ (Below.refl _ _))).mono ?_
              rintro e w7 ⟨rfl, hb7⟩
              rw [e16.out]
              go_wp2
              go_ret
              exact ⟨rfl, hb1r.trans (hb7.mono hz1r)⟩
            · have d2 : (o2 == 2) = false := by simpa using c2
              have hneg2 := Lib.hid (H4.out (fun h => c2 h.2.2))
              subst c1
              clear H4 c2
              go_wp2_with fail
              refine (iLogicValid_any _ X 16 _ (HX'.out _ (Below.refl _ _))).mono ?_
              rintro e w7 ⟨rfl, hb7⟩
              rw [e16.out]
              go_wp2_with fail
              refine (iNegate_any _ X _ (HX'.out _ hb7)).mono ?_
              rintro e w8 ⟨v8, rfl, hO8, hb8⟩
              rw [hneg2.out] at hO8
              have hN8 := OwnN.read hO8 (by have := HL.out; omega) HF.out
              obtain ⟨A8, c8, rfl, -, -⟩ := own_form hO8
              have hb78 := hb7.trans (hb8.mono hb7.size)
              clear hO8 hb8
              go_wp2_with fail
              refine (sameNodes_same _ _ l _ hN8 (HR'.out _ hb78)).mono ?_
              rintro e w9 ⟨rfl, hb9⟩
              go_wp2
              go_ret
              exact ⟨rfl, hb1r.trans ((hb78.trans (hb9.mono hb78.size)).mono hz1r)⟩
          · have d1 : (o1 == 2) = false := by simpa using c1
            have hneg2 := Lib.hid (H4.out (fun h => c1 h.2.1))
            clear H4 c1
            go_wp2_with fail
            refine (iLogicValid_any _ X 16 _ (HX'.out _ (Below.refl _ _))).mono ?_
            rintro e w7 ⟨rfl, hb7⟩
            rw [e16.out]
            go_wp2_with fail
            refine (iNegate_any _ X _ (HX'.out _ hb7)).mono ?_
            rintro e w8 ⟨v8, rfl, hO8, hb8⟩
            rw [hneg2.out] at hO8
            have hN8 := OwnN.read hO8 (by have := HL.out; omega) HF.out
            obtain ⟨A8, c8, rfl, -, -⟩ := own_form hO8
            have hb78 := hb7.trans (hb8.mono hb7.size)
            clear hO8 hb8
            go_wp2_with fail
            refine (sameNodes_same _ _ l _ hN8 (HR'.out _ hb78)).mono ?_
            rintro e w9 ⟨rfl, hb9⟩
            go_wp2
            go_ret
            exact ⟨rfl, hb1r.trans ((hb78.trans (hb9.mono hb78.size)).mono hz1r)⟩
        · have hneg2 := Lib.hid (HT2.out (fun h => h1 h.1))
          have i3 : decide (1 < l.length) = false := by simpa using h1
          have i4 : ¬ (1 : Int) < (l.length : Int) := by omega
          clear HT2 h1
          go_wp2_with fail
          refine (iLogicValid_any _ X 16 _ (HX'.out _ (Below.refl _ _))).mono ?_
          rintro e w7 ⟨rfl, hb7⟩
          rw [e16.out]
          go_wp2_with fail
          refine (iNegate_any _ X _ (HX'.out _ hb7)).mono ?_
          rintro e w8 ⟨v8, rfl, hO8, hb8⟩
          rw [hneg2.out] at hO8
          have hN8 := OwnN.read hO8 (by have := HL.out; omega) HF.out
          obtain ⟨A8, c8, rfl, -, -⟩ := own_form hO8
          have hb78 := hb7.trans (hb8.mono hb7.size)
          clear hO8 hb8
          go_wp2_with fail
          refine (sameNodes_same _ _ l _ hN8 (HR'.out _ hb78)).mono ?_
          rintro e w9 ⟨rfl, hb9⟩
          go_wp2
          go_ret
          exact ⟨rfl, hb1r.trans ((hb78.trans (hb9.mono hb78.size)).mono hz1r)⟩
end Go.Proofs.YtbbaojmmjcdliaaDoor
