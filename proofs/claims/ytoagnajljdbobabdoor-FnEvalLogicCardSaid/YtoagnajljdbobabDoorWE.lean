/- The law of EvalLogic: its walk. -/
import Derived.Test.YtoagnajljdbobabDoorWV
import Derived.Test.YtoagnajljdbobabDoorSq
import Derived.Test.YtoagnajljdbobabDoorIv
namespace Go.Proofs.YtoagnajljdbobabDoor
open Go.RowKit
attribute [local go_sem ↓] Go.wp_at_zero Go.wp_at_succ

theorem FnEvalLogic_long (a : Option Addr) (n c : Nat) (w : World) (h : 1048576 < n) (_hn : n ≤ 9223372036854775807) : Calls Tryd.prog 3 #[.slice a n c] w (LawPost w) := by
  go_enter Tryd.func3, Tryd.ntmps3
  go_wp2
  go_ret
  exact ⟨rfl, Below.refl _ _⟩
set_option maxHeartbeats 2000000 in
theorem FnEvalLogic_core (v : Value) (bl : List Int) (w : World) (h : BytesR w w.heap.size v bl) (hl : bl.length ≤ 1048576) (hT : Tab w) :
    Calls Tryd.prog 3 #[v] w (LawPost w) := by
  have HO := Lib.hid (drawEvalLogic_any v bl w h)
  have HT := Lib.hid (fun (w' : World) (hb : Below w.heap.size w w') => hT.next hb)
  have h2 := h.form
  obtain ⟨A, c, rfl, -⟩ := h
  clear h2 hT
  go_enter Tryd.func3, Tryd.ntmps3
  go_wp2_with fail
  refine HO.out.mono ?_
  rintro e w1 ⟨v1, v2, m, l, rfl, hO1, hS1, hN, hL, hb1⟩
  clear HO
  have HF := Lib.hid hN.fits
  obtain ⟨A1, c1, A2, c2, rfl, -, -⟩ := hO1.form
  have hH := Held.new hO1 (hS1.up (by omega) (by omega))
  have hb1a : Below w1.heap.size w1 (w1.alloc (.cells #[.slice A1 m.bits.length c1, .slice A2 m.words.length c2] 26)) := (Below.refl _ _).alloc (Nat.le_refl _) _
  have hz1 := hb1.size
  have HR := Lib.hid fun (w' : World) (hb : Below w1.heap.size w1 w') => hN.below hb
  obtain ⟨P, cP, rfl, -⟩ := hN
  have hbl := hS1.1
  have hwl := hS1.2.1
  clear hO1
  go_wp2_with fail
  refine (iEvalLogic_any _ _ m l _ hH.read (HR.out _ hb1a)).mono ?_
  rintro e w2 ⟨rfl, hb2⟩
  have hH2 := hH.below hb2
  replace hb2 := hb1a.trans (hb2.mono hb1a.size)
  have hz2 := hb2.size
  obtain ⟨p0, p1⟩ := hH2.cells
  clear hb1a hH
  go_wp2_with fail
  refine (sEvalLogic_any _ _ m l _ hH2.read (HR.out _ hb2)).mono ?_
  rintro e w3 ⟨rfl, hb3⟩
  have hH3 := hH2.below hb3
  replace hb3 := hb2.trans (hb3.mono hz2)
  have hz3 := hb3.size
  obtain ⟨q0, q1⟩ := hH3.cells
  clear hb2 hH2 p0 p1
  have hE0 := Lib.hid fun (h : imgOK m = false ∨ lvalid l m.bits.length = false) => (show evI m l = false by unfold evI; rcases h with h | h <;> simp [h])
  have hE1 := Lib.hid fun (h1 : imgOK m = true) (h2 : lvalid l m.bits.length = true) => evI_row h1 h2
  have hE2 := Lib.hid fun (h1 : imgOK m = true) (h2 : lvalid l m.bits.length = true) (hne : 0 < (negL l).length) => evI_neg h1 h2 hne
  generalize evI m l = V at *
  have qV : (V != V) = false := by simp
  go_wp2_with fail
  refine (sImageValid_any _ m _ hH3.read).mono ?_
  rintro e w4 ⟨rfl, hb4⟩
  have hH4 := hH3.below hb4
  replace hb4 := hb3.trans (hb4.mono hz3)
  have hz4 := hb4.size
  obtain ⟨r0, r1⟩ := hH4.cells
  have hb14 := hb1.trans (hb4.mono hz1)
  clear hb3 hH3 q0 q1 qV
  cases hok : imgOK m
  · obtain rfl : V = false := hE0.out (.inl hok)
    go_wp2_with fail
    refine (fin_alive hb14).mono ?_
    rintro e w5 ⟨rfl, hb5⟩
    go_wp2
    go_ret
    exact ⟨rfl, hb5⟩
  · go_wp2_with fail
    refine (sLogicValid_any _ l m.bits.length _ (HR.out _ hb4)).mono ?_
    rintro e w5 ⟨rfl, hb5⟩
    have hH5 := hH4.below hb5
    replace hb5 := hb4.trans (hb5.mono hz4)
    have hz5 := hb5.size
    obtain ⟨s0, s1⟩ := hH5.cells
    have hb15 := hb1.trans (hb5.mono hz1)
    clear hb4 hH4 r0 r1 hb14
    cases hv : lvalid l m.bits.length
    · obtain rfl : V = false := hE0.out (.inr hv)
      go_wp2_with fail
      refine (fin_alive hb15).mono ?_
      rintro e w6 ⟨rfl, hb6⟩
      go_wp2
      go_ret
      exact ⟨rfl, hb6⟩
    · have hR := Lib.hid (hE1.out hok hv)
      have hE3 := Lib.hid (fun h => hE2.out hok hv h)
      have hnl := negL_len l
      have HV := Lib.hid hv
      clear hE0 hE1 hE2 hok hv
      go_wp2_with fail
      refine (iNegate_any _ l _ (HR.out _ hb5)).mono ?_
      rintro e w6 ⟨v6, rfl, hO6, hb6⟩
      have hN6 := OwnN.read hO6 (by omega) (negL_fit l HF.out)
      obtain ⟨A6, c6, rfl, -, -⟩ := own_form hO6
      have hH6 := hH5.below hb6
      replace hb6 := hb5.trans (hb6.mono hz5)
      have hz6 := hb6.size
      obtain ⟨t0, t1⟩ := hH6.cells
      have hb16 := hb1.trans (hb6.mono hz1)
      clear hb5 hH5 s0 s1 hb15 hO6
      generalize negL l = X at *
      by_cases hne : X.length = 0
      · rw [hne]
        by_cases h6 : m.bits.length ≤ 6
        · have i6 : decide ((6 : Int) < (m.bits.length : Int)) = false := by simp; omega
          have i6' : decide (6 < m.bits.length) = false := by simp; omega
          go_wp2_with fail
          go_loopw [7, 8] (fun x i wr => ∃ k : Nat, k ≤ m.bits.length ∧ i = .int .i64 k ∧ x = .int .i64 (sumB m.bits k : Nat) ∧ Below w6.heap.size w6 wr) (fun _ i _ => m.bits.length - (intOf i).toNat)
          case atStart => exact ⟨0, by omega, rfl, rfl, Below.refl _ _⟩
          case round =>
            obtain ⟨k, hk, rfl, rfl, hbr⟩ := hrel
            have hHr := hH6.below hbr
            obtain ⟨u0, u1⟩ := hHr.cells
            by_cases hlt : k < m.bits.length
            · obtain ⟨p, rfl, hc⟩ := hHr.bit hlt
              have hsum : sumB m.bits (k + 1) = sumB m.bits k + if m.bits.getD k false = true then 2 ^ k else 0 := rfl
              have hgd : m.bits.getD k false = m.bits[k] := by rw [List.getD_eq_getElem?_getD, List.getElem?_eq_getElem hlt]; rfl
              rw [hgd] at hsum
              have hslt := sumB_lt m.bits k
              generalize m.bits[k] = x at hc hsum
              have HS := Lib.hid hsum
              generalize hs : sumB m.bits k = s at *
              have h64 := pow_le64 (show k ≤ 6 by omega)
              have hsh : IntKind.i64.wrap ((2 : Int) ^ k) = ((2 ^ k : Nat) : Int) := by
                have e : ((2 : Int) ^ k) = ((2 ^ k : Nat) : Int) := by rw [Int.natCast_pow]; rfl
                rw [e]
                generalize (2 ^ k : Nat) = c at h64 ⊢
                rw [IntWalk.i64_in _ (by omega)]
              have i1 : (k : Int) < (m.bits.length : Int) := by omega
              generalize (2 ^ k : Nat) = q at *
              clear hsum hgd hs t0 t1
              cases x
              · have HS2 := Lib.hid (show sumB m.bits (k + 1) = s by rw [HS.out]; simp)
                go_wp2
                exact ⟨⟨k + 1, by omega, by go_num, by rw [HS2.out], hbr⟩, by simp [intOf]; omega⟩
              · have HS2 := Lib.hid (show sumB m.bits (k + 1) = s + q by rw [HS.out]; simp)
                go_wp2
                exact ⟨⟨k + 1, by omega, by go_num, by rw [HS2.out]; simp, hbr⟩, by simp [intOf]; omega⟩
            · obtain rfl : k = m.bits.length := by omega
              have hbe := hb6.trans (hbr.mono hz6)
              have hTr := HT.out _ (hb1.trans (hbe.mono hz1))
              have hNr := HR.out _ hbe
              have hb1e := hb1.trans (hbe.mono hz1)
              have ht := ttOK_make (show (0 : Int) ≤ (m.bits.length : Int) by omega) (show (m.bits.length : Int) ≤ 6 by omega) HV.out
              have hTl := tabF_len ht
              have hslt := sumB_lt m.bits m.bits.length
              have hTg := tabF_get ht (sumB m.bits m.bits.length) hslt
              rw [← hR.out] at hTg
              rw [Int.toNat_natCast] at hTl
              rw [← hTl] at hslt
              have hT64 := tabF_le l m.bits.length
              have LT := Lib.hid (iLogicTable_any (.slice P l.length cP) l m.bits.length wr hNr hTr)
              clear hR
              generalize sumB m.bits m.bits.length = s at *
              clear ht hTl hNr hTr
              generalize tabF l m.bits.length = T at *
              go_wp2_with fail
              refine LT.out.mono ?_
              rintro e w9 ⟨v9, rfl, hO9, hb9⟩
              obtain ⟨A9, c9, rfl, -, -⟩ := own_form hO9
              have g1 := OwnB.rdA hO9 rfl
              obtain ⟨p9, u9, rfl, -, hu, hc⟩ := g1.one hslt
              have hx : u9 = .bool V := by rw [List.getElem?_map, hTg] at hu; simpa using hu.symm
              subst hx
              have i1 : (s : Int) < (T.length : Int) := by omega
              have i2 : decide ((s : Int) < (T.length : Int)) = true := by simp; omega
              clear hu g1 hO9 LT hTg hslt
              cases V
              all_goals
                go_wp2
                go_ret
                exact ⟨rfl, hb1e.trans (hb9.mono hb1e.size)⟩
        · have i6 : decide ((6 : Int) < (m.bits.length : Int)) = true := by simp; omega
          have i6' : decide (6 < m.bits.length) = true := by simp; omega
          go_wp2
          go_ret
          exact ⟨rfl, hb16⟩
      · have e0 : decide ((0 : Int) < (X.length : Int)) = true := by simp; omega
        have e0' : decide (0 < X.length) = true := by simp; omega
        have hX := Lib.hid (hE3.out (by omega))
        go_wp2_with fail
        refine (iEvalLogic_any _ _ m X _ hH6.read hN6).mono ?_
        rintro e w7 ⟨rfl, hb7⟩
        have hH7 := hH6.below hb7
        replace hb7 := hb6.trans (hb7.mono hz6)
        have hz7 := hb7.size
        have hb17 := hb1.trans (hb7.mono hz1)
        rw [hX.out]
        clear hb6 hH6 t0 t1 hb16 hN6 hX hE3
        obtain ⟨t0, t1⟩ := hH7.cells
        cases V
        · simp only [Bool.not_false]
          by_cases h6 : m.bits.length ≤ 6
          · have i6 : decide ((6 : Int) < (m.bits.length : Int)) = false := by simp; omega
            have i6' : decide (6 < m.bits.length) = false := by simp; omega
            go_wp2_with fail
            go_loopw [7, 8] (fun x i wr => ∃ k : Nat, k ≤ m.bits.length ∧ i = .int .i64 k ∧ x = .int .i64 (sumB m.bits k : Nat) ∧ Below w7.heap.size w7 wr) (fun _ i _ => m.bits.length - (intOf i).toNat)
            case atStart => exact ⟨0, by omega, rfl, rfl, Below.refl _ _⟩
            case round =>
              obtain ⟨k, hk, rfl, rfl, hbr⟩ := hrel
              have hHr := hH7.below hbr
              obtain ⟨u0, u1⟩ := hHr.cells
              by_cases hlt : k < m.bits.length
              · obtain ⟨p, rfl, hc⟩ := hHr.bit hlt
                have hsum : sumB m.bits (k + 1) = sumB m.bits k + if m.bits.getD k false = true then 2 ^ k else 0 := rfl
                have hgd : m.bits.getD k false = m.bits[k] := by rw [List.getD_eq_getElem?_getD, List.getElem?_eq_getElem hlt]; rfl
                rw [hgd] at hsum
                have hslt := sumB_lt m.bits k
                generalize m.bits[k] = x at hc hsum
                have HS := Lib.hid hsum
                generalize hs : sumB m.bits k = s at *
                have h64 := pow_le64 (show k ≤ 6 by omega)
                have hsh : IntKind.i64.wrap ((2 : Int) ^ k) = ((2 ^ k : Nat) : Int) := by
                  have e : ((2 : Int) ^ k) = ((2 ^ k : Nat) : Int) := by rw [Int.natCast_pow]; rfl
                  rw [e]
                  generalize (2 ^ k : Nat) = c at h64 ⊢
                  rw [IntWalk.i64_in _ (by omega)]
                have i1 : (k : Int) < (m.bits.length : Int) := by omega
                generalize (2 ^ k : Nat) = q at *
                clear hsum hgd hs t0 t1
                cases x
                · have HS2 := Lib.hid (show sumB m.bits (k + 1) = s by rw [HS.out]; simp)
                  go_wp2
                  exact ⟨⟨k + 1, by omega, by go_num, by rw [HS2.out], hbr⟩, by simp [intOf]; omega⟩
                · have HS2 := Lib.hid (show sumB m.bits (k + 1) = s + q by rw [HS.out]; simp)
                  go_wp2
                  exact ⟨⟨k + 1, by omega, by go_num, by rw [HS2.out]; simp, hbr⟩, by simp [intOf]; omega⟩
              · obtain rfl : k = m.bits.length := by omega
                have hbe := hb7.trans (hbr.mono hz7)
                have hTr := HT.out _ (hb1.trans (hbe.mono hz1))
                have hNr := HR.out _ hbe
                have hb1e := hb1.trans (hbe.mono hz1)
                have ht := ttOK_make (show (0 : Int) ≤ (m.bits.length : Int) by omega) (show (m.bits.length : Int) ≤ 6 by omega) HV.out
                have hTl := tabF_len ht
                have hslt := sumB_lt m.bits m.bits.length
                have hTg := tabF_get ht (sumB m.bits m.bits.length) hslt
                rw [← hR.out] at hTg
                rw [Int.toNat_natCast] at hTl
                rw [← hTl] at hslt
                have hT64 := tabF_le l m.bits.length
                have LT := Lib.hid (iLogicTable_any (.slice P l.length cP) l m.bits.length wr hNr hTr)
                clear hR
                generalize sumB m.bits m.bits.length = s at *
                clear ht hTl hNr hTr
                generalize tabF l m.bits.length = T at *
                go_wp2_with fail
                refine LT.out.mono ?_
                rintro e w9 ⟨v9, rfl, hO9, hb9⟩
                obtain ⟨A9, c9, rfl, -, -⟩ := own_form hO9
                have g1 := OwnB.rdA hO9 rfl
                obtain ⟨p9, u9, rfl, -, hu, hc⟩ := g1.one hslt
                have hx : u9 = .bool false := by rw [List.getElem?_map, hTg] at hu; simpa using hu.symm
                subst hx
                have i1 : (s : Int) < (T.length : Int) := by omega
                have i2 : decide ((s : Int) < (T.length : Int)) = true := by simp; omega
                clear hu g1 hO9 LT hTg hslt
                go_wp2
                go_ret
                exact ⟨rfl, hb1e.trans (hb9.mono hb1e.size)⟩
          · have i6 : decide ((6 : Int) < (m.bits.length : Int)) = true := by simp; omega
            have i6' : decide (6 < m.bits.length) = true := by simp; omega
            go_wp2
            go_ret
            exact ⟨rfl, hb17⟩
        · simp only [Bool.not_true]
          by_cases h6 : m.bits.length ≤ 6
          · have i6 : decide ((6 : Int) < (m.bits.length : Int)) = false := by simp; omega
            have i6' : decide (6 < m.bits.length) = false := by simp; omega
            go_wp2_with fail
            go_loopw [7, 8] (fun x i wr => ∃ k : Nat, k ≤ m.bits.length ∧ i = .int .i64 k ∧ x = .int .i64 (sumB m.bits k : Nat) ∧ Below w7.heap.size w7 wr) (fun _ i _ => m.bits.length - (intOf i).toNat)
            case atStart => exact ⟨0, by omega, rfl, rfl, Below.refl _ _⟩
            case round =>
              obtain ⟨k, hk, rfl, rfl, hbr⟩ := hrel
              have hHr := hH7.below hbr
              obtain ⟨u0, u1⟩ := hHr.cells
              by_cases hlt : k < m.bits.length
              · obtain ⟨p, rfl, hc⟩ := hHr.bit hlt
                have hsum : sumB m.bits (k + 1) = sumB m.bits k + if m.bits.getD k false = true then 2 ^ k else 0 := rfl
                have hgd : m.bits.getD k false = m.bits[k] := by rw [List.getD_eq_getElem?_getD, List.getElem?_eq_getElem hlt]; rfl
                rw [hgd] at hsum
                have hslt := sumB_lt m.bits k
                generalize m.bits[k] = x at hc hsum
                have HS := Lib.hid hsum
                generalize hs : sumB m.bits k = s at *
                have h64 := pow_le64 (show k ≤ 6 by omega)
                have hsh : IntKind.i64.wrap ((2 : Int) ^ k) = ((2 ^ k : Nat) : Int) := by
                  have e : ((2 : Int) ^ k) = ((2 ^ k : Nat) : Int) := by rw [Int.natCast_pow]; rfl
                  rw [e]
                  generalize (2 ^ k : Nat) = c at h64 ⊢
                  rw [IntWalk.i64_in _ (by omega)]
                have i1 : (k : Int) < (m.bits.length : Int) := by omega
                generalize (2 ^ k : Nat) = q at *
                clear hsum hgd hs t0 t1
                cases x
                · have HS2 := Lib.hid (show sumB m.bits (k + 1) = s by rw [HS.out]; simp)
                  go_wp2
                  exact ⟨⟨k + 1, by omega, by go_num, by rw [HS2.out], hbr⟩, by simp [intOf]; omega⟩
                · have HS2 := Lib.hid (show sumB m.bits (k + 1) = s + q by rw [HS.out]; simp)
                  go_wp2
                  exact ⟨⟨k + 1, by omega, by go_num, by rw [HS2.out]; simp, hbr⟩, by simp [intOf]; omega⟩
              · obtain rfl : k = m.bits.length := by omega
                have hbe := hb7.trans (hbr.mono hz7)
                have hTr := HT.out _ (hb1.trans (hbe.mono hz1))
                have hNr := HR.out _ hbe
                have hb1e := hb1.trans (hbe.mono hz1)
                have ht := ttOK_make (show (0 : Int) ≤ (m.bits.length : Int) by omega) (show (m.bits.length : Int) ≤ 6 by omega) HV.out
                have hTl := tabF_len ht
                have hslt := sumB_lt m.bits m.bits.length
                have hTg := tabF_get ht (sumB m.bits m.bits.length) hslt
                rw [← hR.out] at hTg
                rw [Int.toNat_natCast] at hTl
                rw [← hTl] at hslt
                have hT64 := tabF_le l m.bits.length
                have LT := Lib.hid (iLogicTable_any (.slice P l.length cP) l m.bits.length wr hNr hTr)
                clear hR
                generalize sumB m.bits m.bits.length = s at *
                clear ht hTl hNr hTr
                generalize tabF l m.bits.length = T at *
                go_wp2_with fail
                refine LT.out.mono ?_
                rintro e w9 ⟨v9, rfl, hO9, hb9⟩
                obtain ⟨A9, c9, rfl, -, -⟩ := own_form hO9
                have g1 := OwnB.rdA hO9 rfl
                obtain ⟨p9, u9, rfl, -, hu, hc⟩ := g1.one hslt
                have hx : u9 = .bool true := by rw [List.getElem?_map, hTg] at hu; simpa using hu.symm
                subst hx
                have i1 : (s : Int) < (T.length : Int) := by omega
                have i2 : decide ((s : Int) < (T.length : Int)) = true := by simp; omega
                clear hu g1 hO9 LT hTg hslt
                go_wp2
                go_ret
                exact ⟨rfl, hb1e.trans (hb9.mono hb1e.size)⟩
          · have i6 : decide ((6 : Int) < (m.bits.length : Int)) = true := by simp; omega
            have i6' : decide (6 < m.bits.length) = true := by simp; omega
            go_wp2
            go_ret
            exact ⟨rfl, hb17⟩
end Go.Proofs.YtoagnajljdbobabDoor
