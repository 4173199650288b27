/- The law of UsedBits: its walk. -/
import Derived.Test.YtbbaojmmjcdliaaDoorWT
import Derived.Test.YtbbaojmmjcdliaaDoorSq
namespace Go.Proofs.YtbbaojmmjcdliaaDoor
open Go.RowKit
attribute [local go_sem ↓] Go.wp_at_zero Go.wp_at_succ

theorem used_fit (l : List Nd) : ∀ x ∈ usedL l, -9223372036854775808 ≤ x ∧ x ≤ 9223372036854775807 := by
  intro x hx
  have := (numsTo_mem (usedS l) 16 x).1 hx
  omega
theorem below_drewN' {B : Nat} {a w : World} (h : Below B a w) (n : Nat) : Below B a (w.drewN n) := ⟨h.os, h.tape, h.output, h.size, h.block⟩
theorem OwnI.rdA {w : World} {b n c : Nat} {A : Option Addr} {T : List Int} (h : OwnI w b (.slice A n c) T) (hn : n = T.length) : Rd w w.heap.size 1 A n (T.map (.int .i64)) := by
  obtain ⟨A', c', e, -, hr⟩ := own_form h
  injection e with e1 e2 e3
  subst hn
  rw [e1]
  exact hr
theorem sameI_same (v1 v2 : Value) (a : List Int) (w : World) (h1 : IntsR w w.heap.size v1 a) (h2 : IntsR w w.heap.size v2 a) :
    Calls Tryd.prog 32 #[v1, v2] w fun e w' => e = .returned (.bool true) ∧ Below w.heap.size w w' :=
  (sameInts_any v1 v2 a a w h1 h2).mono fun _ _ ⟨he, hb⟩ => ⟨by rw [he]; simp [sameL], hb⟩
theorem FnUsedBits_long (a : Option Addr) (n c : Nat) (w : World) (h : 1048576 < n) (_hn : n ≤ 9223372036854775807) : Calls Tryd.prog 7 #[.slice a n c] w (LawPost w) := by
  go_enter Tryd.func7, Tryd.ntmps7
  go_wp2
  go_ret
  exact ⟨rfl, Below.refl _ _⟩
set_option maxHeartbeats 2000000 in
theorem FnUsedBits_core (v : Value) (bl : List Int) (w : World) (h : BytesR w w.heap.size v bl) (hl : bl.length ≤ 1048576) (hT : Tab w) :
    Calls Tryd.prog 7 #[v] w (LawPost w) := by
  have HO := Lib.hid (drawUsedBits_any v bl w h)
  have HT := Lib.hid (fun (w' : World) (hb : Below w.heap.size w w') => hT.next hb)
  have h2 := h.form
  obtain ⟨A, c, rfl, -⟩ := h
  clear h2 hT
  go_enter Tryd.func7, Tryd.ntmps7
  go_wp2_with fail
  refine HO.out.mono ?_
  rintro e w1 ⟨v, l, rfl, hO, hL, hsm, hb1⟩
  clear HO
  obtain ⟨B, off, cap, rfl, ⟨hB1, hB2⟩, hcap, -⟩ := hO.form
  have HR := Lib.hid fun (w' : World) (hb : Below w1.heap.size w1 w') => (hO.below hb).read (by omega) hsm
  clear hO hsm
  go_wp2_with fail
  refine (iUsedBits_any _ l _ (HR.out _ (Below.refl _ _))).mono ?_
  rintro e w2 ⟨v2, rfl, hO2, hb2⟩
  have hz2 := hb2.size
  obtain ⟨A2, c2, rfl, -, -⟩ := own_form hO2
  go_wp2_with fail
  refine (sUsedBits_any _ l _ (HR.out _ hb2)).mono ?_
  rintro e w3 ⟨v3, rfl, hO3, hb3⟩
  obtain ⟨A3, c3, rfl, -, -⟩ := own_form hO3
  replace hO2 := own_below hO2 hb3
  replace hb3 := hb2.trans (hb3.mono hz2)
  have hz3 := hb3.size
  have hU16 := used_len l
  clear hb2
  go_wp2_with fail
  refine (sameI_same _ _ (usedL l) _ (OwnI.read hO2 (by omega) (used_fit l)) (OwnI.read hO3 (by omega) (used_fit l))).mono ?_
  rintro e w4 ⟨rfl, hb4⟩
  have hO4 : OwnI w4 w1.heap.size (.slice A2 (usedL l).length c2) (usedL l) := own_below hO2 hb4
  replace hb4 := hb3.trans (hb4.mono hz3)
  have hz4 := hb4.size
  have hb14 := hb1.trans (hb4.mono hb1.size)
  clear hO3 hb3 hO2
  have HD := Lib.hid fun (b : Nat) (hb : b < 16) (hn : (b : Int) ∉ usedL l) => depI_unused (l := l) (n := 4) hb hn
  obtain ⟨U, hU, hUr, hUl⟩ : ∃ U, U = usedL l ∧ (∀ (k : Nat) (h : k < U.length), 0 ≤ U[k] ∧ U[k] < 16) ∧ (∀ (k : Nat) (h : k + 1 < U.length), U[k] < U[k + 1]) := ⟨_, rfl, used_range l, used_lt l⟩
  have HU := Lib.hid hUr
  have HL := Lib.hid hUl
  rw [← hU] at hO4 hU16 HD ⊢
  clear hU hUr hUl
  go_wp2_with (at_make; refine wpl_make rfl _ _ 23 rfl elB 16 rfl rfl (by omega) (by omega) ?_)
  intro w5 hO5 hb5
  have hO5' := own_of_madeB hO5
  rw [← markU_zero U] at hO5'
  unfold OwnB at hO5'
  rw [markU_len] at hO5'
  have g0 := OwnI.rdA hO4 rfl
  have hb45 := hb5
  have hz5 := hb5.size
  have HRw := Lib.hid fun (w' : World) (hb : Below w4.heap.size w4 w') => HR.out w' (hb4.trans (hb.mono hz4))
  have HTw := Lib.hid fun (w' : World) (hb : Below w4.heap.size w4 w') => HT.out w' (hb14.trans (hb.mono hb14.size))
  have hz14 := hb14.size
  clear hO5 hb5 HR HT hO4 hb4 hb1
  go_wp2_with fail
  go_loopw [6] (fun i wr => ∃ k : Nat, k ≤ U.length ∧ i = .int .i64 k ∧ wr.ownsRow w4.heap.size 4 1 (.slice (some ⟨w4.heap.size, 0, none⟩) 16 16) 16 ((markU U k).map .bool) ∧ Below w4.heap.size w4 wr) (fun i _ => U.length - (intOf i).toNat)
  case atStart => exact ⟨0, by omega, rfl, hO5', hb45⟩
  case round =>
    obtain ⟨k, hk, rfl, hown, hbr⟩ := hrel
    clear hO5' hb45 hz5
    by_cases hlt : k < U.length
    · obtain ⟨p, u, rfl, hpb, hu, hc⟩ := g0.one hlt
      have hx : u = .int .i64 U[k] := by rw [List.getElem?_map, List.getElem?_eq_getElem hlt] at hu; simpa using hu.symm
      subst hx
      have g1 := (hbr.cell (p := p.add k) (by rw [add_block]; exact hpb)).trans hc
      have hr := HU.out k hlt
      have hms := Lib.hid (markU_succ U k hlt hr)
      obtain ⟨b, hb⟩ : ∃ b : Nat, U[k] = b := ⟨U[k].toNat, by omega⟩
      rw [hb] at g1 hr hms
      have hb16 : b < 16 := by omega
      have hcb := hown.cellAt b (by omega)
      have hz := hown.frozenAt b
      have HS := Lib.hid fun nq => (show (wr.drewN nq).ownsRow w4.heap.size 4 1 (.slice (some ⟨w4.heap.size, 0, none⟩) 16 16) 16 ((markU U k).map .bool) from hown).stored b (.bool true)
      obtain ⟨y, hy⟩ : ∃ y, ((markU U k).map Value.bool)[b]? = some y := ⟨_, List.getElem?_eq_getElem (by rw [List.length_map, markU_len]; exact hb16)⟩
      rw [hy] at hcb
      have hmm : ((markU U k).map Value.bool).set b (.bool true) = (markU U (k + 1)).map Value.bool := by
        rw [← List.map_set]; have := hms.out; rw [Int.toNat_natCast] at this; rw [this]
      rw [hmm] at HS
      have i1 : (k : Int) < (U.length : Int) := by omega
      have i2 : ¬ ((b : Int) < 0) := by omega
      have i3 : ¬ ((16 : Int) ≤ b) := by omega
      have HB := Lib.hid hb
      clear hy hown hc hu hms hb hmm
      have d1 : decide ((b : Int) < 0) = false := by simp
      have d2 : decide ((16 : Int) ≤ (b : Int)) = false := by simp; omega
      by_cases h0 : k = 0
      · have i0 : decide (0 < k) = false := by simp; omega
        have H0 := Lib.hid h0
        clear h0 g0
        go_wp2
        go_quiet (fail)
        go_wp2
        exact ⟨⟨k + 1, by omega, by go_num, (HS.out _).1, (below_drewN' hbr _).setCell (by simp) _⟩, by simp [intOf]; omega⟩
      · obtain ⟨k', rfl⟩ : ∃ k', k = k' + 1 := ⟨k - 1, by omega⟩
        have hlt' : k' < U.length := by omega
        obtain ⟨p', u', e', -, hu', hc'⟩ := g0.one hlt'
        injection e' with e'
        subst e'
        have hx' : u' = .int .i64 U[k'] := by rw [List.getElem?_map, List.getElem?_eq_getElem hlt'] at hu'; simpa using hu'.symm
        subst hx'
        have g2 := (hbr.cell (p := p.add k') (by rw [add_block]; exact hpb)).trans hc'
        have hasc := HL.out k' hlt
        rw [HB.out] at hasc
        obtain ⟨x, hx⟩ : ∃ x, x = U[k'] := ⟨_, rfl⟩
        rw [← hx] at g2 hasc
        have i4 : ¬ ((b : Int) ≤ x) := by omega
        have d4 : decide ((b : Int) ≤ x) = false := by simp; omega
        have e1 : (⟨p.block, p.off + (k' + 1), none⟩ : Addr) = p.add (k' + 1) := by simp [Addr.add]
        rw [← e1] at g1
        clear e1
        have i5 : (k' : Int) + 1 < (U.length : Int) := by omega
        have i6 : (k' : Int) < (U.length : Int) := by omega
        have i7 : ((k' : Int) + 1).toNat = k' + 1 := by omega
        have i8 : ¬ ((k' : Int) + 1 < 0) := by omega
        have i9 : (0 : Int) ≤ (k' : Int) + 1 := by omega
        have i10 : (0 : Int) < (k' : Int) + 1 := by omega
        clear hu' hc' hx g0 hasc
        go_wp2
        go_quiet (fail)
        go_wp2
        exact ⟨⟨k' + 1 + 1, by omega, by go_num, (HS.out _).1, (below_drewN' hbr _).setCell (by simp) _⟩, by simp [intOf]; omega⟩
    · obtain rfl : k = U.length := by omega
      clear g0
      go_wp2_with fail
      go_loopw [7] (fun i w6 => ∃ k : Nat, k ≤ 4 ∧ i = .int .i64 k ∧ Below wr.heap.size wr w6) (fun i _ => 4 - (intOf i).toNat)
      case atStart => exact ⟨0, by omega, rfl, Below.refl _ _⟩
      case round =>
        obtain ⟨k, hk4, rfl, hbr2⟩ := hrel
        have hszr := hbr.size
        have hb46 := hbr.trans (hbr2.mono hszr)
        have hb16 := hb14.trans (hb46.mono hz14)
        have hz46 := hb46.size
        by_cases hlt : k < 4
        · have hc := (own_below hown hbr2).cellAt k (by omega)
          rw [List.getElem?_map, markU_get U k (by omega)] at hc
          simp only [Option.map_some] at hc
          have hkk := HD.out k (by omega)
          have HN := Lib.hid (HRw.out _ hb46)
          have HT6 := Lib.hid (HTw.out _ hb46)
          by_cases hmem : (k : Int) ∈ U
          · simp only [hmem, decide_true] at hc
            have i1 : (k : Int) < 16 := by omega
            clear hmem hkk
            go_wp2
            exact ⟨⟨k + 1, by omega, by go_num, hbr2⟩, by simp [intOf]; omega⟩
          · simp only [hmem, decide_false] at hc
            have hkf := Lib.hid (hkk hmem)
            have i1 : (k : Int) < 16 := by omega
            clear hmem hkk
            go_wp2_with fail
            refine (iLogicDepends_any _ l 4 (k : Int) _ HN.out HT6.out).mono ?_
            rintro e w7 ⟨rfl, hb7⟩
            rw [hkf.out]
            have hbr7 := hbr2.trans (hb7.mono hbr2.size)
            go_wp2
            exact ⟨⟨k + 1, by omega, by go_num, hbr7⟩, by simp [intOf]; omega⟩
        · go_wp2_with fail
          refine (fin_alive hb16).mono ?_
          rintro e w7 ⟨rfl, hb7⟩
          go_wp2
          go_ret
          exact ⟨rfl, hb7⟩
end Go.Proofs.YtbbaojmmjcdliaaDoor
