/- The law of LadderCoils: its walk. -/
import Derived.Test.YtlpoeijjlkdceaaWa
import Derived.Test.YtlpoeijjlkdceaaWP
import Derived.Test.YtlpoeijjlkdceaaRS
import Derived.BigQuiet
import Derived.Deep.QuietTactic
namespace Go.Proofs.Ytlpoeijjlkdceaa
open Go.RowKit
attribute [local go_sem ↓] Go.wp_at_zero Go.wp_at_succ

theorem below_drN {B : Nat} {a w : World} (h : Below B a w) (n : Nat) : Below B a (w.drewN n) := ⟨h.os, h.tape, h.output, h.size, h.block⟩
theorem sameI_one (v1 v2 : Value) (a : List Int) (w : World) (h1 : IntsR w w.heap.size v1 a) (h2 : IntsR w w.heap.size v2 a) :
    Calls Try.prog 31 #[v1, v2] w fun e w' => e = .returned (.bool true) ∧ Below w.heap.size w w' :=
  (sameInts_any v1 v2 a a w h1 h2).mono fun _ _ ⟨he, hb⟩ => ⟨by rw [he]; simp [sameL], hb⟩
theorem nums_fit (s : Nat) : ∀ x ∈ numsTo s 16, -9223372036854775808 ≤ x ∧ x ≤ 9223372036854775807 := by
  intro x hx
  have := (numsTo_mem s 16 x).1 hx
  omega
theorem nums_range (s k : Nat) (h : k < (numsTo s 16).length) : 0 ≤ (numsTo s 16)[k] ∧ (numsTo s 16)[k] < 16 := by
  have := (numsTo_mem s 16 _).1 (List.getElem_mem h)
  exact ⟨this.1, by omega⟩
theorem nums_lt (s k : Nat) (h : k + 1 < (numsTo s 16).length) : (numsTo s 16)[k] < (numsTo s 16)[k + 1] :=
  List.pairwise_iff_getElem.1 (numsTo_asc s 16) k (k + 1) (by omega) h (by omega)
theorem double_sub (l : List Rg) : ∀ x ∈ doubleL l, x ∈ coilsL l := by
  intro x hx
  rw [← doubleL_set] at hx
  rw [← coilsL_set]
  obtain ⟨h0, h1, h2⟩ := (numsTo_mem _ 16 _).1 hx
  refine (numsTo_mem _ 16 _).2 ⟨h0, h1, ?_⟩
  rw [coilsS_bit l _ (by omega), List.any_eq_true]
  rw [(dblS_bit x.toNat (by omega) l).2, decide_eq_true_eq] at h2
  unfold manyC at h2
  obtain ⟨r, hr, hp⟩ := List.countP_pos_iff.1 (show 0 < _ by omega : 0 < l.countP fun r => decide (r.coil = (x.toNat : Int)) && decide (r.kind = 1))
  simp only [Bool.and_eq_true, decide_eq_true_eq] at hp
  exact ⟨r, hr, by simpa using hp.1⟩
theorem FnLadderCoils_long (a : Option Addr) (n c : Nat) (w : World) (h : 1048576 < n) (_hn : n ≤ 9223372036854775807) : Calls Try.prog 7 #[.slice a n c] w (LawPost w) := by
  go_enter Try.func7, Try.ntmps7
  go_wp2
  go_ret
  exact ⟨rfl, Below.refl _ _⟩
set_option maxHeartbeats 2000000 in
theorem FnLadderCoils_core (v : Value) (bl : List Int) (w : World) (h : BytesR w w.heap.size v bl) (hl : bl.length ≤ 1048576) :
    Calls Try.prog 7 #[v] w (LawPost w) := by
  have HO := Lib.hid (drawLadderCoils_any v bl w h)
  have h2 := h.form
  obtain ⟨A0, c0, rfl, -⟩ := h
  clear h2
  go_enter Try.func7, Try.ntmps7
  go_wp2_with fail
  refine HO.out.mono ?_
  rintro e w1 ⟨vr, ps, rfl, hL, hsm, hb1⟩
  clear HO
  have HR := Lib.hid (fun (W : World) (hb : Below w1.heap.size w1 W) => hL.below hb)
  obtain ⟨A, c, rfl, -, hc, -⟩ := hL
  clear hsm hc
  go_wp2_with fail
  refine (iLadderCoils_any _ ps _ (HR.out _ (Below.refl _ _))).mono ?_
  rintro e w2 ⟨v2, rfl, hO2, hb2⟩
  have hz2 := hb2.size
  obtain ⟨A2, c2, rfl, -, -⟩ := own_form hO2
  go_wp2_with fail
  refine (sLadderCoils_any _ ps _ (HR.out _ hb2)).mono ?_
  rintro e w3 ⟨v3, rfl, hO3, hb3⟩
  obtain ⟨A3, c3, rfl, -, -⟩ := own_form hO3
  replace hO2 := own_below hO2 hb3
  replace hb3 := hb2.trans (hb3.mono hz2)
  have hz3 := hb3.size
  have HSUB := Lib.hid (double_sub (lads ps))
  obtain ⟨U, hU, hUr, hUl, hUf, hU16⟩ : ∃ U, U = coilsL (lads ps) ∧ (∀ (k : Nat) (h : k < U.length), 0 ≤ U[k] ∧ U[k] < 16) ∧ (∀ (k : Nat) (h : k + 1 < U.length), U[k] < U[k + 1]) ∧ (∀ x ∈ U, -9223372036854775808 ≤ x ∧ x ≤ 9223372036854775807) ∧ U.length ≤ 16 :=
    ⟨_, rfl, by rw [← coilsL_set]; exact nums_range _, by rw [← coilsL_set]; exact nums_lt _, by rw [← coilsL_set]; exact nums_fit _, by rw [← coilsL_set]; exact numsTo_length _ _⟩
  have HU := Lib.hid hUr
  have HL := Lib.hid hUl
  rw [← hU] at hO2 hO3 HSUB ⊢
  have r2 := OwnI.read hO2 (by omega) hUf
  have r3 := OwnI.read hO3 (by omega) hUf
  clear hb2 hU hUr hUl hUf
  go_wp2_with fail
  refine (sameI_one _ _ U _ r2 r3).mono ?_
  rintro e w4 ⟨rfl, hb4⟩
  have hO4 : OwnI w4 w1.heap.size (.slice A2 U.length c2) U := own_below hO2 hb4
  replace hb4 := hb3.trans (hb4.mono hz3)
  have hz4 := hb4.size
  have hb14 := hb1.trans (hb4.mono hb1.size)
  clear hO3 hb3 hO2 r2 r3
  go_wp2_with (at_make; refine wpl_make rfl _ _ 35 rfl elB 16 rfl rfl (by omega) (by omega) ?_)
  intro w5 hO5 hb5
  have hO5' := own_of_madeB hO5
  rw [← markU_zero U] at hO5'
  unfold OwnB at hO5'
  rw [markU_len] at hO5'
  have g0 := OwnI.rdR hO4 rfl
  have hb45 := hb5
  have hz5 := hb5.size
  have HRw := Lib.hid fun (w' : World) (hb : Below w4.heap.size w4 w') => HR.out w' (hb4.trans (hb.mono hz4))
  have hz14 := hb14.size
  clear hO5 hb5 HR hO4 hb4 hb1
  go_wp2_with fail
  go_loopw [6] (fun i wr => ∃ k : Nat, k ≤ U.length ∧ i = .int .i64 k ∧ wr.ownsRow w4.heap.size 4 1 (.slice (some ⟨w4.heap.size, 0, none⟩) 16 16) 16 ((markU U k).map .bool) ∧ Below w4.heap.size w4 wr) (fun i _ => U.length - (intOf i).toNat)
  case atStart => exact ⟨0, by omega, rfl, hO5', hb45⟩
  case round =>
    obtain ⟨k, hk, rfl, hown, hbr⟩ := hrel
    clear hO5' hb45 hz5
    by_cases hlt : k < U.length
    · obtain ⟨p, u, rfl, hpb, hu, hc⟩ := g0.one hlt
      have hx : u = .int .i64 U[k] := by rw [List.getElem?_map, List.getElem?_eq_getElem hlt] at hu; simpa using hu.symm
      subst hx
      have g1 := (hbr.cell (p := p.add k) (by rw [add_block]; exact hpb)).trans hc
      have hr := HU.out k hlt
      have hms := Lib.hid (markU_succ U k hlt hr)
      obtain ⟨b, hb⟩ : ∃ b : Nat, U[k] = b := ⟨U[k].toNat, by omega⟩
      rw [hb] at g1 hr hms
      have hb16 : b < 16 := by omega
      have hcb := hown.cellAt b (by omega)
      have hz := hown.frozenAt b
      have HS := Lib.hid fun nq => (show (wr.drewN nq).ownsRow w4.heap.size 4 1 (.slice (some ⟨w4.heap.size, 0, none⟩) 16 16) 16 ((markU U k).map .bool) from hown).stored b (.bool true)
      obtain ⟨y, hy⟩ : ∃ y, ((markU U k).map Value.bool)[b]? = some y := ⟨_, List.getElem?_eq_getElem (by rw [List.length_map, markU_len]; exact hb16)⟩
      rw [hy] at hcb
      have hmm : ((markU U k).map Value.bool).set b (.bool true) = (markU U (k + 1)).map Value.bool := by
        rw [← List.map_set]; have := hms.out; rw [Int.toNat_natCast] at this; rw [this]
      rw [hmm] at HS
      have i1 : (k : Int) < (U.length : Int) := by omega
      have i2 : ¬ ((b : Int) < 0) := by omega
      have i3 : ¬ ((16 : Int) ≤ b) := by omega
      have HB := Lib.hid hb
      clear hy hown hc hu hms hb hmm
      have d1 : decide ((b : Int) < 0) = false := by simp
      have d2 : decide ((16 : Int) ≤ (b : Int)) = false := by simp; omega
      by_cases h0 : k = 0
      · have i0 : decide (0 < k) = false := by simp; omega
        have H0 := Lib.hid h0
        clear h0 g0
        go_wp2
        go_quiet (fail)
        go_wp2
        exact ⟨⟨k + 1, by omega, by go_num, (HS.out _).1, (below_drN hbr _).setCell (by simp) _⟩, by simp [intOf]; omega⟩
      · obtain ⟨k', rfl⟩ : ∃ k', k = k' + 1 := ⟨k - 1, by omega⟩
        have hlt' : k' < U.length := by omega
        obtain ⟨p', u', e', -, hu', hc'⟩ := g0.one hlt'
        injection e' with e'
        subst e'
        have hx' : u' = .int .i64 U[k'] := by rw [List.getElem?_map, List.getElem?_eq_getElem hlt'] at hu'; simpa using hu'.symm
        subst hx'
        have g2 := (hbr.cell (p := p.add k') (by rw [add_block]; exact hpb)).trans hc'
        have hasc := HL.out k' hlt
        rw [HB.out] at hasc
        obtain ⟨x, hx⟩ : ∃ x, x = U[k'] := ⟨_, rfl⟩
        rw [← hx] at g2 hasc
        have i4 : ¬ ((b : Int) ≤ x) := by omega
        have d4 : decide ((b : Int) ≤ x) = false := by simp; omega
        have e1 : (⟨p.block, p.off + (k' + 1), none⟩ : Addr) = p.add (k' + 1) := by simp [Addr.add]
        rw [← e1] at g1
        clear e1
        have i5 : (k' : Int) + 1 < (U.length : Int) := by omega
        have i6 : (k' : Int) < (U.length : Int) := by omega
        have i7 : ((k' : Int) + 1).toNat = k' + 1 := by omega
        have i8 : ¬ ((k' : Int) + 1 < 0) := by omega
        have i9 : (0 : Int) ≤ (k' : Int) + 1 := by omega
        have i10 : (0 : Int) < (k' : Int) + 1 := by omega
        clear hu' hc' hx g0 hasc
        go_wp2
        go_quiet (fail)
        go_wp2
        exact ⟨⟨k' + 1 + 1, by omega, by go_num, (HS.out _).1, (below_drN hbr _).setCell (by simp) _⟩, by simp [intOf]; omega⟩
    · obtain rfl : k = U.length := by omega
      clear g0
      go_wp2_with fail
      refine (iDoubleCoils_any _ ps _ (HRw.out _ hbr)).mono ?_
      rintro e w6 ⟨v6, rfl, hO6, hb6⟩
      obtain ⟨A6, c6, rfl, -, -⟩ := own_form hO6
      have hown6 := own_below hown hb6
      have hszr := hbr.size
      have hb46 := hbr.trans (hb6.mono hszr)
      have hb16 := hb14.trans (hb46.mono hz14)
      obtain ⟨D, hD, hDr, hDs, hD16⟩ : ∃ D, D = doubleL (lads ps) ∧ (∀ (k : Nat) (h : k < D.length), 0 ≤ D[k] ∧ D[k] < 16) ∧ (∀ (k : Nat) (h : k < D.length), D[k] ∈ U) ∧ D.length ≤ 16 :=
        ⟨_, rfl, by rw [← doubleL_set]; exact nums_range _, fun k h => HSUB.out _ (List.getElem_mem h), by rw [← doubleL_set]; exact numsTo_length _ _⟩
      rw [← hD] at hO6 ⊢
      have HDr := Lib.hid hDr
      have HDs := Lib.hid hDs
      have g0 := OwnI.rdR hO6 rfl
      clear hD hDr hDs hO6 hown hb6
      go_wp2_with fail
      go_loopw [8] (fun i w7 => ∃ k : Nat, k ≤ D.length ∧ i = .int .i64 k ∧ w7 = w6) (fun i _ => D.length - (intOf i).toNat)
      case atStart => exact ⟨0, by omega, rfl, rfl⟩
      case round =>
        obtain ⟨k, hk4, rfl, rfl⟩ := hrel
        by_cases hlt : k < D.length
        · obtain ⟨p, u, rfl, hpb, hu, hc⟩ := g0.one hlt
          have hx : u = .int .i64 D[k] := by rw [List.getElem?_map, List.getElem?_eq_getElem hlt] at hu; simpa using hu.symm
          subst hx
          have hr := HDr.out k hlt
          have hmem := HDs.out k hlt
          obtain ⟨b, hb⟩ : ∃ b : Nat, D[k] = b := ⟨D[k].toNat, by omega⟩
          rw [hb] at hc hr hmem
          have hcb := hown6.cellAt b (by omega)
          rw [List.getElem?_map, markU_get U b (by omega)] at hcb
          simp only [Option.map_some, hmem, decide_true] at hcb
          have i1 : (k : Int) < (D.length : Int) := by omega
          have i2 : (b : Int) < 16 := by omega
          clear hu hb hmem g0
          go_wp2
          exact ⟨⟨k + 1, by omega, by go_num, by first | rfl | trivial⟩, by simp [intOf]; omega⟩
        · go_wp2_with fail
          refine (alive_any _).mono ?_
          rintro e w7 ⟨rfl, hb7⟩
          go_wp2
          go_ret
          exact ⟨rfl, hb16.trans (hb7.mono hb16.size)⟩
end Go.Proofs.Ytlpoeijjlkdceaa
