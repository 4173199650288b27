/- The law of Debounce: its walk. -/
import Derived.Test.YthebkamggkfnlaaLE
import Derived.Test.YthebkamggkfnlaaLF
namespace Go.Proofs.Ythebkamggkfnlaa
open Go.RowKit
attribute [local go_sem ↓] Go.wp_at_zero Go.wp_at_succ

theorem below_drA {B : Nat} {a w : World} (h : Below B a w) (n : Nat) : Below B a (w.drewN n) := ⟨h.os, h.tape, h.output, h.size, h.block⟩
theorem debTo_get (f : Bool) (h : Int) (l : List Bool) (k : Nat) (hk : k < (debTo f h l l.length).length) : (debTo f h l l.length)[k] = (debAt f h l (k + 1)).1 := by
  simp [debTo]
theorem FnDebounce_long (a : Option Addr) (n c : Nat) (w : World) (h : 1048576 < n) (_hn : n ≤ 9223372036854775807) : Calls Try.prog 7 #[.slice a n c] w (LawPost w) := by
  go_enter Try.func7, Try.ntmps7
  go_wp2
  go_ret
  exact ⟨rfl, Below.refl _ _⟩
set_option maxHeartbeats 4000000 in
theorem FnDebounce_core (v : Value) (bl : List Int) (w : World) (h : BytesR w w.heap.size v bl) (hl : bl.length ≤ 1048576) :
    Calls Try.prog 7 #[v] w (LawPost w) := by
  have HO := Lib.hid (drawDebounce_any v bl w h)
  obtain ⟨A0, c0, rfl, -⟩ := h
  go_enter Try.func7, Try.ntmps7
  go_wp2_with fail
  refine HO.out.mono ?_
  rintro e w1 ⟨f, A, c, l, q, rfl, hO, h201, hq, hb1⟩
  obtain ⟨h, rfl⟩ := Int.eq_ofNat_of_zero_le hq.1
  have hq2 := hq.2
  have HR := Lib.hid (fun (W : World) (hb : Below w1.heap.size w1 W) => OwnB.read (own_below hO hb) (by omega))
  obtain ⟨E, hE⟩ : ∃ E, E = debL f l h := ⟨_, rfl⟩
  have hE2 : E.length ≤ 200 := by rw [hE]; exact debL_len f l h
  have HE := Lib.hid hE
  clear HO hO hE hq
  go_wp2_with fail
  refine (iDebounce_any f _ l h _ (HR.out _ (Below.refl _ _))).mono ?_
  rw [← HE.out]
  rintro e w2 ⟨v2, rfl, hO2, hb2⟩
  obtain ⟨A2, c2, rfl, -, -⟩ := own_form hO2
  have HR2 := Lib.hid (fun (W : World) (hb : Below w2.heap.size w2 W) => OwnB.read (own_below hO2 hb) (by omega))
  clear hO2
  go_wp2_with fail
  refine (sDebounce_any f _ l h _ (HR.out _ hb2)).mono ?_
  rw [← HE.out]
  rintro e w3 ⟨v3, rfl, hO3, hb3⟩
  have hr3 := OwnB.read hO3 (by omega)
  obtain ⟨A3, c3, rfl, -, -⟩ := own_form hO3
  clear hO3
  go_wp2_with fail
  refine (bools_same _ _ E _ (HR2.out _ hb3) hr3).mono ?_
  rintro e w4 ⟨rfl, hb4⟩
  have hb24 := hb3.trans (hb4.mono hb3.size)
  have hb14 := hb2.trans (hb24.mono hb2.size)
  have hB := hb1.trans (hb14.mono hb1.size)
  clear hb3 hb4 hr3 hb2
  by_cases hbad : 200 < l.length ∨ (h : Int) < 1 ∨ 20 < (h : Int)
  · obtain rfl : E = [] := by rw [HE.out]; unfold debL; rw [if_pos hbad]
    by_cases h2 : 200 < l.length
    · go_wp2_with fail
      refine (alive_any _).mono ?_
      rintro e w5 ⟨rfl, hb5⟩
      go_wp2
      go_ret
      exact ⟨rfl, hB.trans (hb5.mono hB.size)⟩
    · by_cases h3 : h = 0
      · subst h3
        go_wp2_with fail
        refine (alive_any _).mono ?_
        rintro e w5 ⟨rfl, hb5⟩
        go_wp2
        go_ret
        exact ⟨rfl, hB.trans (hb5.mono hB.size)⟩
      · obtain rfl : h = 21 := by omega
        go_wp2_with fail
        refine (alive_any _).mono ?_
        rintro e w5 ⟨rfl, hb5⟩
        go_wp2
        go_ret
        exact ⟨rfl, hB.trans (hb5.mono hB.size)⟩
  · have h2 : ¬ 200 < l.length := by omega
    have h1 : 1 ≤ h := by omega
    have h20 : h ≤ 20 := by omega
    have hE1 : E = debTo f h l l.length := by rw [HE.out]; unfold debL; rw [if_neg hbad]
    have hEl : E.length = l.length := by rw [hE1, debTo_len]
    have HG := Lib.hid (show ∀ (k : Nat) (hk : k < E.length), E[k] = (debAt f h l (k + 1)).1 by
      subst hE1
      exact fun k hk => debTo_get f h l k hk)
    have HL := Lib.hid hEl
    have hqq : ((E.length : Int) == (l.length : Int)) = true := by rw [beq_iff_eq]; omega
    have HT := Lib.hid (fun k hk => debAt_turn f h l k hk (by omega))
    obtain ⟨_, _, ez, rd, -⟩ := HR.out _ hb14
    injection ez with ez1 ez2 ez3
    subst ez1; subst ez3
    clear ez2
    obtain ⟨_, _, ez, rd2, -⟩ := HR2.out _ hb24
    injection ez with ez1 ez2 ez3
    subst ez1; subst ez3
    clear ez2 hE1 hEl hbad
    have RD := Lib.hid rd
    have RD2 := Lib.hid rd2
    clear rd rd2
    go_wp2_with fail
    go_loopw [7, 8] (fun b i wr => ∃ k : Nat, k ≤ l.length ∧ i = .int .i64 k ∧ b = .bool (debAt f h l k).1 ∧ Below w4.heap.size w4 wr) (fun _ i _ => l.length - (intOf i).toNat)
    case atStart => exact ⟨0, by omega, rfl, rfl, Below.refl _ _⟩
    case round =>
      obtain ⟨k, hk, rfl, rfl, hbr⟩ := hrel
      by_cases hlt : k < l.length
      · obtain ⟨p2, rfl, hpb2, hc2⟩ := cell_bool RD2.out (k := k) (by have := HL.out; omega)
        rw [HG.out k (by have := HL.out; omega)] at hc2
        have i1 : (k : Int) < (l.length : Int) := by omega
        have i2 : (k : Int) < (E.length : Int) := by have := HL.out; omega
        have TURN := Lib.hid (HT.out k hlt)
        obtain ⟨o1, ho1⟩ : ∃ o, o = (debAt f h l (k + 1)).1 := ⟨_, rfl⟩
        have H1 := Lib.hid ho1
        rw [← ho1] at hc2 TURN
        obtain ⟨o0, ho0⟩ : ∃ o, o = (debAt f h l k).1 := ⟨_, rfl⟩
        rw [← ho0] at TURN ⊢
        clear ho1 ho0
        have g2 := (hbr.cell (p := p2.add k) (by rw [add_block]; exact hpb2)).trans hc2
        have GC := Lib.hid (fun (W : World) (hb : Below w4.heap.size w4 W) => (hb.cell (p := p2.add k) (by rw [add_block]; exact hpb2)).trans hc2)
        have HKL := Lib.hid hlt
        clear hc2
        by_cases hoo : o1 = o0
        · subst hoo
          clear TURN hlt
          go_wp2
          go_roundw
          case rel => exact ⟨k + 1, by omega, by go_num, by rw [H1.out], hbr⟩
          case measure => simp [intOf]; omega
        · have TN := Lib.hid (TURN.out hoo)
          clear TURN hlt
          cases o1 <;> cases o0
          all_goals first | exact absurd rfl hoo | clear hoo
          all_goals
            obtain ⟨wo, rfl⟩ : ∃ wo : World, wo = wr := ⟨_, rfl⟩
            go_wp2_with fail
            go_loopw [9] (fun jv wx => ∃ j : Nat, j ≤ h ∧ jv = .int .i64 j ∧ Below w4.heap.size w4 wx) (fun jv _ => h - (intOf jv).toNat)
            case atStart => exact ⟨0, by omega, rfl, hbr⟩
            case round =>
              clear g2 hbr
              obtain ⟨j, hj, rfl, hbr⟩ := hrel
              have g2 := GC.out _ hbr
              by_cases hjl : j < h
              · obtain ⟨hjk, hval⟩ := TN.out j (by omega)
                obtain ⟨m, hm⟩ : ∃ m, m = k - j := ⟨_, rfl⟩
                rw [← hm] at hval
                have hml : m < l.length := by have := HKL.out; omega
                obtain ⟨p, e', hpb, hc⟩ := cell_bool RD.out hml
                have hv : l[m] = l.getD m false := by simp [List.getD, List.getElem?_eq_getElem hml]
                rw [hv, hval] at hc
                have g1 := (hbr.cell (p := p.add m) (by rw [add_block]; exact hpb)).trans hc
                have i3 : (k : Int) - (j : Int) = (m : Int) := by omega
                have i4 : decide ((m : Int) < 0) = false := by simp
                have i5 : (j : Int) < (h : Int) := by omega
                have i6 : (m : Int) < (l.length : Int) := by omega
                have HJ := Lib.hid hjl
                subst e'
                clear hc hv hval hm hjk
                go_wp2
                go_quiet (fail)
                go_wp2
                exact ⟨⟨j + 1, by have := HJ.out; omega, by go_num, below_drA hbr _⟩, by simp [intOf]; have := HJ.out; omega⟩
              · obtain rfl : j = h := by omega
                clear hjl hj
                go_wp2
                exact ⟨⟨k + 1, by have := HKL.out; omega, by go_num, by rw [H1.out], hbr⟩, by simp [intOf]; have := HKL.out; omega⟩
      · obtain rfl : k = l.length := by omega
        have H200 := Lib.hid h2
        have hbr1 := hb14.trans (hbr.mono hb14.size)
        have hbw := hb1.trans (hbr1.mono hb1.size)
        clear hk hlt
        go_wp2_with fail
        refine (iDebounce_any f _ l 1 _ (HR.out _ hbr1)).mono ?_
        rw [debL_one f l (by omega)]
        rintro e w5 ⟨v5, rfl, hO5, hb5⟩
        have hr5 := OwnB.read hO5 (by omega)
        obtain ⟨A5, c5, rfl, -, -⟩ := own_form hO5
        clear hO5
        have hb15 := hbr1.trans (hb5.mono hbr1.size)
        go_wp2_with fail
        refine (bools_same _ _ l _ hr5 (HR.out _ hb15)).mono ?_
        rintro e w6 ⟨rfl, hb6⟩
        go_wp2
        go_ret
        exact ⟨rfl, (hb1.trans (hb15.mono hb1.size)).trans (hb6.mono (hb1.trans (hb15.mono hb1.size)).size)⟩
end Go.Proofs.Ythebkamggkfnlaa
