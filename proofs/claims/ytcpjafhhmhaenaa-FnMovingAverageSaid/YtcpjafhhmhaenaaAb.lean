/- The law FnMovingAverage: its walk. -/
import Derived.Test.YtcpjafhhmhaenaaAJ
import Derived.Test.YtcpjafhhmhaenaaAY
import Derived.Test.YtcpjafhhmhaenaaW
import Derived.Test.YtcpjafhhmhaenaaS
namespace Go.Proofs.Ytcpjafhhmhaenaa
open Go.RowKit
attribute [local go_sem ↓] Go.wp_at_zero Go.wp_at_succ

theorem avgL_no {l : List Int} {win : Int} (h : avgOK l win = false) : avgL l win = [] := by unfold avgL; rw [h]; rfl
theorem avgL_yes {l : List Int} {win : Int} (h : avgOK l win = true) : avgL l win = avgTo l win.toNat l.length := by unfold avgL; rw [h]; rfl
theorem avgOK_parts {l : List Int} {win : Int} (h : avgOK l win = true) : l.length ≤ 200 ∧ (1 ≤ win ∧ win ≤ 50) ∧ ∀ x ∈ l, inW x = true := by
  unfold avgOK at h; simp at h; exact ⟨h.1, inB_bd h.2.1, h.2.2⟩
theorem avgL_one {l : List Int} {win : Int} (h : avgOK l win = true) : avgL l 1 = l := by
  obtain ⟨h1, -, h3⟩ := avgOK_parts h
  have hok : avgOK l 1 = true := by unfold avgOK inB; simp; exact ⟨h1, h3⟩
  rw [avgL_yes hok]
  apply List.ext_getElem
  · simp [avgTo]
  · intro k hk1 hk2
    simp [avgTo, avg_one]
    rw [List.getElem?_eq_getElem hk2]; rfl
theorem avgTo_len (l : List Int) (wn k : Nat) : (avgTo l wn k).length = k := by simp [avgTo]
theorem avgTo_get (l : List Int) (wn n k : Nat) (h : k < (avgTo l wn n).length) : (avgTo l wn n)[k] = avgAt l wn k := by simp [avgTo]
theorem sameL_refl (l : List Int) : sameL l l = true := by unfold sameL; simp
theorem wordI_read {l : List Int} (h : ∀ x ∈ l, -32768 ≤ x ∧ x ≤ 32767) : ∀ x ∈ l, -9223372036854775808 ≤ x ∧ x ≤ 9223372036854775807 := fun x hx => by have := h x hx; omega
theorem FnMovingAverage_long (a : Option Addr) (n c : Nat) (w : World) (h : 1048576 < n) (_hn : n ≤ 9223372036854775807) : Calls Try.prog 8 #[.slice a n c] w (LawPost w) := by
  go_enter Try.func8, Try.ntmps8
  go_wp2
  go_ret
  exact ⟨rfl, Below.refl _ _⟩
set_option maxRecDepth 100000 in
set_option maxHeartbeats 8000000 in
theorem FnMovingAverage_core (v : Value) (bl : List Int) (w : World) (h : BytesR w w.heap.size v bl) (hl : bl.length ≤ 1048576) :
    Calls Try.prog 8 #[v] w (LawPost w) := by
  have HO := Lib.hid (drawDrawMovingAverage_any v bl w h)
  obtain ⟨A0, c0, rfl, -⟩ := h
  go_enter Try.func8, Try.ntmps8
  go_wp2_with fail
  refine HO.out.mono ?_
  rintro e w1 ⟨A, c, l, win, rfl, hO, hll, hsm, hwin, hB⟩
  clear HO
  have hR1 : IntsR w1 w1.heap.size (.slice A l.length c) l := hO.read (by omega) hsm.read
  have HLL := Lib.hid hll
  obtain ⟨D, hD⟩ : ∃ D, D = avgL l win := ⟨_, rfl⟩
  have hDlen : D.length ≤ 200 := by rw [hD]; exact avgL_len l win
  have hDw : ∀ x ∈ D, -32768 ≤ x ∧ x ≤ 32767 := by rw [hD]; exact avgL_word
  have HI := Lib.hid (iMovingAverage_any _ l win w1 hR1)
  rw [← hD] at HI
  have HD := Lib.hid hD
  clear hll
  go_wp2_with fail
  refine HI.out.mono ?_
  rintro e w2 ⟨v2, rfl, hO2, hc⟩
  have hR2 := hR1.below hc
  replace hB := hB.trans (hc.mono hB.size)
  clear HI hc hO
  have HS := Lib.hid (sMovingAverage_any _ l win w2 hR2)
  rw [← hD] at HS
  clear hD
  have hDI := wordI_read hDw
  obtain ⟨A2, c2, rfl, -, -⟩ := own_form hO2
  go_wp2_with fail
  refine HS.out.mono ?_
  rintro e w3 ⟨v3, rfl, hO3, hc⟩
  have hR3 := hR2.below hc
  have hD3 : IntsR w3 w3.heap.size (.slice A2 D.length c2) D := (OwnI.read hO2 (by omega) hDI).below hc
  have hE3 := OwnI.read hO3 (by omega) hDI
  replace hB := hB.trans (hc.mono hB.size)
  clear HS hc hO3 hO2 hR2 hR1
  have HQ := Lib.hid (sameInts_any _ _ D D w3 hD3 hE3)
  rw [sameL_refl] at HQ
  obtain ⟨A3, c3, rfl, -, -⟩ := hE3
  go_wp2_with fail
  refine HQ.out.mono ?_
  rintro e w4 ⟨rfl, hc⟩
  have hR4 := hR3.below hc
  have hD4 := hD3.below hc
  replace hB := hB.trans (hc.mono hB.size)
  clear HQ hc hR3 hD3
  by_cases hz : D.length = 0
  · have hz2 : ((D.length : Int) == 0) = true := by simp [hz]
    rw [hz]
    go_wp2_with fail
    refine (alive_any _).mono ?_
    rintro e w5 ⟨rfl, hc⟩
    go_wp2
    go_ret
    exact ⟨rfl, hB.trans (hc.mono hB.size)⟩
  cases hok : avgOK l win
  · exact absurd (by rw [HD.out, avgL_no hok]; rfl) hz
  obtain ⟨p1, p2, p3⟩ := avgOK_parts hok
  obtain ⟨wn, rfl⟩ := Int.eq_ofNat_of_zero_le (show 0 ≤ win by omega)
  have hDe : D = avgTo l wn l.length := by rw [HD.out, avgL_yes hok, Int.toNat_natCast]
  have hDl : D.length = l.length := by rw [hDe, avgTo_len]
  have h1 := avgL_one hok
  have HM := Lib.hid (fun (W : World) (hR : IntsR W W.heap.size (.slice A l.length c) l) => iMovingAverage_any _ l 1 W hR)
  rw [h1] at HM
  have hbd : ∀ j, j < l.length → -32768 ≤ l.getD j 0 ∧ l.getD j 0 ≤ 32767 := fun j hj => by
    rw [List.getD_eq_getElem?_getD, List.getElem?_eq_getElem hj]
    exact inW_bd (p3 _ (List.getElem_mem _))
  have HBD := Lib.hid hbd
  obtain ⟨A4, c4, e4, hr4, hl4, hb4⟩ := hD4
  cases e4
  rw [hDl] at hr4 hz ⊢
  have HDk := Lib.hid (fun (k : Nat) (hk : k < l.length) => show ∃ p, A2 = some p ∧ w4.cell? (p.add k) = some (.int .i64 (avgAt l wn k)) by
    obtain ⟨p, hp, -, hc⟩ := cell_int7 (l := D) (by rw [hDl]; exact hr4) (show k < D.length by omega)
    refine ⟨p, hp, ?_⟩
    rw [hc]; congr 2; rw [List.getElem_of_eq hDe, avgTo_get])
  obtain ⟨A5, c5, e5, hr5, hl5, hb5⟩ := id hR4
  cases e5
  have HLk := Lib.hid (fun (k : Nat) (hk : k < l.length) => show ∃ p, A = some p ∧ w4.cell? (p.add k) = some (.int .i64 (l.getD k 0)) by
    obtain ⟨p, hp, -, hc⟩ := cell_int7 hr5 hk
    refine ⟨p, hp, ?_⟩
    rw [hc, List.getD_eq_getElem?_getD, List.getElem?_eq_getElem hk]; rfl)
  have HR4 := Lib.hid hR4
  have hz2 : ((l.length : Int) == 0) = false := by rw [beq_eq_false_iff_ne]; omega
  clear hbd p3 hok hDe hDl h1 hr4 hb4 hr5 hb5 hDw hDI hDlen hsm HD hR4 hz HLL
  go_wp2
  go_loopw [6] (fun i wr => ∃ k : Nat, wr = w4 ∧ k ≤ l.length ∧ i = .int .i64 k) (fun i _ => l.length - (intOf i).toNat)
  case atStart => exact ⟨0, rfl, by omega, rfl⟩
  case round =>
    obtain ⟨k, hw, hk, rfl⟩ := hrel
    subst hw
    by_cases hlt : k < l.length
    · have i1 : (k : Int) < (l.length : Int) := by omega
      have HAV := Lib.hid (fun (lo hi : Int) (h : ∀ j, j < min wn (k + 1) → lo ≤ l.getD (k - j) 0 ∧ l.getD (k - j) 0 ≤ hi) => avg_bd (l := l) (win := wn) (k := k) (lo := lo) (hi := hi) (by omega) h)
      have HLE := Lib.hid (fun (j : Nat) => show k - j < l.length by omega)
      obtain ⟨p, rfl, hck⟩ := HLk.out k hlt
      have hy0 := HBD.out k hlt
      have HY0 := Lib.hid (show l.getD (k - 0) 0 = l.getD k 0 from rfl)
      obtain ⟨y0, hy0e⟩ : ∃ y, y = l.getD k 0 := ⟨_, rfl⟩
      rw [← hy0e] at hck hy0 HY0
      clear hy0e
      go_wp2_with fail
      go_loopw [7, 8, 9] (fun a b j wx => ∃ (m : Nat) (lo hi : Int), wx = wr ∧ m ≤ wn ∧ m ≤ k + 1 ∧ j = .int .i64 m ∧ a = .int .i64 lo ∧ b = .int .i64 hi ∧ (-32768 ≤ lo ∧ lo ≤ 32767) ∧ (-32768 ≤ hi ∧ hi ≤ 32767) ∧ (∀ i, i < m → lo ≤ l.getD (k - i) 0 ∧ l.getD (k - i) 0 ≤ hi)) (fun _ _ j _ => k + 1 - (intOf j).toNat)
      case atStart => exact ⟨0, y0, y0, rfl, by omega, by omega, rfl, rfl, rfl, hy0, hy0, fun i hi => absurd hi (by omega)⟩
      case round =>
        obtain ⟨m, lo, hi, hw, hm1, hm2, rfl, rfl, rfl, hlo, hhi, hin⟩ := hrel
        subst hw
        have HIN := Lib.hid hin
        clear hin
        by_cases c1 : m < wn
        · by_cases c2 : m ≤ k
          · have hkm := HLE.out m
            obtain ⟨p', hp', hcm⟩ := HLk.out (k - m) hkm
            cases hp'
            have hy := HBD.out (k - m) hkm
            have HN := Lib.hid (fun (lo' hi' : Int) (h1 : lo' ≤ lo) (h2 : hi ≤ hi') (h3 : lo' ≤ l.getD (k - m) 0) (h4 : l.getD (k - m) 0 ≤ hi') (i : Nat) (h : i < m + 1) => show lo' ≤ l.getD (k - i) 0 ∧ l.getD (k - i) 0 ≤ hi' by
              by_cases e : i = m
              · subst e; exact ⟨h3, h4⟩
              · have := HIN.out i (by omega); omega)
            obtain ⟨y, hye⟩ : ∃ y, y = l.getD (k - m) 0 := ⟨_, rfl⟩
            rw [← hye] at hcm hy HN
            clear hye
            have i2 : (m : Int) < (wn : Int) := by omega
            have i3 : (m : Int) ≤ (k : Int) := by omega
            by_cases d1 : y < lo
            all_goals
              by_cases d2 : hi < y
              all_goals
                go_wp2
                go_roundw
                case rel => exact ⟨m + 1, _, _, by first | rfl | trivial, by omega, by omega, by go_num, rfl, rfl, by omega, by omega, HN.out _ _ (by omega) (by omega) (by omega) (by omega)⟩
                case measure => simp [intOf]; omega
          · have hav := HAV.out lo hi fun i hi' => HIN.out i (by omega)
            obtain ⟨q, hq, hcq⟩ := HDk.out k hlt
            subst hq
            obtain ⟨z, hz⟩ : ∃ z, z = avgAt l wn k := ⟨_, rfl⟩
            rw [← hz] at hav hcq
            clear hz
            have i2 : (m : Int) < (wn : Int) := by omega
            have i3 : ¬ (m : Int) ≤ (k : Int) := by omega
            go_wp2
            go_roundw
            case rel => exact ⟨k + 1, by first | rfl | trivial, by omega, by go_num⟩
            case measure => simp [intOf]; omega
        · have hav := HAV.out lo hi fun i hi' => HIN.out i (by omega)
          obtain ⟨q, hq, hcq⟩ := HDk.out k hlt
          subst hq
          obtain ⟨z, hz⟩ : ∃ z, z = avgAt l wn k := ⟨_, rfl⟩
          rw [← hz] at hav hcq
          clear hz
          have i2 : ¬ (m : Int) < (wn : Int) := by omega
          go_wp2
          go_roundw
          case rel => exact ⟨k + 1, by first | rfl | trivial, by omega, by go_num⟩
          case measure => simp [intOf]; omega
    · obtain rfl : l.length = k := by omega
      clear HLk HDk HBD
      go_wp2_with fail
      refine (HM.out _ HR4.out).mono ?_
      rintro e w5 ⟨v5, rfl, hO5, hc⟩
      have hR5 := HR4.out.below hc
      have hE5 := OwnI.read hO5 hl5 (by obtain ⟨_, _, _, _, _, h⟩ := HR4.out; exact h)
      replace hB := hB.trans (hc.mono hB.size)
      have HQ := Lib.hid (sameInts_any _ _ l l w5 hE5 hR5)
      rw [sameL_refl] at HQ
      obtain ⟨A6, c6, rfl, -, -⟩ := hE5
      clear hc hO5 hR5
      go_wp2_with fail
      refine HQ.out.mono ?_
      rintro e w6 ⟨rfl, hc⟩
      go_wp2
      go_ret
      exact ⟨rfl, hB.trans (hc.mono hB.size)⟩
end Go.Proofs.Ytcpjafhhmhaenaa
