/- Lists of words: the program's functions. -/
import Derived.Test.YtcpjafhhmhaenaaAZ
import Derived.Test.YtcpjafhhmhaenaaAI
import Derived.Test.YtcpjafhhmhaenaaMS
import Derived.Test.YtcpjafhhmhaenaaLB
namespace Go.Proofs.Ytcpjafhhmhaenaa
open Go.RowKit
attribute [local go_sem ↓] Go.wp_at_zero Go.wp_at_succ

theorem wordsOK_all (l : List Int) : wordsOK l = l.all inW := rfl
theorem wordsOK_get {l : List Int} (h : wordsOK l = true) (k : Nat) (hk : k < l.length) : -32768 ≤ l[k] ∧ l[k] ≤ 32767 := by
  rw [wordsOK_all, List.all_eq_true] at h
  exact inW_bd (h _ (List.getElem_mem hk))
theorem getD7 {l : List Int} {k : Nat} (hk : k < l.length) : l.getD k 0 = l[k] := by rw [List.getD_eq_getElem?_getD, List.getElem?_eq_getElem hk]; rfl
/-- the sum of the window ahead of word k -/
def sumAt (l : List Int) (wn : Nat) : Nat → Int
  | 0 => 0
  | k + 1 => winSum l k (min wn (k + 1))
theorem sumAt_eq (l : List Int) (wn k : Nat) : sumAt l wn (k + 1) = winSum l k (min wn (k + 1)) := rfl
theorem winSum_shift (l : List Int) (k m : Nat) : winSum l (k + 1) (m + 1) = l.getD (k + 1) 0 + winSum l k m := by
  induction m with
  | zero => show winSum l (k + 1) 0 + _ = _; unfold winSum; simp
  | succ m ih =>
    show winSum l (k + 1) (m + 1) + l.getD (k + 1 - (m + 1)) 0 = l.getD (k + 1) 0 + (winSum l k m + l.getD (k - m) 0)
    rw [ih, show k + 1 - (m + 1) = k - m by omega]; omega
theorem sumAt_succ (l : List Int) {wn : Nat} (hw : 1 ≤ wn) (k : Nat) : sumAt l wn (k + 1) = sumAt l wn k + l.getD k 0 - (if wn ≤ k then l.getD (k - wn) 0 else 0) := by
  cases k with
  | zero => rw [sumAt_eq, show min wn (0 + 1) = 1 by omega, if_neg (by omega)]; unfold sumAt; simp [winSum]
  | succ k =>
    have hs := winSum_shift l k
    rw [sumAt_eq, sumAt_eq]
    by_cases h : wn ≤ k + 1
    · obtain ⟨m, rfl⟩ : ∃ m, wn = m + 1 := ⟨wn - 1, by omega⟩
      rw [if_pos h, show min (m + 1) (k + 1 + 1) = m + 1 by omega, show min (m + 1) (k + 1) = m + 1 by omega, hs]
      show _ = winSum l k m + l.getD (k - m) 0 + l.getD (k + 1) 0 - l.getD (k + 1 - (m + 1)) 0
      rw [show k + 1 - (m + 1) = k - m by omega]; omega
    · rw [if_neg h, show min wn (k + 1 + 1) = k + 1 + 1 by omega, show min wn (k + 1) = k + 1 by omega, hs]; omega
theorem sumAt_bd {l : List Int} (h : wordsOK l = true) {wn : Nat} (hw : wn ≤ 50) (k : Nat) (hk : k ≤ l.length) : -1638400 ≤ sumAt l wn k ∧ sumAt l wn k ≤ 1638400 := by
  cases k with
  | zero => show -1638400 ≤ (0 : Int) ∧ (0 : Int) ≤ 1638400; omega
  | succ k =>
    have := winSum_bd (l := l) (k := k) (lo := -32768) (hi := 32767) (min wn (k + 1)) (fun j hj => by rw [getD7 (by omega)]; exact wordsOK_get h _ _)
    rw [sumAt_eq]; omega
set_option maxHeartbeats 4000000 in
theorem iMovingAverage_any (v : Value) (l : List Int) (win : Int) (w : World) (h : IntsR w w.heap.size v l) :
    Calls Try.prog 37 #[v, .int .i64 win] w (OwnIP (avgL l win) w) := by
  have hAW := Lib.hid (areWords_any _ l w h)
  obtain ⟨A, c, rfl, hr, hl, hbd⟩ := h
  obtain ⟨D, hD⟩ : ∃ D, D = avgL l win := ⟨_, rfl⟩
  rw [← hD]
  by_cases h2 : 200 < l.length
  · have HD := Lib.hid (show D = [] by rw [hD]; unfold avgL avgOK; rw [decide_eq_false (by omega)]; rfl)
    clear hD
    go_enter Try.func37, Try.ntmps37
    go_wp2
    go_ret
    refine ⟨_, rfl, ?_, Below.refl _ _⟩
    rw [HD.out]; exact World.ownsRow_nil _ _ _ _
  by_cases h3 : win < 1
  · have HD := Lib.hid (show D = [] by rw [hD]; unfold avgL avgOK; rw [show inB win 1 50 = false by unfold inB; simp; omega]; simp)
    clear hD
    go_enter Try.func37, Try.ntmps37
    go_wp2
    go_ret
    refine ⟨_, rfl, ?_, Below.refl _ _⟩
    rw [HD.out]; exact World.ownsRow_nil _ _ _ _
  by_cases h4 : 50 < win
  · have HD := Lib.hid (show D = [] by rw [hD]; unfold avgL avgOK; rw [show inB win 1 50 = false by unfold inB; simp; omega]; simp)
    clear hD
    go_enter Try.func37, Try.ntmps37
    go_wp2
    go_ret
    refine ⟨_, rfl, ?_, Below.refl _ _⟩
    rw [HD.out]; exact World.ownsRow_nil _ _ _ _
  have hi : inB win 1 50 = true := by unfold inB; simp; omega
  cases hW : wordsOK l
  · have HD := Lib.hid (show D = [] by rw [hD]; unfold avgL avgOK; rw [← wordsOK_all, hW]; simp)
    clear hD
    go_enter Try.func37, Try.ntmps37
    go_wp2_with fail
    refine hAW.out.mono ?_
    rw [hW]
    rintro e w1 ⟨rfl, rfl⟩
    clear hW
    go_wp2
    go_ret
    refine ⟨_, rfl, ?_, Below.refl _ _⟩
    rw [HD.out]; exact World.ownsRow_nil _ _ _ _
  obtain ⟨wn, rfl⟩ := Int.eq_ofNat_of_zero_le (show 0 ≤ win by omega)
  have HD := Lib.hid (show D = avgTo l wn l.length by rw [hD]; unfold avgL avgOK; rw [hi, ← wordsOK_all, hW, decide_eq_true (by omega)]; rfl)
  have HX := Lib.hid (wordsOK_get hW)
  have hw : 1 ≤ wn ∧ wn ≤ 50 := by omega
  have HS := Lib.hid (sumAt_bd hW hw.2)
  clear hD hbd hi
  go_enter Try.func37, Try.ntmps37
  go_wp2_with fail
  refine hAW.out.mono ?_
  rw [hW]
  rintro e w1 ⟨rfl, rfl⟩
  clear hW
  go_wp2_with (at_make; refine wpl_make rfl _ _ 39 rfl elI l.length rfl rfl ?c1 ?c2 ?_)
  case c1 => omega
  case c2 => omega
  intro w1 hown hb1
  rw [toList_madeCells_one] at hown
  go_wp2
  go_loopw [6, 30] (fun s i wr => ∃ k : Nat, k ≤ l.length ∧ i = .int .i64 k ∧ s = .int .i64 (sumAt l wn k) ∧ wr.ownsRow w.heap.size 3 1 (.slice (some ⟨w.heap.size, 0, none⟩) l.length l.length) l.length ((List.range k).map (fun i => Value.int .i64 (avgAt l wn i)) ++ (List.replicate l.length (Value.int .i64 0)).drop k) ∧ Below w.heap.size w wr) (fun _ i _ => l.length - (intOf i).toNat)
  case atStart => exact ⟨0, by omega, rfl, rfl, by simpa using hown, hb1⟩
  case round =>
    obtain ⟨k, hk, rfl, rfl, hO, hbr⟩ := hrel
    clear hown hb1
    by_cases hlt : k < l.length
    · obtain ⟨p, rfl, hpb, hc⟩ := cell_int7 hr hlt
      have g1 := (hbr.cell (p := p.add k) (by rw [add_block]; exact hpb)).trans hc
      have i1 : (k : Int) < (l.length : Int) := by omega
      clear hc
      by_cases hq : wn ≤ k
      · have hq' : (wn : Int) ≤ (k : Int) := by omega
        have HS1 := Lib.hid (show sumAt l wn (k + 1) = sumAt l wn k + l[k] - l[k - wn] by rw [sumAt_succ l hw.1, if_pos hq, getD7 hlt, getD7 (show k - wn < l.length by omega)])
        have HA := Lib.hid (show avgAt l wn k = sumAt l wn (k + 1) / (wn : Int) by unfold avgAt; rw [show min wn (k + 1) = wn by omega, sumAt_eq, show min wn (k + 1) = wn by omega])
        have HM := Lib.hid (show minI ((k : Int) + 1) (wn : Int) = wn by unfold minI; split <;> omega)
        have hy := HX.out (k - wn) (by omega)
        obtain ⟨p', hp', -, hcy⟩ := cell_int7 hr (show k - wn < l.length by omega)
        cases hp'
        have g2 := (hbr.cell (p := p.add (k - wn)) (by rw [add_block]; exact hpb)).trans hcy
        have e2 : ((k : Int) - (wn : Int)) = ((k - wn : Nat) : Int) := by omega
        have E2 := Lib.hid e2
        clear hcy e2
        have hs1 := HS.out (k + 1) (by omega)
        obtain ⟨S1, hS1⟩ : ∃ S1, S1 = sumAt l wn (k + 1) := ⟨_, rfl⟩
        rw [← hS1] at HS1 HA hs1
        have hst := hO.stored k (Value.int .i64 (avgAt l wn k))
        rw [mark_step (fun i => Value.int .i64 (avgAt l wn i)) _ k (by simpa using hlt)] at hst
        have hc' := hO.cellAt k (by omega)
        have hz := hO.frozenAt k
        obtain ⟨y, hy'⟩ : ∃ y, ((List.range k).map (fun i => Value.int .i64 (avgAt l wn i)) ++ (List.replicate l.length (Value.int .i64 0)).drop k)[k]? = some y := ⟨_, List.getElem?_eq_getElem (by simp; omega)⟩
        rw [hy'] at hc'
        rw [HA.out] at hst
        have H := Lib.hid hst
        have HS1e := Lib.hid hS1
        have hq0 := HS.out k (by omega)
        have hx0 := HX.out k hlt
        obtain ⟨S0, hS0⟩ : ∃ S0, S0 = sumAt l wn k := ⟨_, rfl⟩
        rw [← hS0] at hq0 HS1 ⊢
        obtain ⟨x, hxe⟩ : ∃ x, x = l[k] := ⟨_, rfl⟩
        rw [← hxe] at hx0 HS1 g1
        obtain ⟨y2, hye⟩ : ∃ y2, y2 = l[k - wn] := ⟨_, rfl⟩
        rw [← hye] at hy HS1 g2
        clear hye
        have HQ := Lib.hid (fun W => quotDown_any S1 ((wn : Int)) W (by omega) (by omega))
        clear hst hy' hO hS1 hS0 hxe HA
        go_wp2_with fail
        refine (lesser_any ((k : Int) + 1) (wn : Int) _).mono ?_
        rw [HM.out]
        rintro e w2 ⟨rfl, rfl⟩
        go_wp2_with fail
        first
        | rw [← HS1.out]
        | rw [E2.out, ← HS1.out]
        refine (HQ.out _).mono ?_
        rintro e w2 ⟨rfl, rfl⟩
        go_wp2
        go_roundw
        case rel => exact ⟨k + 1, by omega, by go_num, by first | rw [HS1e.out] | rw [← HS1.out, HS1e.out], H.out.1, hbr.setCell (by simp) _⟩
        case measure => simp [intOf]; omega
      · have hq' : (k : Int) < (wn : Int) := by omega
        have HS1 := Lib.hid (show sumAt l wn (k + 1) = sumAt l wn k + l[k] by rw [sumAt_succ l hw.1, if_neg hq, getD7 hlt]; omega)
        have HA := Lib.hid (show avgAt l wn k = sumAt l wn (k + 1) / (((k + 1 : Nat) : Int) : Int) by unfold avgAt; rw [show min wn (k + 1) = k + 1 by omega, sumAt_eq, show min wn (k + 1) = k + 1 by omega])
        have HM := Lib.hid (show minI ((k : Int) + 1) (wn : Int) = ((k + 1 : Nat) : Int) by unfold minI; split <;> omega)
        have hs1 := HS.out (k + 1) (by omega)
        obtain ⟨S1, hS1⟩ : ∃ S1, S1 = sumAt l wn (k + 1) := ⟨_, rfl⟩
        rw [← hS1] at HS1 HA hs1
        have hst := hO.stored k (Value.int .i64 (avgAt l wn k))
        rw [mark_step (fun i => Value.int .i64 (avgAt l wn i)) _ k (by simpa using hlt)] at hst
        have hc' := hO.cellAt k (by omega)
        have hz := hO.frozenAt k
        obtain ⟨y, hy'⟩ : ∃ y, ((List.range k).map (fun i => Value.int .i64 (avgAt l wn i)) ++ (List.replicate l.length (Value.int .i64 0)).drop k)[k]? = some y := ⟨_, List.getElem?_eq_getElem (by simp; omega)⟩
        rw [hy'] at hc'
        rw [HA.out] at hst
        have H := Lib.hid hst
        have HS1e := Lib.hid hS1
        have hq0 := HS.out k (by omega)
        have hx0 := HX.out k hlt
        obtain ⟨S0, hS0⟩ : ∃ S0, S0 = sumAt l wn k := ⟨_, rfl⟩
        rw [← hS0] at hq0 HS1 ⊢
        obtain ⟨x, hxe⟩ : ∃ x, x = l[k] := ⟨_, rfl⟩
        rw [← hxe] at hx0 HS1 g1
        have HQ := Lib.hid (fun W => quotDown_any S1 (((k + 1 : Nat) : Int)) W (by omega) (by omega))
        clear hst hy' hO hS1 hS0 hxe HA
        go_wp2_with fail
        refine (lesser_any ((k : Int) + 1) (wn : Int) _).mono ?_
        rw [HM.out]
        rintro e w2 ⟨rfl, rfl⟩
        go_wp2_with fail
        first
        | rw [← HS1.out]
        | rw [E2.out, ← HS1.out]
        refine (HQ.out _).mono ?_
        rintro e w2 ⟨rfl, rfl⟩
        go_wp2
        go_roundw
        case rel => exact ⟨k + 1, by omega, by go_num, by first | rw [HS1e.out] | rw [← HS1.out, HS1e.out], H.out.1, hbr.setCell (by simp) _⟩
        case measure => simp [intOf]; omega
    · go_wp2
      go_ret
      obtain rfl : k = l.length := by omega
      refine ⟨_, rfl, ?_, hbr⟩
      rw [HD.out]
      unfold OwnI avgTo
      rw [List.length_map, List.length_range, List.map_map]
      simpa [Function.comp_def] using hO
set_option maxHeartbeats 2000000 in
theorem iMedianOf_any (v : Value) (l : List Int) (w : World) (h : IntsR w w.heap.size v l) :
    Calls Try.prog 41 #[v] w (MedPost l w) := by
  have hAW := Lib.hid (areWords_any _ l w h)
  obtain ⟨A, c, rfl, hr, hl, hbd⟩ := h
  have hmod : ((l.length : Int)).tmod 2 = ((l.length % 2 : Nat) : Int) := by rw [Int.tmod_eq_emod_of_nonneg (by omega)]; omega
  have hdiv : ((l.length : Int)).tdiv 2 = ((l.length / 2 : Nat) : Int) := by rw [Int.tdiv_eq_ediv_of_nonneg (by omega)]; omega
  by_cases hev : l.length % 2 = 0
  · have hm := Lib.hid (show MedOf l 0 by unfold MedOf medOK; rw [decide_eq_false (by omega)]; simp)
    rw [hev] at hmod
    go_enter Try.func41, Try.ntmps41
    go_wp2
    go_ret
    exact ⟨0, rfl, hm.out, Below.refl _ _⟩
  have hod : l.length % 2 = 1 := by omega
  rw [hod] at hmod
  by_cases h15 : 15 < l.length
  · have hm := Lib.hid (show MedOf l 0 by unfold MedOf medOK; rw [decide_eq_false (show ¬ l.length ≤ 15 by omega)]; simp)
    go_enter Try.func41, Try.ntmps41
    go_wp2
    go_ret
    exact ⟨0, rfl, hm.out, Below.refl _ _⟩
  cases hW : wordsOK l
  · have hm := Lib.hid (show MedOf l 0 by unfold MedOf medOK; rw [← wordsOK_all, hW]; simp)
    go_enter Try.func41, Try.ntmps41
    go_wp2_with fail
    refine hAW.out.mono ?_
    rw [hW]
    rintro e w1 ⟨rfl, rfl⟩
    clear hW
    go_wp2
    go_ret
    exact ⟨0, rfl, hm.out, Below.refl _ _⟩
  have hok : medOK l = true := by unfold medOK; rw [← wordsOK_all, hW, decide_eq_true hod, decide_eq_true (show l.length ≤ 15 by omega)]; rfl
  have hlt : l.length / 2 < (sortL l).length := by rw [sortL_len]; omega
  have HMed := Lib.hid (show MedOf l ((sortL l)[l.length / 2]) by
    unfold MedOf
    rw [if_pos hok]
    exact isMed_perm (sortL_perm l) (isMed_sorted (sortL_le l) _ (by rw [sortL_len]) hlt))
  have HSo := Lib.hid (sortedVals_any w.heap.size c A l (by omega) (by omega) (w.alloc (.cells #[.slice A l.length c] 39)) (hr.keep (fun p hp => World.cell?_alloc_lt w _ p hp) (by simp)) (by simp) (by simp))
  have hsl := sortL_len l
  obtain ⟨s, hlt, hsl, HMed, HSo⟩ : ∃ (s : List Int) (hlt : l.length / 2 < s.length), s.length = l.length ∧ Hid (MedOf l s[l.length / 2]) ∧ Hid (Calls Try.prog 65 #[.func (.func 77) #[] #[.pointer (some ⟨w.heap.size, 0, none⟩)]] (w.alloc (.cells #[.slice A l.length c] 39)) (OwnIP s (w.alloc (.cells #[.slice A l.length c] 39)))) := ⟨_, hlt, hsl, HMed, HSo⟩
  clear hok hod hev hbd hl
  have h16 : ¬ 15 < (l.length : Int) := by omega
  have hl15 : (s.length : Int) = (l.length : Int) := by omega
  go_enter Try.func41, Try.ntmps41
  go_wp2_with fail
  refine hAW.out.mono ?_
  rw [hW]
  rintro e w1 ⟨rfl, rfl⟩
  clear hW
  go_wp2_with fail
  refine (values_any A l.length c _).mono ?_
  rintro e w1 ⟨rfl, rfl⟩
  go_wp2_with fail
  refine HSo.out.mono ?_
  rintro e w2 ⟨v2, rfl, hO, hb⟩
  have hB := Lib.hid (((Below.refl w.heap.size w).alloc (Nat.le_refl _) (.cells #[.slice A l.length c] 39)).trans (hb.mono (by simp)))
  obtain ⟨A2, c2, rfl, -, hr2⟩ := own_form hO
  obtain ⟨p, rfl, -, hc⟩ := cell_int7 hr2 hlt
  have i1 : ((l.length / 2 : Nat) : Int) < (s.length : Int) := by omega
  have hdiv2 : ((s.length : Int)).tdiv 2 = ((l.length / 2 : Nat) : Int) := by rw [hl15]; exact hdiv
  clear hdiv hb hO hr2
  go_wp2
  go_ret
  exact ⟨_, rfl, HMed.out, hB.out⟩
end Go.Proofs.Ytcpjafhhmhaenaa
