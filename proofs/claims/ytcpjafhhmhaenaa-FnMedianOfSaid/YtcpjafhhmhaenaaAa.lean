/- The laws of chapter 7 on numbers: their walks. -/
import Derived.Test.YtcpjafhhmhaenaaAI
import Derived.Test.YtcpjafhhmhaenaaAX
import Derived.Test.YtcpjafhhmhaenaaW
import Derived.Test.YtcpjafhhmhaenaaLA
namespace Go.Proofs.Ytcpjafhhmhaenaa
open Go.RowKit
attribute [local go_sem ↓] Go.wp_at_zero Go.wp_at_succ

theorem smI.fit {x : Int} (h : smI x) : fitI x := by unfold smI at h; unfold fitI; omega
theorem fit_of {x : Int} (h : -100000 ≤ x ∧ x ≤ 100000) : fitI x := by unfold fitI; omega
theorem lisWord_any (n : Int) (w : World) : Calls Try.prog 21 #[.int .i64 n] w (BoolIs (inW n) w) := by
  unfold inW inB
  by_cases h : -32768 ≤ n
  all_goals
    go_enter Try.func21, Try.ntmps21
    go_wp2
    go_ret
    exact bool_is (by simp [h] <;> omega)
theorem labs_any (n : Int) (w : World) (h : -1000000 ≤ n ∧ n ≤ 1000000) : Calls Try.prog 32 #[.int .i64 n] w (IntIs (absI n) w) := by
  unfold absI
  rcases (show n < 0 ∨ n = 0 ∨ 0 < n by omega) with hx | hx | hx
  · have g1 : n < -n := by omega
    go_enter Try.func32, Try.ntmps32
    go_wp2
    go_ret
    exact int_is rfl
  · subst hx
    go_enter Try.func32, Try.ntmps32
    go_wp2
    go_ret
    exact int_is rfl
  · have g1 : ¬ n < -n := by omega
    go_enter Try.func32, Try.ntmps32
    go_wp2
    go_ret
    exact int_is rfl
theorem FnAddSaturated_long (a : Option Addr) (n c : Nat) (w : World) (h : 1048576 < n) (_hn : n ≤ 9223372036854775807) : Calls Try.prog 3 #[.slice a n c] w (LawPost w) := by
  go_enter Try.func3, Try.ntmps3
  go_wp2
  go_ret
  exact ⟨rfl, Below.refl _ _⟩
set_option maxRecDepth 100000 in
set_option maxHeartbeats 4000000 in
theorem FnAddSaturated_core (v : Value) (bl : List Int) (w : World) (h : BytesR w w.heap.size v bl) (hl : bl.length ≤ 1048576) :
    Calls Try.prog 3 #[v] w (LawPost w) := by
  have HO := Lib.hid (drawDrawAddSaturated_any v bl w h)
  obtain ⟨A0, c0, rfl, -⟩ := h
  go_enter Try.func3, Try.ntmps3
  go_wp2_with fail
  refine HO.out.mono ?_
  rintro e w1 ⟨a, b, rfl, ha, hb, hB⟩
  clear HO
  have fa := ha.fit
  have fb := hb.fit
  unfold smI at ha hb
  have HI := Lib.hid (fun W : World => iAddSaturated_any a b W fa fb)
  have HS := Lib.hid (fun W : World => sAddSaturated_any a b W)
  have HC := Lib.hid (fun W : World => iAddSaturated_any b a W fb fa)
  have HZ := Lib.hid (fun W : World => iAddSaturated_any a 0 W fa (fit_of (by omega)))
  rw [addS_comm b a] at HC
  have hnw := addS_word a b
  obtain ⟨n, hn⟩ : ∃ n, n = addS a b := ⟨_, rfl⟩
  rw [← hn] at HI HS HC hnw
  have HW := Lib.hid (fun W : World => lisWord_any n W)
  rw [hnw] at HW
  have Hn := Lib.hid hn
  clear hn fa fb
  go_wp2_with fail
  refine (HI.out _).mono ?_
  rintro e w2 ⟨rfl, hc⟩
  replace hB := hB.trans (hc.mono hB.size)
  clear hc
  go_wp2_with fail
  refine (HS.out _).mono ?_
  rintro e w3 ⟨rfl, rfl⟩
  go_wp2_with fail
  refine (HC.out _).mono ?_
  rintro e w4 ⟨rfl, hc⟩
  replace hB := hB.trans (hc.mono hB.size)
  clear hc
  go_wp2_with fail
  refine (HW.out _).mono ?_
  rintro e w5 ⟨rfl, rfl⟩
  have HA := Lib.hid (fun W : World => lisWord_any a W)
  have HBw := Lib.hid (fun W : World => lisWord_any b W)
  clear HI HS HC HW
  cases h1 : inW a
  · rw [h1] at HA
    obtain rfl : n = 0 := by rw [Hn.out]; exact addS_left h1
    go_wp2_with fail
    refine (HA.out _).mono ?_
    rintro e w6 ⟨rfl, rfl⟩
    go_wp2_with fail
    refine (alive_any _).mono ?_
    rintro e w7 ⟨rfl, hc⟩
    replace hB := hB.trans (hc.mono hB.size)
    clear hc
    go_wp2
    go_ret
    exact ⟨rfl, hB⟩
  · rw [h1] at HA
    go_wp2_with fail
    refine (HA.out _).mono ?_
    rintro e w6 ⟨rfl, rfl⟩
    cases h2 : inW b
    · rw [h2] at HBw
      obtain rfl : n = 0 := by rw [Hn.out]; exact addS_right h2
      go_wp2_with fail
      refine (HBw.out _).mono ?_
      rintro e w7 ⟨rfl, rfl⟩
      go_wp2_with fail
      refine (alive_any _).mono ?_
      rintro e w8 ⟨rfl, hc⟩
      replace hB := hB.trans (hc.mono hB.size)
      clear hc
      go_wp2
      go_ret
      exact ⟨rfl, hB⟩
    · rw [h2] at HBw
      rw [addS_zero h1] at HZ
      go_wp2_with fail
      refine (HBw.out _).mono ?_
      rintro e w7 ⟨rfl, rfl⟩
      have HD := Lib.hid (fun W : World => lisWord_any (a + b) W)
      rcases addS_cases h1 h2 with ⟨h3, h4⟩ | ⟨h3, h4⟩ | ⟨h3, h4⟩
      · rw [← Hn.out] at h4
        subst h4
        clear Hn
        rw [show inW (a + b) = false by unfold inW inB; simp; omega] at HD
        have q1 : ¬ (-32768 : Int) = a + b := by omega
        have q2 : ((-32768 : Int) == a + b) = false := by simpa using q1
        go_wp2_with fail
        refine (HZ.out _).mono ?_
        rintro e w8 ⟨rfl, hc⟩
        replace hB := hB.trans (hc.mono hB.size)
        clear hc
        go_wp2_with fail
        refine (HD.out _).mono ?_
        rintro e w9 ⟨rfl, rfl⟩
        go_wp2
        go_ret
        exact ⟨rfl, hB⟩
      · rw [← Hn.out] at h4
        subst h4
        clear Hn
        rw [show inW (a + b) = false by unfold inW inB; simp; omega] at HD
        have q1 : ¬ (32767 : Int) = a + b := by omega
        have q2 : ((32767 : Int) == a + b) = false := by simpa using q1
        go_wp2_with fail
        refine (HZ.out _).mono ?_
        rintro e w8 ⟨rfl, hc⟩
        replace hB := hB.trans (hc.mono hB.size)
        clear hc
        go_wp2_with fail
        refine (HD.out _).mono ?_
        rintro e w9 ⟨rfl, rfl⟩
        go_wp2
        go_ret
        exact ⟨rfl, hB⟩
      · rw [← Hn.out] at h4
        subst h4
        clear Hn
        rw [show inW (a + b) = true by unfold inW inB; simp; omega] at HD
        
        go_wp2_with fail
        refine (HZ.out _).mono ?_
        rintro e w8 ⟨rfl, hc⟩
        replace hB := hB.trans (hc.mono hB.size)
        clear hc
        go_wp2_with fail
        refine (HD.out _).mono ?_
        rintro e w9 ⟨rfl, rfl⟩
        go_wp2
        go_ret
        exact ⟨rfl, hB⟩
theorem FnScaleWord_long (a : Option Addr) (n c : Nat) (w : World) (h : 1048576 < n) (_hn : n ≤ 9223372036854775807) : Calls Try.prog 4 #[.slice a n c] w (LawPost w) := by
  go_enter Try.func4, Try.ntmps4
  go_wp2
  go_ret
  exact ⟨rfl, Below.refl _ _⟩
set_option maxRecDepth 100000 in
set_option maxHeartbeats 8000000 in
theorem FnScaleWord_core (v : Value) (bl : List Int) (w : World) (h : BytesR w w.heap.size v bl) (hl : bl.length ≤ 1048576) :
    Calls Try.prog 4 #[v] w (LawPost w) := by
  have HO := Lib.hid (drawDrawScaleWord_any v bl w h)
  obtain ⟨A0, c0, rfl, -⟩ := h
  go_enter Try.func4, Try.ntmps4
  go_wp2_with fail
  refine HO.out.mono ?_
  rintro e w1 ⟨r, a, b, lo, hi, rfl, hr, ha, hb, hlo, hhi, hB⟩
  clear HO
  have fr := hr.fit
  have fa := ha.fit
  have fb := hb.fit
  have fl := hlo.fit
  have fh := hhi.fit
  unfold smI at hr ha hb hlo hhi
  have HI := Lib.hid (fun W : World => iScaleWord_any r a b lo hi W fr fa fb fl fh)
  have HS := Lib.hid (fun W : World => sScaleWord_any r a b lo hi W)
  obtain ⟨n, hn⟩ : ∃ n, n = scaleS r a b lo hi := ⟨_, rfl⟩
  rw [← hn] at HI HS
  have Hn := Lib.hid hn
  clear hn
  go_wp2_with fail
  refine (HI.out _).mono ?_
  rintro e w2 ⟨rfl, hc⟩
  replace hB := hB.trans (hc.mono hB.size)
  clear hc
  go_wp2_with fail
  refine (HS.out _).mono ?_
  rintro e w3 ⟨rfl, rfl⟩
  clear HI HS
  have HW0 := Lib.hid (fun W : World => lisWord_any r W)
  cases h0 : inW r
  · rw [h0] at HW0
    obtain rfl : n = 0 := by rw [Hn.out]; exact scale_no (by unfold scaleOK; simp [h0])
    go_wp2_with fail
    refine (HW0.out _).mono ?_
    rintro e w4 ⟨rfl, rfl⟩
    go_wp2_with fail
    refine (alive_any _).mono ?_
    rintro e w5 ⟨rfl, hc⟩
    replace hB := hB.trans (hc.mono hB.size)
    clear hc
    go_wp2
    go_ret
    exact ⟨rfl, hB⟩
  · rw [h0] at HW0
    go_wp2_with fail
    refine (HW0.out _).mono ?_
    rintro e w4 ⟨rfl, rfl⟩
    have HW1 := Lib.hid (fun W : World => lisWord_any a W)
    cases h1 : inW a
    · rw [h1] at HW1
      obtain rfl : n = 0 := by rw [Hn.out]; exact scale_no (by unfold scaleOK; simp [h0, h1])
      go_wp2_with fail
      refine (HW1.out _).mono ?_
      rintro e w5 ⟨rfl, rfl⟩
      go_wp2_with fail
      refine (alive_any _).mono ?_
      rintro e w6 ⟨rfl, hc⟩
      replace hB := hB.trans (hc.mono hB.size)
      clear hc
      go_wp2
      go_ret
      exact ⟨rfl, hB⟩
    · rw [h1] at HW1
      go_wp2_with fail
      refine (HW1.out _).mono ?_
      rintro e w5 ⟨rfl, rfl⟩
      have HW2 := Lib.hid (fun W : World => lisWord_any b W)
      cases h2 : inW b
      · rw [h2] at HW2
        obtain rfl : n = 0 := by rw [Hn.out]; exact scale_no (by unfold scaleOK; simp [h0, h1, h2])
        go_wp2_with fail
        refine (HW2.out _).mono ?_
        rintro e w6 ⟨rfl, rfl⟩
        go_wp2_with fail
        refine (alive_any _).mono ?_
        rintro e w7 ⟨rfl, hc⟩
        replace hB := hB.trans (hc.mono hB.size)
        clear hc
        go_wp2
        go_ret
        exact ⟨rfl, hB⟩
      · rw [h2] at HW2
        go_wp2_with fail
        refine (HW2.out _).mono ?_
        rintro e w6 ⟨rfl, rfl⟩
        have HW3 := Lib.hid (fun W : World => lisWord_any lo W)
        cases h3 : inW lo
        · rw [h3] at HW3
          obtain rfl : n = 0 := by rw [Hn.out]; exact scale_no (by unfold scaleOK; simp [h0, h1, h2, h3])
          go_wp2_with fail
          refine (HW3.out _).mono ?_
          rintro e w7 ⟨rfl, rfl⟩
          go_wp2_with fail
          refine (alive_any _).mono ?_
          rintro e w8 ⟨rfl, hc⟩
          replace hB := hB.trans (hc.mono hB.size)
          clear hc
          go_wp2
          go_ret
          exact ⟨rfl, hB⟩
        · rw [h3] at HW3
          go_wp2_with fail
          refine (HW3.out _).mono ?_
          rintro e w7 ⟨rfl, rfl⟩
          have HW4 := Lib.hid (fun W : World => lisWord_any hi W)
          cases h4 : inW hi
          · rw [h4] at HW4
            obtain rfl : n = 0 := by rw [Hn.out]; exact scale_no (by unfold scaleOK; simp [h0, h1, h2, h3, h4])
            go_wp2_with fail
            refine (HW4.out _).mono ?_
            rintro e w8 ⟨rfl, rfl⟩
            go_wp2_with fail
            refine (alive_any _).mono ?_
            rintro e w9 ⟨rfl, hc⟩
            replace hB := hB.trans (hc.mono hB.size)
            clear hc
            go_wp2
            go_ret
            exact ⟨rfl, hB⟩
          · rw [h4] at HW4
            go_wp2_with fail
            refine (HW4.out _).mono ?_
            rintro e w8 ⟨rfl, rfl⟩
            by_cases h5 : a < b
            · have hok := scale_ok h0 h1 h2 h3 h4 h5
              have HA := Lib.hid (fun W : World => iScaleWord_any a a b lo hi W fa fa fb fl fh)
              have HB2 := Lib.hid (fun W : World => iScaleWord_any b a b lo hi W fb fa fb fl fh)
              rw [scale_a hok] at HA
              rw [scale_b hok] at HB2
              obtain ⟨m, hm, hmr, hmw⟩ : ∃ m : Int, ((r + 1 < 32767 ∧ m = r + 1) ∨ (¬ r + 1 < 32767 ∧ m = 32767)) ∧ r ≤ m ∧ inW m = true := by
                have := inW_bd h0
                by_cases hm : r + 1 < 32767
                · exact ⟨r + 1, .inl ⟨hm, rfl⟩, by omega, inW_of (by omega)⟩
                · exact ⟨32767, .inr ⟨hm, rfl⟩, by omega, rfl⟩
              have hok2 := scale_ok hmw h1 h2 h3 h4 h5
              have fm : fitI m := fit_of (by have := inW_bd hmw; omega)
              have HM := Lib.hid (fun W : World => iScaleWord_any m a b lo hi W fm fa fb fl fh)
              have e1 : lo ≤ hi → lo ≤ n ∧ n ≤ hi := fun h => by rw [Hn.out]; exact scale_up hok h
              have e2 : hi ≤ lo → hi ≤ n ∧ n ≤ lo := fun h => by rw [Hn.out]; exact scale_down hok h
              have e3 : lo ≤ hi → n ≤ scaleS m a b lo hi := fun h => by rw [Hn.out]; exact scale_mono_up hok hok2 hmr h
              have e4 : hi ≤ lo → scaleS m a b lo hi ≤ n := fun h => by rw [Hn.out]; exact scale_mono_down hok hok2 hmr h
              obtain ⟨q, hq⟩ : ∃ q, q = scaleS m a b lo hi := ⟨_, rfl⟩
              rw [← hq] at HM e3 e4
              clear hq Hn hok hok2 hmw fm fr fa fb fl fh
              have hl3 : lo < hi ∨ lo = hi ∨ hi < lo := by omega
              rcases hm with ⟨hm, rfl⟩ | ⟨hm, rfl⟩
              all_goals
                rcases hl3 with hl | rfl | hl
                · obtain ⟨k1, k2⟩ := e1 (by omega)
                  have k3 := e3 (by omega)
                  clear e1 e2 e3 e4
                  go_wp2_with fail
                  refine (HM.out _).mono ?_
                  rintro e w9 ⟨rfl, hc⟩
                  replace hB := hB.trans (hc.mono hB.size)
                  clear hc
                  go_wp2_with fail
                  refine (HA.out _).mono ?_
                  rintro e w10 ⟨rfl, hc⟩
                  replace hB := hB.trans (hc.mono hB.size)
                  clear hc
                  go_wp2_with fail
                  refine (HB2.out _).mono ?_
                  rintro e w11 ⟨rfl, hc⟩
                  replace hB := hB.trans (hc.mono hB.size)
                  clear hc
                  go_wp2
                  go_ret
                  exact ⟨rfl, hB⟩
                · obtain ⟨k1, k2⟩ := e1 (by omega)
                  have k3 := e3 (by omega)
                  obtain rfl : n = lo := by omega
                  clear e1 e2 e3 e4
                  go_wp2_with fail
                  refine (HM.out _).mono ?_
                  rintro e w9 ⟨rfl, hc⟩
                  replace hB := hB.trans (hc.mono hB.size)
                  clear hc
                  go_wp2_with fail
                  refine (HA.out _).mono ?_
                  rintro e w10 ⟨rfl, hc⟩
                  replace hB := hB.trans (hc.mono hB.size)
                  clear hc
                  go_wp2_with fail
                  refine (HB2.out _).mono ?_
                  rintro e w11 ⟨rfl, hc⟩
                  replace hB := hB.trans (hc.mono hB.size)
                  clear hc
                  go_wp2
                  go_ret
                  exact ⟨rfl, hB⟩
                · obtain ⟨k1, k2⟩ := e2 (by omega)
                  have k3 := e4 (by omega)
                  clear e1 e2 e3 e4
                  go_wp2_with fail
                  refine (HM.out _).mono ?_
                  rintro e w9 ⟨rfl, hc⟩
                  replace hB := hB.trans (hc.mono hB.size)
                  clear hc
                  go_wp2_with fail
                  refine (HA.out _).mono ?_
                  rintro e w10 ⟨rfl, hc⟩
                  replace hB := hB.trans (hc.mono hB.size)
                  clear hc
                  go_wp2_with fail
                  refine (HB2.out _).mono ?_
                  rintro e w11 ⟨rfl, hc⟩
                  replace hB := hB.trans (hc.mono hB.size)
                  clear hc
                  go_wp2
                  go_ret
                  exact ⟨rfl, hB⟩
            · have h5 : b ≤ a := by omega
              obtain rfl : n = 0 := by rw [Hn.out]; exact scale_no (by unfold scaleOK; rw [decide_eq_false (by omega)]; simp)
              go_wp2_with fail
              refine (alive_any _).mono ?_
              rintro e w9 ⟨rfl, hc⟩
              replace hB := hB.trans (hc.mono hB.size)
              clear hc
              go_wp2
              go_ret
              exact ⟨rfl, hB⟩
theorem iHyst_b (s : Bool) (x lo hi : Int) (q : Bool) (W : World) (hx : smI x) (hl : smI lo) (hh : smI hi) (h : hystS s x lo hi = q) : Calls Try.prog 27 #[.bool s, .int .i64 x, .int .i64 lo, .int .i64 hi] W (BoolP q W) := by
  rw [← h]; exact iHysteresis_any s x lo hi W hx.fit hl.fit hh.fit
theorem sHyst_b (s : Bool) (x lo hi : Int) (q : Bool) (W : World) (h : hystS s x lo hi = q) : Calls Try.prog 28 #[.bool s, .int .i64 x, .int .i64 lo, .int .i64 hi] W (BoolIs q W) := by
  rw [← h]; exact sHysteresis_any s x lo hi W
theorem iSetD_q (s a r q : Bool) (W : World) (h : setD s a r = q) : Calls Try.prog 43 #[.bool s, .bool a, .bool r] W fun e w' => e = .returned (.bool q) ∧ W = w' := by
  rw [← h]; exact iSetDominant_any s a r W
theorem hyst_off {s : Bool} {x lo hi : Int} (h : hi ≤ lo) : hystS s x lo hi = s := by unfold hystS; rw [if_pos h]
theorem hyst_hi {s : Bool} {x lo hi : Int} (h : lo < hi) (hx : hi ≤ x) : hystS s x lo hi = true := by unfold hystS; rw [if_neg (by omega), decide_eq_true hx]; rfl
theorem hyst_lo {s : Bool} {x lo hi : Int} (h : lo < hi) (hx : x ≤ lo) : hystS s x lo hi = false := by unfold hystS; rw [if_neg (by omega), decide_eq_false (by omega), decide_eq_false (by omega)]; simp
theorem hyst_mid {s : Bool} {x lo hi : Int} (h : lo < hi) (h1 : lo < x) (h2 : x < hi) : hystS s x lo hi = s := by unfold hystS; rw [if_neg (by omega), decide_eq_false (by omega), decide_eq_true h1]; simp
theorem FnHysteresis_long (a : Option Addr) (n c : Nat) (w : World) (h : 1048576 < n) (_hn : n ≤ 9223372036854775807) : Calls Try.prog 5 #[.slice a n c] w (LawPost w) := by
  go_enter Try.func5, Try.ntmps5
  go_wp2
  go_ret
  exact ⟨rfl, Below.refl _ _⟩
set_option maxRecDepth 100000 in
set_option maxHeartbeats 4000000 in
theorem FnHysteresis_core (v : Value) (bl : List Int) (w : World) (h : BytesR w w.heap.size v bl) (hl : bl.length ≤ 1048576) :
    Calls Try.prog 5 #[v] w (LawPost w) := by
  have HO := Lib.hid (drawDrawHysteresis_any v bl w h)
  obtain ⟨A0, c0, rfl, -⟩ := h
  go_enter Try.func5, Try.ntmps5
  go_wp2_with fail
  refine HO.out.mono ?_
  rintro e w1 ⟨s, x, lo, hi, rfl, hx, hlo, hhi, hB⟩
  clear HO
  have Hx := Lib.hid hx
  have Hlo := Lib.hid hlo
  have Hhi := Lib.hid hhi
  unfold smI at hx hlo hhi
  by_cases h1 : hi ≤ lo
  · go_wp2_with fail
    refine (iHyst_b s x lo hi s _ Hx.out Hlo.out Hhi.out (hyst_off h1)).mono ?_
    rintro e w2 ⟨rfl, hc⟩
    replace hB := hB.trans (hc.mono hB.size)
    clear hc
    go_wp2_with fail
    refine (sHyst_b s x lo hi s _ (hyst_off h1)).mono ?_
    rintro e w3 ⟨rfl, rfl⟩
    go_wp2_with fail
    refine (alive_any _).mono ?_
    rintro e w4 ⟨rfl, hc⟩
    replace hB := hB.trans (hc.mono hB.size)
    clear hc
    go_wp2
    go_ret
    exact ⟨rfl, hB⟩
  · have h2 : lo < hi := by omega
    clear h1
    have p1 : hi ≤ x ∨ x ≤ lo ∨ (lo < x ∧ x < hi) := by omega
    rcases p1 with p1 | p1 | ⟨p1, p2⟩
    · go_wp2_with fail
      refine (iHyst_b s x lo hi true _ Hx.out Hlo.out Hhi.out (hyst_hi h2 p1)).mono ?_
      rintro e w2 ⟨rfl, hc⟩
      replace hB := hB.trans (hc.mono hB.size)
      clear hc
      go_wp2_with fail
      refine (sHyst_b s x lo hi true _ (hyst_hi h2 p1)).mono ?_
      rintro e w3 ⟨rfl, rfl⟩
      go_wp2_with fail
      refine (iHyst_b s hi lo hi true _ Hhi.out Hlo.out Hhi.out (hyst_hi h2 (Int.le_refl _))).mono ?_
      rintro e w4 ⟨rfl, hc⟩
      replace hB := hB.trans (hc.mono hB.size)
      clear hc
      go_wp2_with fail
      refine (iHyst_b s lo lo hi false _ Hlo.out Hlo.out Hhi.out (hyst_lo h2 (Int.le_refl _))).mono ?_
      rintro e w5 ⟨rfl, hc⟩
      replace hB := hB.trans (hc.mono hB.size)
      clear hc
      go_wp2_with fail
      refine (iHyst_b true x lo hi true _ Hx.out Hlo.out Hhi.out (hyst_hi h2 p1)).mono ?_
      rintro e w6 ⟨rfl, hc⟩
      replace hB := hB.trans (hc.mono hB.size)
      clear hc
      go_wp2
      go_ret
      exact ⟨rfl, hB⟩
    · go_wp2_with fail
      refine (iHyst_b s x lo hi false _ Hx.out Hlo.out Hhi.out (hyst_lo h2 p1)).mono ?_
      rintro e w2 ⟨rfl, hc⟩
      replace hB := hB.trans (hc.mono hB.size)
      clear hc
      go_wp2_with fail
      refine (sHyst_b s x lo hi false _ (hyst_lo h2 p1)).mono ?_
      rintro e w3 ⟨rfl, rfl⟩
      go_wp2_with fail
      refine (iHyst_b s hi lo hi true _ Hhi.out Hlo.out Hhi.out (hyst_hi h2 (Int.le_refl _))).mono ?_
      rintro e w4 ⟨rfl, hc⟩
      replace hB := hB.trans (hc.mono hB.size)
      clear hc
      go_wp2_with fail
      refine (iHyst_b s lo lo hi false _ Hlo.out Hlo.out Hhi.out (hyst_lo h2 (Int.le_refl _))).mono ?_
      rintro e w5 ⟨rfl, hc⟩
      replace hB := hB.trans (hc.mono hB.size)
      clear hc
      go_wp2_with fail
      refine (iHyst_b false x lo hi false _ Hx.out Hlo.out Hhi.out (hyst_lo h2 p1)).mono ?_
      rintro e w6 ⟨rfl, hc⟩
      replace hB := hB.trans (hc.mono hB.size)
      clear hc
      go_wp2
      go_ret
      exact ⟨rfl, hB⟩
    · go_wp2_with fail
      refine (iHyst_b s x lo hi s _ Hx.out Hlo.out Hhi.out (hyst_mid h2 p1 p2)).mono ?_
      rintro e w2 ⟨rfl, hc⟩
      replace hB := hB.trans (hc.mono hB.size)
      clear hc
      go_wp2_with fail
      refine (sHyst_b s x lo hi s _ (hyst_mid h2 p1 p2)).mono ?_
      rintro e w3 ⟨rfl, rfl⟩
      go_wp2_with fail
      refine (iHyst_b s hi lo hi true _ Hhi.out Hlo.out Hhi.out (hyst_hi h2 (Int.le_refl _))).mono ?_
      rintro e w4 ⟨rfl, hc⟩
      replace hB := hB.trans (hc.mono hB.size)
      clear hc
      go_wp2_with fail
      refine (iHyst_b s lo lo hi false _ Hlo.out Hlo.out Hhi.out (hyst_lo h2 (Int.le_refl _))).mono ?_
      rintro e w5 ⟨rfl, hc⟩
      replace hB := hB.trans (hc.mono hB.size)
      clear hc
      go_wp2_with fail
      refine (iHyst_b s x lo hi s _ Hx.out Hlo.out Hhi.out (hyst_mid h2 p1 p2)).mono ?_
      rintro e w6 ⟨rfl, hc⟩
      replace hB := hB.trans (hc.mono hB.size)
      clear hc
      go_wp2
      go_ret
      exact ⟨rfl, hB⟩
theorem FnPumpLadder_long (a : Option Addr) (n c : Nat) (w : World) (h : 1048576 < n) (_hn : n ≤ 9223372036854775807) : Calls Try.prog 10 #[.slice a n c] w (LawPost w) := by
  go_enter Try.func10, Try.ntmps10
  go_wp2
  go_ret
  exact ⟨rfl, Below.refl _ _⟩
set_option maxRecDepth 100000 in
set_option maxHeartbeats 4000000 in
theorem FnPumpLadder_core (v : Value) (bl : List Int) (w : World) (h : BytesR w w.heap.size v bl) (hl : bl.length ≤ 1048576) :
    Calls Try.prog 10 #[v] w (LawPost w) := by
  have HO := Lib.hid (drawDrawHysteresis_any v bl w h)
  obtain ⟨A0, c0, rfl, -⟩ := h
  go_enter Try.func10, Try.ntmps10
  go_wp2_with fail
  refine HO.out.mono ?_
  rintro e w1 ⟨s, x, lo, hi, rfl, hx, hlo, hhi, hB⟩
  clear HO
  have Hx := Lib.hid hx
  have Hlo := Lib.hid hlo
  have Hhi := Lib.hid hhi
  unfold smI at hx hlo hhi
  by_cases h1 : hi ≤ lo
  · go_wp2_with fail
    refine (iHyst_b s x lo hi s _ Hx.out Hlo.out Hhi.out (hyst_off h1)).mono ?_
    rintro e w2 ⟨rfl, hc⟩
    replace hB := hB.trans (hc.mono hB.size)
    clear hc
    go_wp2_with fail
    refine (alive_any _).mono ?_
    rintro e w3 ⟨rfl, hc⟩
    replace hB := hB.trans (hc.mono hB.size)
    clear hc
    go_wp2
    go_ret
    exact ⟨rfl, hB⟩
  · have h2 : lo < hi := by omega
    clear h1
    have p1 : hi ≤ x ∨ x ≤ lo ∨ (lo < x ∧ x < hi) := by omega
    rcases p1 with p1 | p1 | ⟨p1, p2⟩
    · cases s
      · go_wp2_with fail
        refine (iHyst_b false x lo hi true _ Hx.out Hlo.out Hhi.out (hyst_hi h2 p1)).mono ?_
        rintro e w2 ⟨rfl, hc⟩
        replace hB := hB.trans (hc.mono hB.size)
        clear hc
        go_wp2_with fail
        refine (iSetD_q _ _ _ true _ ?hq).mono ?_
        case hq => first | rfl | (simp [setD]; done) | (simp [setD]; omega)
        rintro e w9 ⟨rfl, rfl⟩
        go_wp2_with fail
        refine (iHyst_b false x lo hi true _ Hx.out Hlo.out Hhi.out (hyst_hi h2 p1)).mono ?_
        rintro e w3 ⟨rfl, hc⟩
        replace hB := hB.trans (hc.mono hB.size)
        clear hc
        go_wp2_with fail
        refine (sHyst_b false x lo hi true _ (hyst_hi h2 p1)).mono ?_
        rintro e w4 ⟨rfl, rfl⟩
        go_wp2
        go_ret
        exact ⟨rfl, hB⟩
      · go_wp2_with fail
        refine (iHyst_b true x lo hi true _ Hx.out Hlo.out Hhi.out (hyst_hi h2 p1)).mono ?_
        rintro e w2 ⟨rfl, hc⟩
        replace hB := hB.trans (hc.mono hB.size)
        clear hc
        go_wp2_with fail
        refine (iSetD_q _ _ _ true _ ?hq).mono ?_
        case hq => first | rfl | (simp [setD]; done) | (simp [setD]; omega)
        rintro e w9 ⟨rfl, rfl⟩
        go_wp2_with fail
        refine (iHyst_b true x lo hi true _ Hx.out Hlo.out Hhi.out (hyst_hi h2 p1)).mono ?_
        rintro e w3 ⟨rfl, hc⟩
        replace hB := hB.trans (hc.mono hB.size)
        clear hc
        go_wp2_with fail
        refine (sHyst_b true x lo hi true _ (hyst_hi h2 p1)).mono ?_
        rintro e w4 ⟨rfl, rfl⟩
        go_wp2
        go_ret
        exact ⟨rfl, hB⟩
    · cases s
      · go_wp2_with fail
        refine (iHyst_b false x lo hi false _ Hx.out Hlo.out Hhi.out (hyst_lo h2 p1)).mono ?_
        rintro e w2 ⟨rfl, hc⟩
        replace hB := hB.trans (hc.mono hB.size)
        clear hc
        go_wp2_with fail
        refine (iSetD_q _ _ _ false _ ?hq).mono ?_
        case hq => first | rfl | (simp [setD]; done) | (simp [setD]; omega)
        rintro e w9 ⟨rfl, rfl⟩
        go_wp2_with fail
        refine (iHyst_b false x lo hi false _ Hx.out Hlo.out Hhi.out (hyst_lo h2 p1)).mono ?_
        rintro e w3 ⟨rfl, hc⟩
        replace hB := hB.trans (hc.mono hB.size)
        clear hc
        go_wp2_with fail
        refine (sHyst_b false x lo hi false _ (hyst_lo h2 p1)).mono ?_
        rintro e w4 ⟨rfl, rfl⟩
        go_wp2
        go_ret
        exact ⟨rfl, hB⟩
      · go_wp2_with fail
        refine (iHyst_b true x lo hi false _ Hx.out Hlo.out Hhi.out (hyst_lo h2 p1)).mono ?_
        rintro e w2 ⟨rfl, hc⟩
        replace hB := hB.trans (hc.mono hB.size)
        clear hc
        go_wp2_with fail
        refine (iSetD_q _ _ _ false _ ?hq).mono ?_
        case hq => first | rfl | (simp [setD]; done) | (simp [setD]; omega)
        rintro e w9 ⟨rfl, rfl⟩
        go_wp2_with fail
        refine (iHyst_b true x lo hi false _ Hx.out Hlo.out Hhi.out (hyst_lo h2 p1)).mono ?_
        rintro e w3 ⟨rfl, hc⟩
        replace hB := hB.trans (hc.mono hB.size)
        clear hc
        go_wp2_with fail
        refine (sHyst_b true x lo hi false _ (hyst_lo h2 p1)).mono ?_
        rintro e w4 ⟨rfl, rfl⟩
        go_wp2
        go_ret
        exact ⟨rfl, hB⟩
    · cases s
      · go_wp2_with fail
        refine (iHyst_b false x lo hi false _ Hx.out Hlo.out Hhi.out (hyst_mid h2 p1 p2)).mono ?_
        rintro e w2 ⟨rfl, hc⟩
        replace hB := hB.trans (hc.mono hB.size)
        clear hc
        go_wp2_with fail
        refine (iSetD_q _ _ _ false _ ?hq).mono ?_
        case hq => first | rfl | (simp [setD]; done) | (simp [setD]; omega)
        rintro e w9 ⟨rfl, rfl⟩
        go_wp2_with fail
        refine (iHyst_b false x lo hi false _ Hx.out Hlo.out Hhi.out (hyst_mid h2 p1 p2)).mono ?_
        rintro e w3 ⟨rfl, hc⟩
        replace hB := hB.trans (hc.mono hB.size)
        clear hc
        go_wp2_with fail
        refine (sHyst_b false x lo hi false _ (hyst_mid h2 p1 p2)).mono ?_
        rintro e w4 ⟨rfl, rfl⟩
        go_wp2
        go_ret
        exact ⟨rfl, hB⟩
      · go_wp2_with fail
        refine (iHyst_b true x lo hi true _ Hx.out Hlo.out Hhi.out (hyst_mid h2 p1 p2)).mono ?_
        rintro e w2 ⟨rfl, hc⟩
        replace hB := hB.trans (hc.mono hB.size)
        clear hc
        go_wp2_with fail
        refine (iSetD_q _ _ _ true _ ?hq).mono ?_
        case hq => first | rfl | (simp [setD]; done) | (simp [setD]; omega)
        rintro e w9 ⟨rfl, rfl⟩
        go_wp2_with fail
        refine (iHyst_b true x lo hi true _ Hx.out Hlo.out Hhi.out (hyst_mid h2 p1 p2)).mono ?_
        rintro e w3 ⟨rfl, hc⟩
        replace hB := hB.trans (hc.mono hB.size)
        clear hc
        go_wp2_with fail
        refine (sHyst_b true x lo hi true _ (hyst_mid h2 p1 p2)).mono ?_
        rintro e w4 ⟨rfl, rfl⟩
        go_wp2
        go_ret
        exact ⟨rfl, hB⟩
theorem ramp_ok {n t r : Int} (h1 : inW n = true) (h2 : inW t = true) (h3 : 0 ≤ r ∧ r ≤ 32767) : (n + r < t ∧ rampS n t r = n + r) ∨ (t < n - r ∧ rampS n t r = n - r) ∨ ((n - r ≤ t ∧ t ≤ n + r) ∧ rampS n t r = t) := by
  unfold rampS inB; rw [h1, h2]; unfold clipI; simp [h3]; omega
theorem ramp_no1 {n t r : Int} (h : inW n = false) : rampS n t r = 0 := by unfold rampS; rw [h]; rfl
theorem ramp_no2 {n t r : Int} (h : inW t = false) : rampS n t r = 0 := by unfold rampS; rw [h]; simp
theorem ramp_no3 {n t r : Int} (h : r < 0 ∨ 32767 < r) : rampS n t r = 0 := by unfold rampS inB; simp; omega
theorem dead_no1 {x k : Int} (h : inW x = false) : deadS x k = 0 := by unfold deadS; rw [h]; rfl
theorem dead_no2 {x k : Int} (h : k < 0 ∨ 32767 < k) : deadS x k = 0 := by unfold deadS inB; simp; omega
theorem absI_cases (x : Int) : (0 ≤ x ∧ absI x = x) ∨ (x < 0 ∧ absI x = -x) := by unfold absI; split <;> omega
theorem FnRampStep_long (a : Option Addr) (n c : Nat) (w : World) (h : 1048576 < n) (_hn : n ≤ 9223372036854775807) : Calls Try.prog 6 #[.slice a n c] w (LawPost w) := by
  go_enter Try.func6, Try.ntmps6
  go_wp2
  go_ret
  exact ⟨rfl, Below.refl _ _⟩
set_option maxRecDepth 100000 in
set_option maxHeartbeats 8000000 in
theorem FnRampStep_core (v : Value) (bl : List Int) (w : World) (h : BytesR w w.heap.size v bl) (hl : bl.length ≤ 1048576) :
    Calls Try.prog 6 #[v] w (LawPost w) := by
  have HO := Lib.hid (drawDrawRampStep_any v bl w h)
  obtain ⟨A0, c0, rfl, -⟩ := h
  go_enter Try.func6, Try.ntmps6
  go_wp2_with fail
  refine HO.out.mono ?_
  rintro e w1 ⟨m, t, r, rfl, hm, ht, hr, hB⟩
  clear HO
  have fm := hm.fit
  have ft := ht.fit
  have fr := hr.fit
  unfold smI at hm ht hr
  have HI := Lib.hid (fun W : World => iRampStep_any m t r W fm ft fr)
  have HS := Lib.hid (fun W : World => sRampStep_any m t r W)
  obtain ⟨n, hn⟩ : ∃ n, n = rampS m t r := ⟨_, rfl⟩
  rw [← hn] at HI HS
  have Hn := Lib.hid hn
  clear hn fm ft fr
  go_wp2_with fail
  refine (HI.out _).mono ?_
  rintro e w2 ⟨rfl, hc⟩
  replace hB := hB.trans (hc.mono hB.size)
  clear hc
  go_wp2_with fail
  refine (HS.out _).mono ?_
  rintro e w3 ⟨rfl, rfl⟩
  have HM := Lib.hid (fun W : World => lisWord_any m W)
  have HT := Lib.hid (fun W : World => lisWord_any t W)
  clear HI HS
  cases h1 : inW m
  · rw [h1] at HM
    obtain rfl : n = 0 := by rw [Hn.out]; exact ramp_no1 h1
    go_wp2_with fail
    refine (HM.out _).mono ?_
    rintro e w4 ⟨rfl, rfl⟩
    go_wp2_with fail
    refine (alive_any _).mono ?_
    rintro e w5 ⟨rfl, hc⟩
    replace hB := hB.trans (hc.mono hB.size)
    clear hc
    go_wp2
    go_ret
    exact ⟨rfl, hB⟩
  · rw [h1] at HM
    go_wp2_with fail
    refine (HM.out _).mono ?_
    rintro e w4 ⟨rfl, rfl⟩
    cases h2 : inW t
    · rw [h2] at HT
      obtain rfl : n = 0 := by rw [Hn.out]; exact ramp_no2 h2
      go_wp2_with fail
      refine (HT.out _).mono ?_
      rintro e w5 ⟨rfl, rfl⟩
      go_wp2_with fail
      refine (alive_any _).mono ?_
      rintro e w6 ⟨rfl, hc⟩
      replace hB := hB.trans (hc.mono hB.size)
      clear hc
      go_wp2
      go_ret
      exact ⟨rfl, hB⟩
    · rw [h2] at HT
      go_wp2_with fail
      refine (HT.out _).mono ?_
      rintro e w5 ⟨rfl, rfl⟩
      by_cases h3 : r < 0
      · obtain rfl : n = 0 := by rw [Hn.out]; exact ramp_no3 (.inl h3)
        go_wp2_with fail
        refine (alive_any _).mono ?_
        rintro e w6 ⟨rfl, hc⟩
        replace hB := hB.trans (hc.mono hB.size)
        clear hc
        go_wp2
        go_ret
        exact ⟨rfl, hB⟩
      · by_cases h4 : 32767 < r
        · obtain rfl : n = 0 := by rw [Hn.out]; exact ramp_no3 (.inr h4)
          go_wp2_with fail
          refine (alive_any _).mono ?_
          rintro e w6 ⟨rfl, hc⟩
          replace hB := hB.trans (hc.mono hB.size)
          clear hc
          go_wp2
          go_ret
          exact ⟨rfl, hB⟩
        · have hc := ramp_ok h1 h2 (show 0 ≤ r ∧ r ≤ 32767 by omega)
          rw [← Hn.out] at hc
          clear Hn h1 h2 HM HT
          have g1 := absI_cases (n - m)
          have g2 := absI_cases (t - n)
          have g3 := absI_cases (t - m)
          have H1 := Lib.hid (fun W : World => labs_any (n - m) W (by omega))
          have H2 := Lib.hid (fun W : World => labs_any (t - n) W (by omega))
          have H3 := Lib.hid (fun W : World => labs_any (t - m) W (by omega))
          obtain ⟨u1, hu1⟩ : ∃ u, u = absI (n - m) := ⟨_, rfl⟩
          obtain ⟨u2, hu2⟩ : ∃ u, u = absI (t - n) := ⟨_, rfl⟩
          obtain ⟨u3, hu3⟩ : ∃ u, u = absI (t - m) := ⟨_, rfl⟩
          rw [← hu1] at g1 H1
          rw [← hu2] at g2 H2
          rw [← hu3] at g3 H3
          clear hu1 hu2 hu3
          have k1 : u1 ≤ r := by omega
          have k2 : (0 < u3 - r ∧ u2 = u3 - r) ∨ (u3 - r ≤ 0 ∧ u2 = 0) := by omega
          have k3 : (m < t ∧ m ≤ n ∧ n ≤ t) ∨ (m = t ∧ n = t) ∨ (t < m ∧ t ≤ n ∧ n ≤ m) := by omega
          have k4 : -200000 ≤ n ∧ n ≤ 200000 := by omega
          have k5 : -200000 ≤ u3 ∧ u3 ≤ 200000 := by omega
          clear hc g1 g2 g3
          rcases k2 with ⟨k2, k6⟩ | ⟨k2, k6⟩
          all_goals
            rcases k3 with ⟨k7, k8, k9⟩ | ⟨k7, k8⟩ | ⟨k7, k8, k9⟩
            all_goals
              try (subst k7; subst k8; simp only [Int.sub_self] at H1 H2 H3)
              have k6b : (u2 == u3 - r) = true ∨ u2 = 0 := by first | exact .inl (by simpa using k6) | exact .inr k6
              subst k6
              go_wp2_with fail
              refine (H1.out _).mono ?_
              rintro e w6 ⟨rfl, rfl⟩
              go_wp2_with fail
              refine (H2.out _).mono ?_
              rintro e w7 ⟨rfl, rfl⟩
              go_wp2_with fail
              refine (H3.out _).mono ?_
              rintro e w8 ⟨rfl, rfl⟩
              go_wp2
              go_ret
              exact ⟨rfl, hB⟩
theorem FnDeadBand_long (a : Option Addr) (n c : Nat) (w : World) (h : 1048576 < n) (_hn : n ≤ 9223372036854775807) : Calls Try.prog 7 #[.slice a n c] w (LawPost w) := by
  go_enter Try.func7, Try.ntmps7
  go_wp2
  go_ret
  exact ⟨rfl, Below.refl _ _⟩
set_option maxRecDepth 100000 in
set_option maxHeartbeats 8000000 in
theorem FnDeadBand_core (v : Value) (bl : List Int) (w : World) (h : BytesR w w.heap.size v bl) (hl : bl.length ≤ 1048576) :
    Calls Try.prog 7 #[v] w (LawPost w) := by
  have HO := Lib.hid (drawDrawDeadBand_any v bl w h)
  obtain ⟨A0, c0, rfl, -⟩ := h
  go_enter Try.func7, Try.ntmps7
  go_wp2_with fail
  refine HO.out.mono ?_
  rintro e w1 ⟨x, k, rfl, hx, hk, hB⟩
  clear HO
  have fx := hx.fit
  have fk := hk.fit
  unfold smI at hx hk
  have HI := Lib.hid (fun W : World => iDeadBand_any x k W fx fk)
  have HS := Lib.hid (fun W : World => sDeadBand_any x k W)
  obtain ⟨n, hn⟩ : ∃ n, n = deadS x k := ⟨_, rfl⟩
  rw [← hn] at HI HS
  have Hn := Lib.hid hn
  clear hn fx
  go_wp2_with fail
  refine (HI.out _).mono ?_
  rintro e w2 ⟨rfl, hc⟩
  replace hB := hB.trans (hc.mono hB.size)
  clear hc
  go_wp2_with fail
  refine (HS.out _).mono ?_
  rintro e w3 ⟨rfl, rfl⟩
  have HX := Lib.hid (fun W : World => lisWord_any x W)
  clear HI HS
  cases h1 : inW x
  · rw [h1] at HX
    obtain rfl : n = 0 := by rw [Hn.out]; exact dead_no1 h1
    go_wp2_with fail
    refine (HX.out _).mono ?_
    rintro e w4 ⟨rfl, rfl⟩
    go_wp2_with fail
    refine (alive_any _).mono ?_
    rintro e w5 ⟨rfl, hc⟩
    replace hB := hB.trans (hc.mono hB.size)
    clear hc
    go_wp2
    go_ret
    exact ⟨rfl, hB⟩
  · rw [h1] at HX
    go_wp2_with fail
    refine (HX.out _).mono ?_
    rintro e w4 ⟨rfl, rfl⟩
    by_cases h3 : k < 0
    · obtain rfl : n = 0 := by rw [Hn.out]; exact dead_no2 (.inl h3)
      go_wp2_with fail
      refine (alive_any _).mono ?_
      rintro e w5 ⟨rfl, hc⟩
      replace hB := hB.trans (hc.mono hB.size)
      clear hc
      go_wp2
      go_ret
      exact ⟨rfl, hB⟩
    · by_cases h4 : 32767 < k
      · obtain rfl : n = 0 := by rw [Hn.out]; exact dead_no2 (.inr h4)
        go_wp2_with fail
        refine (alive_any _).mono ?_
        rintro e w5 ⟨rfl, hc⟩
        replace hB := hB.trans (hc.mono hB.size)
        clear hc
        go_wp2
        go_ret
        exact ⟨rfl, hB⟩
      · have hb := inW_bd h1
        have h2 : inB k 0 32767 = true := by unfold inB; simp; omega
        have hv := deadS_val h1 h2
        have hneg : ¬ x = -32768 → deadS (-x) k = -n := fun h => by
          rw [Hn.out, deadS_val (inW_of (by omega)) h2, deadS_val h1 h2]
          repeat' split
          all_goals omega
        rw [← Hn.out] at hv
        have HN := Lib.hid (fun (W : World) (h : ¬ x = -32768) => by have := iDeadBand_any (-x) k W (fit_of (by omega)) fk; rw [hneg h] at this; exact this)
        have g1 := absI_cases n
        have g2 := absI_cases x
        have k4 : -200000 ≤ n ∧ n ≤ 200000 := by split at hv <;> split at hv <;> omega
        have H1 := Lib.hid (fun W : World => labs_any n W (by omega))
        have H2 := Lib.hid (fun W : World => labs_any x W (by omega))
        obtain ⟨u1, hu1⟩ : ∃ u, u = absI n := ⟨_, rfl⟩
        obtain ⟨u2, hu2⟩ : ∃ u, u = absI x := ⟨_, rfl⟩
        rw [← hu1] at g1 H1
        rw [← hu2] at g2 H2
        clear hu1 hu2 Hn hneg HX h1 h2
        have k1 : (n = 0 ∧ u1 = 0 ∧ u2 - k ≤ 0) ∨ (x < 0 ∧ n < 0 ∧ 0 < u2 - k ∧ u1 = u2 - k) ∨ (0 < x ∧ 0 < n ∧ 0 < u2 - k ∧ u1 = u2 - k) := by split at hv <;> split at hv <;> omega
        have k5 : -200000 ≤ u2 ∧ u2 ≤ 200000 := by omega
        clear hv g1 g2
        by_cases hx0 : x = -32768
        · subst hx0
          clear HN
          rcases k1 with ⟨k1, k2, k3⟩ | ⟨k1, k2, k3, k6⟩ | ⟨k1, k2, k3, k6⟩
          · subst k1
            subst k2
            go_wp2_with fail
            refine (H1.out _).mono ?_
            rintro e w5 ⟨rfl, rfl⟩
            go_wp2_with fail
            refine (H2.out _).mono ?_
            rintro e w6 ⟨rfl, rfl⟩
            go_wp2
            go_ret
            exact ⟨rfl, hB⟩
          · subst k6
            have q0 : (n == 0) = false := by rw [beq_eq_false_iff_ne]; omega
            have q1 : decide (0 < n) = false := by simp; omega
            go_wp2_with fail
            refine (H1.out _).mono ?_
            rintro e w5 ⟨rfl, rfl⟩
            go_wp2_with fail
            refine (H2.out _).mono ?_
            rintro e w6 ⟨rfl, rfl⟩
            go_wp2
            go_ret
            exact ⟨rfl, hB⟩
          · omega
        · have hx1 : (x == -32768) = false := by simpa using hx0
          have HN2 := Lib.hid (fun W : World => HN.out W hx0)
          clear HN
          rcases k1 with ⟨k1, k2, k3⟩ | ⟨k1, k2, k3, k6⟩ | ⟨k1, k2, k3, k6⟩
          · subst k1
            subst k2
            go_wp2_with fail
            refine (H1.out _).mono ?_
            rintro e w5 ⟨rfl, rfl⟩
            go_wp2_with fail
            refine (H2.out _).mono ?_
            rintro e w6 ⟨rfl, rfl⟩
            go_wp2_with fail
            refine (HN2.out _).mono ?_
            rintro e w7 ⟨rfl, hc⟩
            replace hB := hB.trans (hc.mono hB.size)
            clear hc
            go_wp2
            go_ret
            exact ⟨rfl, hB⟩
          · subst k6
            have q0 : (n == 0) = false := by rw [beq_eq_false_iff_ne]; omega
            have q1 : decide (0 < n) = false := by simp; omega
            have q2 : decide (0 < x) = false := by simp; omega
            go_wp2_with fail
            refine (H1.out _).mono ?_
            rintro e w5 ⟨rfl, rfl⟩
            go_wp2_with fail
            refine (H2.out _).mono ?_
            rintro e w6 ⟨rfl, rfl⟩
            go_wp2_with fail
            refine (HN2.out _).mono ?_
            rintro e w7 ⟨rfl, hc⟩
            replace hB := hB.trans (hc.mono hB.size)
            clear hc
            go_wp2
            go_ret
            exact ⟨rfl, hB⟩
          · subst k6
            have q0 : (n == 0) = false := by rw [beq_eq_false_iff_ne]; omega
            have q1 : decide (0 < n) = true := by simp; omega
            have q2 : decide (0 < x) = true := by simp; omega
            go_wp2_with fail
            refine (H1.out _).mono ?_
            rintro e w5 ⟨rfl, rfl⟩
            go_wp2_with fail
            refine (H2.out _).mono ?_
            rintro e w6 ⟨rfl, rfl⟩
            go_wp2_with fail
            refine (HN2.out _).mono ?_
            rintro e w7 ⟨rfl, hc⟩
            replace hB := hB.trans (hc.mono hB.size)
            clear hc
            go_wp2
            go_ret
            exact ⟨rfl, hB⟩
end Go.Proofs.Ytcpjafhhmhaenaa
