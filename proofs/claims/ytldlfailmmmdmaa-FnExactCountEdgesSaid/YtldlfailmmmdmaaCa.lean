/- The laws of CounterValid, CounterReached and CounterEmpty: their walks. -/
import Derived.Test.YtldlfailmmmdmaaCI
import Derived.Test.YtldlfailmmmdmaaTX
import Derived.Test.YtldlfailmmmdmaaW
namespace Go.Proofs.Ytldlfailmmmdmaa
open Go.RowKit
attribute [local go_sem ↓] Go.wp_at_zero Go.wp_at_succ

theorem cv_a (c : Cn) : cvalid ⟨c.pre, -1, c.up, c.dn⟩ = false := by unfold cvalid inB; simp
theorem cv_b (c : Cn) : cvalid ⟨10000, c.val, c.up, c.dn⟩ = false := by unfold cvalid inB; simp
theorem FnCounterValid_long (a : Option Addr) (n c : Nat) (w : World) (h : 1048576 < n) (_hn : n ≤ 9223372036854775807) : Calls Try.prog 3 #[.slice a n c] w (LawPost w) := by
  go_enter Try.func3, Try.ntmps3
  go_wp2
  go_ret
  exact ⟨rfl, Below.refl _ _⟩
set_option maxHeartbeats 2000000 in
theorem FnCounterValid_core (v : Value) (bl : List Int) (w : World) (h : BytesR w w.heap.size v bl) (hl : bl.length ≤ 1048576) :
    Calls Try.prog 3 #[v] w (LawPost w) := by
  have HO := Lib.hid (drawCounterValid_any v bl w h)
  obtain ⟨A0, c0, rfl, -⟩ := h
  go_enter Try.func3, Try.ntmps3
  go_wp2_with fail
  refine HO.out.mono ?_
  rintro e w1 ⟨c, rfl, hs, hb1⟩
  clear HO
  have hx := boxC w1 c
  have hB := hb1.alloc hb1.size (.cells #[.int .i64 c.pre, .int .i64 c.val, .bool c.up, .bool c.dn] 24)
  have HI := Lib.hid (fun W : World => iCounterValid_any c W)
  have HS := Lib.hid (fun W : World => sCounterValid_any c W)
  have HA := Lib.hid (fun W : World => iCounterValid_any ⟨c.pre, -1, c.up, c.dn⟩ W)
  have HK := Lib.hid (fun W : World => iCounterValid_any ⟨10000, c.val, c.up, c.dn⟩ W)
  rw [cv_a] at HA
  rw [cv_b] at HK
  unfold cnV at HI HS HA HK ⊢
  simp only at HA HK
  go_wp2_with fail
  refine (HI.out _).mono ?_
  rintro e w2 ⟨rfl, hb2⟩
  have hx2 := blk_up hx hb2
  have hB2 := hB.trans (hb2.mono hB.size)
  clear hx hB hb2
  obtain ⟨c0, c1, c2, c3, -⟩ := blk4 hx2
  go_wp2_with fail
  refine (HS.out _).mono ?_
  rintro e w3 ⟨rfl, hb3⟩
  have hx3 := blk_up hx2 hb3
  have hB3 := hB2.trans (hb3.mono hB2.size)
  clear hx2 hB2 hb3 c0 c1 c2 c3
  obtain ⟨c0, c1, c2, c3, -⟩ := blk4 hx3
  have hl3 := blk_lt hx3
  go_wp2_with fail
  refine (HA.out _).mono ?_
  rintro e w4 ⟨rfl, hb4⟩
  have hk0 := heap_alloc_new (w3.alloc (.cells #[.int .i64 c.pre, .int .i64 (-1), .bool c.up, .bool c.dn] 24)) (.cells #[.int .i64 10000, .int .i64 c.val, .bool c.up, .bool c.dn] 24)
  rw [World.size_alloc] at hk0
  have hk := blk_up hk0 hb4
  have hB4 := ((hB3.alloc hB3.size _).alloc (by have := hB3.size; simp; omega) _).trans (hb4.mono (by have := hB3.size; simp; omega))
  clear hb4 hk0 hB3 hx3 c0 c1 c2 c3
  obtain ⟨c0, c1, c2, c3, -⟩ := blk4 hk
  go_wp2_with fail
  refine (HK.out _).mono ?_
  rintro e w5 ⟨rfl, hb5⟩
  have hB5 := hB4.trans (hb5.mono hB4.size)
  clear hb5 hk hB4 c0 c1 c2 c3
  go_wp2_with fail
  refine (alive_any _).mono ?_
  rintro e w6 ⟨rfl, hb6⟩
  go_wp2
  go_ret
  exact ⟨rfl, hB5.trans (hb6.mono hB5.size)⟩
theorem FnCounterReached_long (a : Option Addr) (n c : Nat) (w : World) (h : 1048576 < n) (_hn : n ≤ 9223372036854775807) : Calls Try.prog 5 #[.slice a n c] w (LawPost w) := by
  go_enter Try.func5, Try.ntmps5
  go_wp2
  go_ret
  exact ⟨rfl, Below.refl _ _⟩
set_option maxHeartbeats 2000000 in
theorem FnCounterReached_core (v : Value) (bl : List Int) (w : World) (h : BytesR w w.heap.size v bl) (hl : bl.length ≤ 1048576) :
    Calls Try.prog 5 #[v] w (LawPost w) := by
  have HO := Lib.hid (drawCounterReached_any v bl w h)
  obtain ⟨A0, c0, rfl, -⟩ := h
  go_enter Try.func5, Try.ntmps5
  go_wp2_with fail
  refine HO.out.mono ?_
  rintro e w1 ⟨c, rfl, hs, hb1⟩
  clear HO
  have hfit := hs.fit
  have hx1 := boxC w1 c
  have hB1 := hb1.alloc hb1.size (.cells #[.int .i64 c.pre, .int .i64 c.val, .bool c.up, .bool c.dn] 24)
  have HI := Lib.hid (fun W : World => iCounterReached_any c W)
  have HS := Lib.hid (fun W : World => sCounterReached_any c W)
  have HV := Lib.hid (fun W : World => sCounterValid_any c W)
  obtain ⟨B, hBe⟩ : ∃ B, B = (cvalid c && decide (c.pre ≤ c.val)) := ⟨_, rfl⟩
  rw [← hBe] at HI HS
  unfold cnV at HI HS HV ⊢
  go_wp2_with fail
  refine (HI.out _).mono ?_
  rintro e w2 ⟨rfl, hb2⟩
  have hx2 := blk_up hx1 hb2
  have hB2 := hB1.trans (hb2.mono hB1.size)
  clear hx1 hB1 hb2 
  obtain ⟨c0, c1, c2, c3, -⟩ := blk4 hx2
  go_wp2_with fail
  refine (HS.out _).mono ?_
  rintro e w3 ⟨rfl, hb3⟩
  have hx3 := blk_up hx2 hb3
  have hB3 := hB2.trans (hb3.mono hB2.size)
  clear hx2 hB2 hb3 c0 c1 c2 c3
  obtain ⟨c0, c1, c2, c3, -⟩ := blk4 hx3
  go_wp2_with fail
  refine (HV.out _).mono ?_
  rintro e w4 ⟨rfl, hb4⟩
  have hx4 := blk_up hx3 hb4
  have hB4 := hB3.trans (hb4.mono hB3.size)
  clear hx3 hB3 hb4 c0 c1 c2 c3
  obtain ⟨c0, c1, c2, c3, -⟩ := blk4 hx4
  cases hv : cvalid c
  · obtain rfl : B = false := by rw [hBe, hv]; rfl
    clear hBe
    go_wp2_with fail
    refine (alive_any _).mono ?_
    rintro e w6 ⟨rfl, hb6⟩
    go_wp2
    go_ret
    exact ⟨rfl, hB4.trans (hb6.mono hB4.size)⟩
  · have HSt := Lib.hid (fun W : World => iCounterStep_any c false false false true W hfit)
    have e1 : cstepF c false false false true = ⟨c.pre, c.pre, false, false⟩ := by unfold cstepF; rw [hv]; rfl
    rw [e1] at HSt
    have HI2 := Lib.hid (fun W : World => iCounterReached_any ⟨c.pre, c.pre, false, false⟩ W)
    have hp := cvalid_parts hv
    have e2 : cvalid ⟨c.pre, c.pre, false, false⟩ = true := cvalid_make (c := ⟨c.pre, c.pre, false, false⟩) hp.1 hp.1
    simp only [e2, Int.le_refl, decide_true, Bool.and_self] at HI2
    obtain rfl : B = decide (c.pre ≤ c.val) := by rw [hBe, hv]; rfl
    unfold CnPost cnV at HSt
    unfold cnV at HI2
    clear hBe e1 e2 HI HS HV hv hp hs
    go_wp2_with fail
    refine (HSt.out _).mono ?_
    rintro e w5 ⟨rfl, hb5⟩
    have hB5 := hB4.trans (hb5.mono hB4.size)
    go_wp2_with fail
    refine (HI2.out _).mono ?_
    rintro e w6 ⟨rfl, hb6⟩
    go_wp2
    go_ret
    exact ⟨rfl, hB5.trans (hb6.mono hB5.size)⟩
theorem FnCounterEmpty_long (a : Option Addr) (n c : Nat) (w : World) (h : 1048576 < n) (_hn : n ≤ 9223372036854775807) : Calls Try.prog 6 #[.slice a n c] w (LawPost w) := by
  go_enter Try.func6, Try.ntmps6
  go_wp2
  go_ret
  exact ⟨rfl, Below.refl _ _⟩
set_option maxHeartbeats 2000000 in
theorem FnCounterEmpty_core (v : Value) (bl : List Int) (w : World) (h : BytesR w w.heap.size v bl) (hl : bl.length ≤ 1048576) :
    Calls Try.prog 6 #[v] w (LawPost w) := by
  have HO := Lib.hid (drawCounterEmpty_any v bl w h)
  obtain ⟨A0, c0, rfl, -⟩ := h
  go_enter Try.func6, Try.ntmps6
  go_wp2_with fail
  refine HO.out.mono ?_
  rintro e w1 ⟨c, rfl, hs, hb1⟩
  clear HO
  have hfit := hs.fit
  have hx1 := boxC w1 c
  have hB1 := hb1.alloc hb1.size (.cells #[.int .i64 c.pre, .int .i64 c.val, .bool c.up, .bool c.dn] 24)
  have HI := Lib.hid (fun W : World => iCounterEmpty_any c W)
  have HS := Lib.hid (fun W : World => sCounterEmpty_any c W)
  have HV := Lib.hid (fun W : World => sCounterValid_any c W)
  obtain ⟨B, hBe⟩ : ∃ B, B = (cvalid c && decide (c.val = 0)) := ⟨_, rfl⟩
  rw [← hBe] at HI HS
  unfold cnV at HI HS HV ⊢
  go_wp2_with fail
  refine (HI.out _).mono ?_
  rintro e w2 ⟨rfl, hb2⟩
  have hx2 := blk_up hx1 hb2
  have hB2 := hB1.trans (hb2.mono hB1.size)
  clear hx1 hB1 hb2 
  obtain ⟨c0, c1, c2, c3, -⟩ := blk4 hx2
  go_wp2_with fail
  refine (HS.out _).mono ?_
  rintro e w3 ⟨rfl, hb3⟩
  have hx3 := blk_up hx2 hb3
  have hB3 := hB2.trans (hb3.mono hB2.size)
  clear hx2 hB2 hb3 c0 c1 c2 c3
  obtain ⟨c0, c1, c2, c3, -⟩ := blk4 hx3
  go_wp2_with fail
  refine (HV.out _).mono ?_
  rintro e w4 ⟨rfl, hb4⟩
  have hx4 := blk_up hx3 hb4
  have hB4 := hB3.trans (hb4.mono hB3.size)
  clear hx3 hB3 hb4 c0 c1 c2 c3
  obtain ⟨c0, c1, c2, c3, -⟩ := blk4 hx4
  cases hv : cvalid c
  · obtain rfl : B = false := by rw [hBe, hv]; rfl
    clear hBe
    go_wp2_with fail
    refine (alive_any _).mono ?_
    rintro e w6 ⟨rfl, hb6⟩
    go_wp2
    go_ret
    exact ⟨rfl, hB4.trans (hb6.mono hB4.size)⟩
  · have HSt := Lib.hid (fun W : World => iCounterStep_any c false false true false W hfit)
    have e1 : cstepF c false false true false = ⟨c.pre, 0, false, false⟩ := by unfold cstepF; rw [hv]; rfl
    rw [e1] at HSt
    have hp := cvalid_parts hv
    have hv2 : cvalid ⟨c.pre, 0, false, false⟩ = true := cvalid_make hp.1 ⟨by simp, by simp⟩
    have HSu := Lib.hid (fun W : World => iCounterStep_any ⟨c.pre, 0, false, false⟩ true false false false W ⟨hfit.1, by simp, by simp⟩)
    have e3 : cstepF ⟨c.pre, 0, false, false⟩ true false false false = ⟨c.pre, 1, true, false⟩ := by unfold cstepF; rw [hv2]; rfl
    rw [e3] at HSu
    have HI2 := Lib.hid (fun W : World => iCounterEmpty_any ⟨c.pre, 0, false, false⟩ W)
    have HI3 := Lib.hid (fun W : World => iCounterEmpty_any ⟨c.pre, 1, true, false⟩ W)
    simp only [hv2, decide_true, Bool.and_self] at HI2
    simp only [Int.reduceEq, decide_false, Bool.and_false] at HI3
    obtain rfl : B = decide (c.val = 0) := by rw [hBe, hv]; rfl
    unfold CnPost cnV at HSt HSu
    unfold cnV at HI2 HI3
    clear hBe e1 e3 HI HS HV hv hv2 hp hs
    go_wp2_with fail
    refine (HSt.out _).mono ?_
    rintro e w5 ⟨rfl, hb5⟩
    have hx5 := blk_alloc (blk_up hx4 hb5) (.cells #[.int .i64 c.pre, .int .i64 0, .bool false, .bool false] 24)
    have hy5 := heap_alloc_new w5 (.cells #[.int .i64 c.pre, .int .i64 0, .bool false, .bool false] 24)
    have hB5' := hB4.trans (hb5.mono hB4.size)
    have hB5 := hB5'.alloc hB5'.size (.cells #[.int .i64 c.pre, .int .i64 0, .bool false, .bool false] 24)
    clear hx4 hB4 hb5 hB5' c0 c1 c2 c3
    obtain ⟨q, hq⟩ : ∃ q, q = w5.heap.size := ⟨_, rfl⟩
    go_upto_region 10 with fail
    rw [← hq] at hy5 ⊢
    generalize w5.alloc (.cells #[.int .i64 c.pre, .int .i64 0, .bool false, .bool false] 24) = w6 at hx5 hy5 hB5 ⊢
    clear hq
    obtain ⟨c0, c1, c2, c3, -⟩ := blk4 hx5
    obtain ⟨d0, d1, d2, d3, -⟩ := blk4 hy5
    go_wp2_with fail
    refine (HI2.out _).mono ?_
    rintro e w7 ⟨rfl, hb7⟩
    have hy7 := blk_up hy5 hb7
    have hB7 := hB5.trans (hb7.mono hB5.size)
    clear hx5 hy5 hB5 hb7 c0 c1 c2 c3 d0 d1 d2 d3
    obtain ⟨d0, d1, d2, d3, -⟩ := blk4 hy7
    go_wp2_with fail
    refine (HSu.out _).mono ?_
    rintro e w8 ⟨rfl, hb8⟩
    have hB8 := hB7.trans (hb8.mono hB7.size)
    go_wp2_with fail
    refine (HI3.out _).mono ?_
    rintro e w9 ⟨rfl, hb9⟩
    go_wp2
    go_ret
    exact ⟨rfl, hB8.trans (hb9.mono hB8.size)⟩
end Go.Proofs.Ytldlfailmmmdmaa
