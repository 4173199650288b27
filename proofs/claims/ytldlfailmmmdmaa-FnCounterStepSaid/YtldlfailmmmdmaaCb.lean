/- The law of CounterStep: its walk. -/
import Derived.Test.YtldlfailmmmdmaaCa
namespace Go.Proofs.Ytldlfailmmmdmaa
open Go.RowKit
attribute [local go_sem ↓] Go.wp_at_zero Go.wp_at_succ

theorem cabs_any (n : Int) (w : World) (h : -1000000 ≤ n ∧ n ≤ 1000000) : Calls Try.prog 20 #[.int .i64 n] w fun e w' => e = .returned (.int .i64 (max n (-n))) ∧ w = w' := by
  by_cases h0 : n < 0
  · go_enter Try.func20, Try.ntmps20
    go_wp2
    go_ret
    exact ⟨ret_int (by omega), rfl⟩
  · go_enter Try.func20, Try.ntmps20
    go_wp2
    go_ret
    exact ⟨ret_int (by omega), rfl⟩
theorem cstep_again (c : Cn) (u d r l : Bool) : cstep (cstep c u d r l) u d r l = cstep c u d r l := by
  unfold cstep cval
  cases r <;> cases l <;> cases u <;> cases d <;> simp
theorem cstep_near (c : Cn) (u d : Bool) (h : 0 ≤ c.val ∧ c.val ≤ 9999) : c.val - 1 ≤ (cstep c u d false false).val ∧ (cstep c u d false false).val ≤ c.val + 1 := by
  unfold cstep cval
  simp only [Bool.false_eq_true, if_false]
  repeat' split
  all_goals omega
theorem cfield (a b c d : Value) (w : World) : (Instr.field 24 (.agg #[a, b, c, d]) 1).run Try.prog w = .ok b w := by kernel_rfl
theorem cstepF_ok {c : Cn} {u d r l : Bool} (h : cvalid c = true) : cstepF c u d r l = cstep c u d r l := by unfold cstepF; rw [h]; rfl
theorem FnCounterStep_long (a : Option Addr) (n c : Nat) (w : World) (h : 1048576 < n) (_hn : n ≤ 9223372036854775807) : Calls Try.prog 4 #[.slice a n c] w (LawPost w) := by
  go_enter Try.func4, Try.ntmps4
  go_wp2
  go_ret
  exact ⟨rfl, Below.refl _ _⟩
set_option maxHeartbeats 8000000 in
theorem FnCounterStep_core (v : Value) (bl : List Int) (w : World) (h : BytesR w w.heap.size v bl) (hl : bl.length ≤ 1048576) :
    Calls Try.prog 4 #[v] w (LawPost w) := by
  have HO := Lib.hid (drawCounterStep_any v bl w h)
  obtain ⟨A0, c0, rfl, -⟩ := h
  have tok1 : True := trivial
  go_enter Try.func4, Try.ntmps4
  go_wp2_with fail
  refine HO.out.mono ?_
  rintro e w1 ⟨c, u, d, r, l, rfl, hs, hb1⟩
  clear HO
  have hfit := hs.fit
  have HN := Lib.hid (fun W : World => iCounterStep_any c u d r l W hfit)
  have HS := Lib.hid (fun W : World => sCounterStep_any c u d r l W hfit)
  have HV := Lib.hid (fun W : World => sCounterValid_any c W)
  obtain ⟨R, hR⟩ : ∃ R, R = cstepF c u d r l := ⟨_, rfl⟩
  rw [← hR] at HN HS
  have HR := Lib.hid hR
  clear hR
  unfold CnPost cnV at HN HS
  unfold cnV at HV ⊢
  have hx1 := boxC w1 c
  have hB1 := hb1.alloc hb1.size (.cells #[.int .i64 c.pre, .int .i64 c.val, .bool c.up, .bool c.dn] 24)
  obtain ⟨q, hq⟩ : ∃ q, q = w1.heap.size := ⟨_, rfl⟩
  go_upto_region 4 with fail
  rw [← hq] at hx1 ⊢
  generalize w1.alloc (.cells #[.int .i64 c.pre, .int .i64 c.val, .bool c.up, .bool c.dn] 24) = W1 at hx1 hB1 ⊢
  clear hb1 hq
  obtain ⟨a0, a1, a2, a3, -⟩ := blk4 hx1
  go_wp2_with fail
  refine (HN.out _).mono ?_
  rintro e w2 ⟨rfl, hb2⟩
  have hy := boxC w2 R
  have hx := blk_alloc (blk_up hx1 hb2) (.cells #[.int .i64 R.pre, .int .i64 R.val, .bool R.up, .bool R.dn] 24)
  have hB2 := hB1.trans (hb2.mono hB1.size)
  have hB := hB2.alloc hB2.size (.cells #[.int .i64 R.pre, .int .i64 R.val, .bool R.up, .bool R.dn] 24)
  have hqr := blk_lt (blk_up hx1 hb2)
  obtain ⟨s, hr⟩ : ∃ s, s = w2.heap.size := ⟨_, rfl⟩
  clear a0 a1 a2 a3 hB2 hb2 hx1 hB1
  go_upto_region 5 with fail
  rw [← hr] at hy hqr ⊢
  generalize w2.alloc (.cells #[.int .i64 R.pre, .int .i64 R.val, .bool R.up, .bool R.dn] 24) = W at hx hy hB ⊢
  clear hr
  obtain ⟨a0, a1, a2, a3, -⟩ := blk4 hx
  obtain ⟨c0, c1, c2, c3, -⟩ := blk4 hy
  go_region_held3 (fun w' => (w'.cell? ⟨q, 0, none⟩ = some (.int .i64 c.pre) ∧ w'.cell? ⟨q, 1, none⟩ = some (.int .i64 c.val) ∧ w'.cell? ⟨q, 2, none⟩ = some (.bool c.up) ∧ w'.cell? ⟨q, 3, none⟩ = some (.bool c.dn)) ∧ w'.cell? ⟨s, 0, none⟩ = some (.int .i64 R.pre) ∧ w'.cell? ⟨s, 1, none⟩ = some (.int .i64 R.val) ∧ w'.cell? ⟨s, 2, none⟩ = some (.bool R.up) ∧ w'.cell? ⟨s, 3, none⟩ = some (.bool R.dn)) (first | go_keep)
    (first
      | (go_at_call 19; have tok := tok1; (with_reducible refine (HS.out _).mono ?_); rintro e w3 ⟨rfl, hb3⟩; have hx3 := blk_up (w := W.drew) hx hb3; have hy3 := blk_up (w := W.drew) hy hb3; obtain ⟨b0, b1, b2, b3, -⟩ := blk4 hx3; obtain ⟨m0, m1, m2, m3, -⟩ := blk4 hy3; have hB3 := hB.drew.trans (hb3.mono (by show w.heap.size ≤ W.heap.size; exact hB.size)); clear tok tok1))
  clear a0 a1 a2 a3 c0 c1 c2 c3 hx hy hb3 hB HN HS
  go_wp2_with fail
  refine (HV.out _).mono ?_
  rintro e w4 ⟨rfl, hb4⟩
  have hx4 := blk_up hx3 hb4
  have hy4 := blk_up hy3 hb4
  have hB4 := hB3.trans (hb4.mono hB3.size)
  clear b0 b1 b2 b3 m0 m1 m2 m3 hx3 hy3 hb4 hB3
  obtain ⟨b0, b1, b2, b3, -⟩ := blk4 hx4
  obtain ⟨m0, m1, m2, m3, -⟩ := blk4 hy4
  cases hv : cvalid c
  · obtain rfl : R = czero := by rw [HR.out]; unfold cstepF; rw [hv]; rfl
    clear HR hv
    unfold czero at m0 m1 m2 m3
    simp only at m0 m1 m2 m3
    go_wp2_with fail
    refine (alive_any _).mono ?_
    rintro e w6 ⟨rfl, hb6⟩
    go_wp2
    go_ret
    exact ⟨rfl, hB4.trans (hb6.mono hB4.size)⟩
  · have hp := cvalid_parts hv
    have hRe : R = cstep c u d r l := by rw [HR.out]; exact cstepF_ok hv
    have hRv : cvalid R = true := by rw [hRe]; exact cstep_valid u d r l hv
    have hRR : cstepF R u d r l = R := by rw [cstepF_ok hRv, hRe, cstep_again]
    have HY := Lib.hid (fun W : World => iCounterStep_any c u d false false W hfit)
    have HA := Lib.hid (fun W : World => iCounterStep_any R u d r l W (by have := cvalid_parts hRv; unfold fitC; omega))
    have HB := Lib.hid (fun W : World => iCounterStep_any c u d true l W hfit)
    have HC := Lib.hid (fun W : World => iCounterStep_any c u d false true W hfit)
    have HI := Lib.hid (fun W : World => iCounterValid_any R W)
    rw [hRR] at HA
    rw [hRv] at HI
    rw [cstepF_ok hv] at HY HB HC
    obtain ⟨Y, hY⟩ : ∃ Y, Y = cstep c u d false false := ⟨_, rfl⟩
    have hnear := cstep_near c u d hp.2
    rw [← hY] at HY hnear
    have eB : (cstep c u d true l).val = 0 := rfl
    have eC : (cstep c u d false true).val = c.pre := rfl
    obtain ⟨B, hBe⟩ : ∃ B, B = cstep c u d true l := ⟨_, rfl⟩
    obtain ⟨C, hCe⟩ : ∃ C, C = cstep c u d false true := ⟨_, rfl⟩
    rw [← hBe] at HB eB
    rw [← hCe] at HC eC
    have hwr : IntKind.i64.wrap (Y.val - c.val) = Y.val - c.val := by rw [IntKind.wrap_i64]; omega
    have HAbs := Lib.hid (show ∀ W : World, Calls Try.prog 20 #[.int .i64 (IntKind.i64.wrap (Y.val - c.val))] W fun e w' => e = .returned (.int .i64 (max (Y.val - c.val) (-(Y.val - c.val)))) ∧ W = w' by intro W; rw [hwr]; exact cabs_any _ W (by omega))
    clear hwr
    clear hRe hRv hRR hY hBe hCe HR HV hv
    unfold CnPost cnV at HY HA HB HC
    unfold cnV at HI
    obtain ⟨Bp, Bv, Bu, Bd⟩ := B
    obtain ⟨Cp, Cv, Cu, Cd⟩ := C
    simp only at eB eC HB HC
    subst eB; subst eC
    go_wp2_with fail
    refine (HY.out _).mono ?_
    rintro e w5 ⟨rfl, hb5⟩
    have hz := boxC w5 Y
    have hx5 := blk_alloc (blk_up hx4 hb5) (.cells #[.int .i64 Y.pre, .int .i64 Y.val, .bool Y.up, .bool Y.dn] 24)
    have hy5 := blk_alloc (blk_up hy4 hb5) (.cells #[.int .i64 Y.pre, .int .i64 Y.val, .bool Y.up, .bool Y.dn] 24)
    have hB5' := hB4.trans (hb5.mono hB4.size)
    have hB5 := hB5'.alloc hB5'.size (.cells #[.int .i64 Y.pre, .int .i64 Y.val, .bool Y.up, .bool Y.dn] 24)
    have hsq := blk_lt (blk_up hx4 hb5)
    have hss := blk_lt (blk_up hy4 hb5)
    obtain ⟨t, ht⟩ : ∃ t, t = w5.heap.size := ⟨_, rfl⟩
    clear b0 b1 b2 b3 m0 m1 m2 m3 hx4 hy4 hB4 hb5 hB5' HY
    go_upto_region 10 with fail
    rw [← ht] at hz hsq hss ⊢
    generalize w5.alloc (.cells #[.int .i64 Y.pre, .int .i64 Y.val, .bool Y.up, .bool Y.dn] 24) = Wz at hx5 hy5 hz hB5 ⊢
    clear ht
    obtain ⟨b0, b1, b2, b3, -⟩ := blk4 hx5
    obtain ⟨m0, m1, m2, m3, -⟩ := blk4 hy5
    obtain ⟨z0, z1, z2, z3, -⟩ := blk4 hz
    have i1 : -10000 ≤ Y.val - c.val ∧ Y.val - c.val ≤ 10000 := by omega
    have i2 : max (Y.val - c.val) (-(Y.val - c.val)) ≤ 1 := by omega
    have i3 : -10000 ≤ Y.val ∧ Y.val ≤ 10000 := by omega
    have i4 := hp.2
    clear hnear
    have F1 := cfield (.int .i64 Bp) (.int .i64 0) (.bool Bu) (.bool Bd)
    have F2 := cfield (.int .i64 Cp) (.int .i64 c.pre) (.bool Cu) (.bool Cd)
    go_region_held3 (fun w' => (w'.cell? ⟨q, 0, none⟩ = some (.int .i64 c.pre) ∧ w'.cell? ⟨q, 1, none⟩ = some (.int .i64 c.val) ∧ w'.cell? ⟨q, 2, none⟩ = some (.bool c.up) ∧ w'.cell? ⟨q, 3, none⟩ = some (.bool c.dn)) ∧ (w'.cell? ⟨s, 0, none⟩ = some (.int .i64 R.pre) ∧ w'.cell? ⟨s, 1, none⟩ = some (.int .i64 R.val) ∧ w'.cell? ⟨s, 2, none⟩ = some (.bool R.up) ∧ w'.cell? ⟨s, 3, none⟩ = some (.bool R.dn)) ∧ w'.cell? ⟨t, 0, none⟩ = some (.int .i64 Y.pre) ∧ w'.cell? ⟨t, 1, none⟩ = some (.int .i64 Y.val) ∧ w'.cell? ⟨t, 2, none⟩ = some (.bool Y.up) ∧ w'.cell? ⟨t, 3, none⟩ = some (.bool Y.dn)) (first | go_keep)
      (first
        | (go_at_call 20; (with_reducible refine (HAbs.out _).mono ?_); rintro e xa ⟨rfl, rfl⟩)
        | (go_at_call 18; have tell := hx8; (with_reducible refine (HC.out _).mono ?_); rintro e x9 ⟨rfl, kb9⟩; have hx9 := blk_up hx8 kb9; have hy9 := blk_up hy8 kb9; have hz9 := blk_up hz8 kb9; have hB9 := hB8.trans (kb9.mono (by have := hB8.size; exact this)); obtain ⟨b0, b1, b2, b3, -⟩ := blk4 hx9; obtain ⟨m0, m1, m2, m3, -⟩ := blk4 hy9; obtain ⟨z0, z1, z2, z3, -⟩ := blk4 hz9; clear tell)
        | (go_at_call 18; have tell := hx7; (with_reducible refine (HB.out _).mono ?_); rintro e x8 ⟨rfl, kb8⟩; have hx8 := blk_up hx7 kb8; have hy8 := blk_up hy7 kb8; have hz8 := blk_up hz7 kb8; have hB8 := hB7.trans (kb8.mono (by have := hB7.size; exact this)); obtain ⟨b0, b1, b2, b3, -⟩ := blk4 hx8; obtain ⟨m0, m1, m2, m3, -⟩ := blk4 hy8; obtain ⟨z0, z1, z2, z3, -⟩ := blk4 hz8; clear tell)
        | (go_at_call 18; have tell := hx6; (with_reducible refine (HA.out _).mono ?_); rintro e x7 ⟨rfl, kb7⟩; have hx7 := blk_up hx6 kb7; have hy7 := blk_up hy6 kb7; have hz7 := blk_up hz6 kb7; have hB7 := hB6.trans (kb7.mono (by have := hB6.size; exact this)); obtain ⟨b0, b1, b2, b3, -⟩ := blk4 hx7; obtain ⟨m0, m1, m2, m3, -⟩ := blk4 hy7; obtain ⟨z0, z1, z2, z3, -⟩ := blk4 hz7; clear tell)
        | (go_at_call 14; have tell := hx5; (with_reducible refine (HI.out _).mono ?_); rintro e x6 ⟨rfl, kb6⟩; have hx6 := blk_up (w := Wz.drew) hx5 kb6; have hy6 := blk_up (w := Wz.drew) hy5 kb6; have hz6 := blk_up (w := Wz.drew) hz kb6; have hB6 := hB5.drew.trans (kb6.mono (by have := hB5.size; exact this)); obtain ⟨b0, b1, b2, b3, -⟩ := blk4 hx6; obtain ⟨m0, m1, m2, m3, -⟩ := blk4 hy6; obtain ⟨z0, z1, z2, z3, -⟩ := blk4 hz6; clear tell))
    go_wp2
    go_ret
    exact ⟨rfl, hB9⟩
end Go.Proofs.Ytldlfailmmmdmaa
