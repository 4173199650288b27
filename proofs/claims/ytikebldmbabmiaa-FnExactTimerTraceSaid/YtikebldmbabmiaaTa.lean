/- The laws of TimerValid, NewTimer and TimerStep: their walks. -/
import Derived.Test.YtikebldmbabmiaaTI
import Derived.Test.YtikebldmbabmiaaTX
import Derived.Test.YtikebldmbabmiaaW
import Derived.Deep.RegionHeld3
import Derived.Deep.Cut
namespace Go.Proofs.Ytikebldmbabmiaa
open Go.RowKit
attribute [local go_sem ↓] Go.wp_at_zero Go.wp_at_succ

theorem blk_up {w w' : World} {k ty : Nat} {cs : Array Value} (h : w.heap[k]? = some (.cells cs ty (0, 0))) (hb : Below w.heap.size w w') : w'.heap[k]? = some (.cells cs ty (0, 0)) := (hb.block _ (blk_lt h)).trans h
theorem field_el (a b c d e : Value) (w : World) : (Instr.field 24 (.agg #[a, b, c, d, e]) 2).run Try.prog w = .ok c w := by kernel_rfl
theorem field_out (a b c d e : Value) (w : World) : (Instr.field 24 (.agg #[a, b, c, d, e]) 4).run Try.prog w = .ok e w := by kernel_rfl
theorem FnTimerValid_long (a : Option Addr) (n c : Nat) (w : World) (h : 1048576 < n) (_hn : n ≤ 9223372036854775807) : Calls Try.prog 3 #[.slice a n c] w (LawPost w) := by
  go_enter Try.func3, Try.ntmps3
  go_wp2
  go_ret
  exact ⟨rfl, Below.refl _ _⟩
theorem tv_el (t : Tm) : tvalid ⟨t.kind, t.pre, t.pre + 1, t.bef, t.out⟩ = false := by unfold tvalid inB; simp; omega
theorem tv_kind (t : Tm) : tvalid ⟨0, t.pre, t.el, t.bef, t.out⟩ = false := by unfold tvalid inB; simp
set_option maxHeartbeats 1000000 in
theorem FnTimerValid_core (v : Value) (bl : List Int) (w : World) (h : BytesR w w.heap.size v bl) (hl : bl.length ≤ 1048576) :
    Calls Try.prog 3 #[v] w (LawPost w) := by
  have HO := Lib.hid (drawTimerValid_any v bl w h)
  obtain ⟨A0, c0, rfl, -⟩ := h
  go_enter Try.func3, Try.ntmps3
  go_wp2_with fail
  refine HO.out.mono ?_
  rintro e w1 ⟨t, rfl, hs, hb1⟩
  clear HO
  have hp := hs.2.1
  have hx := boxT w1 t
  have hB := hb1.alloc hb1.size (.cells #[.int .i64 t.kind, .int .i64 t.pre, .int .i64 t.el, .bool t.bef, .bool t.out] 24)
  have HI := Lib.hid (fun W : World => iTimerValid_any t W)
  have HS := Lib.hid (fun W : World => sTimerValid_any t W)
  have HA := Lib.hid (fun W : World => iTimerValid_any ⟨t.kind, t.pre, t.pre + 1, t.bef, t.out⟩ W)
  have HK := Lib.hid (fun W : World => iTimerValid_any ⟨0, t.pre, t.el, t.bef, t.out⟩ W)
  rw [tv_el] at HA
  rw [tv_kind] at HK
  unfold tmV at HI HS HA HK ⊢
  simp only at HA HK
  go_wp2_with fail
  refine (HI.out _).mono ?_
  rintro e w2 ⟨rfl, hb2⟩
  have hx2 := blk_up hx hb2
  have hB2 := hB.trans (hb2.mono hB.size)
  clear hx hB hb2
  obtain ⟨c0, c1, c2, c3, c4, -⟩ := blk5 hx2
  go_wp2_with fail
  refine (HS.out _).mono ?_
  rintro e w3 ⟨rfl, hb3⟩
  have hx3 := blk_up hx2 hb3
  have hB3 := hB2.trans (hb3.mono hB2.size)
  clear hx2 hB2 hb3 c0 c1 c2 c3 c4
  obtain ⟨c0, c1, c2, c3, c4, -⟩ := blk5 hx3
  have hl3 := blk_lt hx3
  go_wp2_with fail
  refine (HA.out _).mono ?_
  rintro e w4 ⟨rfl, hb4⟩
  have ha := (hb4.block (w3.heap.size) (by simp; omega)).trans (blk_alloc (heap_alloc_new w3 (.cells #[.int .i64 t.kind, .int .i64 t.pre, .int .i64 (t.pre + 1), .bool t.bef, .bool t.out] 24)) (.cells #[.int .i64 0, .int .i64 t.pre, .int .i64 t.el, .bool t.bef, .bool t.out] 24))
  have hk0 := heap_alloc_new (w3.alloc (.cells #[.int .i64 t.kind, .int .i64 t.pre, .int .i64 (t.pre + 1), .bool t.bef, .bool t.out] 24)) (.cells #[.int .i64 0, .int .i64 t.pre, .int .i64 t.el, .bool t.bef, .bool t.out] 24)
  rw [World.size_alloc] at hk0
  have hk := blk_up hk0 hb4
  have hB4 := ((hB3.alloc hB3.size _).alloc (by have := hB3.size; simp; omega) _).trans (hb4.mono (by have := hB3.size; simp; omega))
  clear hb4 hk0 ha hB3 hx3 c0 c1 c2 c3 c4
  obtain ⟨c0, c1, c2, c3, c4, -⟩ := blk5 hk
  go_wp2_with fail
  refine (HK.out _).mono ?_
  rintro e w5 ⟨rfl, hb5⟩
  have hB5 := hB4.trans (hb5.mono hB4.size)
  clear hb5 hk hB4 c0 c1 c2 c3 c4
  go_wp2_with fail
  refine (alive_any _).mono ?_
  rintro e w6 ⟨rfl, hb6⟩
  go_wp2
  go_ret
  exact ⟨rfl, hB5.trans (hb6.mono hB5.size)⟩
theorem FnNewTimer_long (a : Option Addr) (n c : Nat) (w : World) (h : 1048576 < n) (_hn : n ≤ 9223372036854775807) : Calls Try.prog 4 #[.slice a n c] w (LawPost w) := by
  go_enter Try.func4, Try.ntmps4
  go_wp2
  go_ret
  exact ⟨rfl, Below.refl _ _⟩
theorem tnew_ok {k p : Int} (h : 1 ≤ k ∧ k ≤ 3) (hp : 0 ≤ p ∧ p ≤ 10000) : tvalid (tnew k p) = true ∧ (tnew k p).out = false ∧ (tstepF (tnew k p) false 5).out = false := by
  have hv : tvalid ⟨k, p, 0, false, false⟩ = true := tvalid_make h hp ⟨Int.le_refl _, hp.1⟩
  have e : tnew k p = ⟨k, p, if k = 1 then 0 else p, false, false⟩ := by unfold tnew; rw [if_pos hv]
  have h1 : tvalid (tnew k p) = true := by rw [e]; exact tvalid_make h hp (by simp only; split <;> omega)
  refine ⟨h1, by rw [e], ?_⟩
  unfold tstepF
  rw [h1, if_pos (by decide), e]
  unfold tstep
  simp only
  by_cases k1 : k = 1
  · simp [k1]
  · by_cases k2 : k = 2
    · simp [k2]
    · simp [k1, k2]
theorem tnew_bad {k p : Int} (h : ¬ ((1 ≤ k ∧ k ≤ 3) ∧ 0 ≤ p ∧ p ≤ 10000)) : tnew k p = tzero := by
  unfold tnew
  rw [if_neg]
  intro e
  have := tvalid_parts e
  simp only at this
  omega
set_option maxHeartbeats 2000000 in
theorem FnNewTimer_core (v : Value) (bl : List Int) (w : World) (h : BytesR w w.heap.size v bl) (hl : bl.length ≤ 1048576) :
    Calls Try.prog 4 #[v] w (LawPost w) := by
  have HO := Lib.hid (drawNewTimer_any v bl w h)
  obtain ⟨A0, c0, rfl, -⟩ := h
  have tok1 : True := trivial
  go_enter Try.func4, Try.ntmps4
  go_wp2_with fail
  refine HO.out.mono ?_
  rintro e w1 ⟨k, p, rfl, hk, hp, hb1⟩
  clear HO
  have HN := Lib.hid (fun W : World => iNewTimer_any k p W (by omega) (by omega))
  have HS := Lib.hid (fun W : World => sNewTimer_any k p W (by omega) (by omega))
  obtain ⟨R, hR⟩ : ∃ R, R = tnew k p := ⟨_, rfl⟩
  rw [← hR] at HN HS
  have HR := Lib.hid hR
  clear hR
  unfold TmPost tmV at HN HS
  go_wp2_with fail
  refine (HN.out _).mono ?_
  rintro e w2 ⟨rfl, hb2⟩
  have hB2 := hb1.trans (hb2.mono hb1.size)
  clear hb1 hb2
  have hx := boxT w2 R
  have hB := hB2.alloc hB2.size (.cells #[.int .i64 R.kind, .int .i64 R.pre, .int .i64 R.el, .bool R.bef, .bool R.out] 24)
  have hl2 := hB2.size
  obtain ⟨q, hq⟩ : ∃ q, q = w2.heap.size := ⟨_, rfl⟩
  go_upto_region 5 with fail
  rw [← hq] at hx ⊢
  generalize w2.alloc (.cells #[.int .i64 R.kind, .int .i64 R.pre, .int .i64 R.el, .bool R.bef, .bool R.out] 24) = W at hx hB ⊢
  clear hq hB2
  obtain ⟨c0, c1, c2, c3, c4, -⟩ := blk5 hx
  go_region_held3 (fun w' => w'.cell? ⟨q, 0, none⟩ = some (.int .i64 R.kind) ∧ w'.cell? ⟨q, 1, none⟩ = some (.int .i64 R.pre) ∧ w'.cell? ⟨q, 2, none⟩ = some (.int .i64 R.el) ∧ w'.cell? ⟨q, 3, none⟩ = some (.bool R.bef) ∧ w'.cell? ⟨q, 4, none⟩ = some (.bool R.out)) (first | go_keep)
    (first
      | (go_at_call 20; have tok := tok1; (with_reducible refine (HS.out _).mono ?_); rintro e w3 ⟨rfl, hb3⟩; have hx3 := blk_up (w := W.drew) hx hb3; obtain ⟨m0, m1, m2, m3, m4, -⟩ := blk5 hx3; have hB3 := hB.drew.trans (hb3.mono (by show w.heap.size ≤ W.heap.size; exact hB.size)); clear tok tok1))
  clear c0 c1 c2 c3 c4 hx hb3 hB
  have HI := Lib.hid (fun W : World => iTimerValid_any R W)
  have HT := Lib.hid (fun W : World => iTimerStep_any R false 5 W)
  unfold TmPost tmV at HI HT
  by_cases hok : (1 ≤ k ∧ k ≤ 3) ∧ 0 ≤ p ∧ p ≤ 10000
  · obtain ⟨g1, g2, g3⟩ := tnew_ok hok.1 hok.2
    rw [← HR.out] at g1 g2 g3
    have i1 := hok.1.1
    have i2 := hok.1.2
    have i3 := hok.2.1
    have i4 := hok.2.2
    have hfit : fitT R := by
      have := tvalid_parts g1
      unfold fitT; omega
    have HT2 := Lib.hid (fun W => HT.out W hfit (by omega))
    obtain ⟨R2, hR2⟩ : ∃ R2, R2 = tstepF R false 5 := ⟨_, rfl⟩
    rw [← hR2] at HT2 g3
    clear hR2 HT hok hfit HR HN HS
    rw [g1] at HI
    clear g1
    obtain ⟨rk, rp, rl, rb, ro⟩ := R
    simp only at g2 HI HT2 m0 m1 m2 m3 m4 hx3 ⊢
    subst g2
    obtain ⟨sk, sp, sl, sb, so⟩ := R2
    simp only at g3 HT2
    subst g3
    have FO := field_out (.int .i64 sk) (.int .i64 sp) (.int .i64 sl) (.bool sb) (.bool false)
    go_wp2_with fail
    refine (HI.out _).mono ?_
    rintro e w4 ⟨rfl, hb4⟩
    have hx4 := blk_up hx3 hb4
    have hB4 := hB3.trans (hb4.mono hB3.size)
    clear m0 m1 m2 m3 m4 hb4 hB3
    obtain ⟨m0, m1, m2, m3, m4, -⟩ := blk5 hx4
    clear hx3
    go_wp2_with fail
    refine (HT2.out _).mono ?_
    rintro e w5 ⟨rfl, hb5⟩
    have hB5 := hB4.trans (hb5.mono hB4.size)
    clear hb5 hB4
    go_wp2_with fail
    refine (alive_any _).mono ?_
    rintro e w6 ⟨rfl, hb6⟩
    go_wp2
    go_ret
    exact ⟨rfl, hB5.trans (hb6.mono hB5.size)⟩
  · obtain rfl : R = tzero := by rw [HR.out]; exact tnew_bad hok
    have hz : tvalid tzero = false := rfl
    rw [hz] at HI
    have hcase : k = 0 ∨ k = 4 ∨ (1 ≤ k ∧ k ≤ 3) ∧ (p = -1 ∨ p = 10001) := by omega
    clear HR hok HT hz
    unfold tzero at HI m0 m1 m2 m3 m4 ⊢
    simp only at HI m0 m1 m2 m3 m4 ⊢
    rcases hcase with rfl | rfl | ⟨⟨i1, i2⟩, rfl | rfl⟩
    all_goals
      go_wp2_with fail
      refine (HI.out _).mono ?_
      rintro e w4 ⟨rfl, hb4⟩
      have hx4 := blk_up hx3 hb4
      have hB4 := hB3.trans (hb4.mono hB3.size)
      clear m0 m1 m2 m3 m4 hb4 hB3
      unfold tzero at hx4
      simp only at hx4
      obtain ⟨m0, m1, m2, m3, m4, -⟩ := blk5 hx4
      go_wp2_with fail
      refine (alive_any _).mono ?_
      rintro e w6 ⟨rfl, hb6⟩
      go_wp2
      go_ret
      exact ⟨rfl, hB4.trans (hb6.mono hB4.size)⟩
theorem FnTimerStep_long (a : Option Addr) (n c : Nat) (w : World) (h : 1048576 < n) (_hn : n ≤ 9223372036854775807) : Calls Try.prog 5 #[.slice a n c] w (LawPost w) := by
  go_enter Try.func5, Try.ntmps5
  go_wp2
  go_ret
  exact ⟨rfl, Below.refl _ _⟩
set_option maxHeartbeats 4000000 in
theorem FnTimerStep_core (v : Value) (bl : List Int) (w : World) (h : BytesR w w.heap.size v bl) (hl : bl.length ≤ 1048576) :
    Calls Try.prog 5 #[v] w (LawPost w) := by
  have HO := Lib.hid (drawTimerStep_any v bl w h)
  obtain ⟨A0, c0, rfl, -⟩ := h
  have tok1 : True := trivial
  go_enter Try.func5, Try.ntmps5
  go_wp2_with fail
  refine HO.out.mono ?_
  rintro e w1 ⟨t, x, dt, rfl, hs, hd, hb1⟩
  clear HO
  have hfit := hs.fit
  have HN := Lib.hid (fun W : World => iTimerStep_any t x dt W hfit (by omega))
  have HS := Lib.hid (fun W : World => sTimerStep_any t x dt W hfit (by omega))
  have HV := Lib.hid (fun W : World => sTimerValid_any t W)
  obtain ⟨R, hR⟩ : ∃ R, R = tstepF t x dt := ⟨_, rfl⟩
  rw [← hR] at HN HS
  have HR := Lib.hid hR
  have HI := Lib.hid (fun W : World => iTimerValid_any R W)
  clear hR
  unfold TmPost tmV at HN HS
  unfold tmV at HI HV ⊢
  have hx1 := boxT w1 t
  have hB1 := hb1.alloc hb1.size (.cells #[.int .i64 t.kind, .int .i64 t.pre, .int .i64 t.el, .bool t.bef, .bool t.out] 24)
  have hl1 := hb1.size
  obtain ⟨q, hq⟩ : ∃ q, q = w1.heap.size := ⟨_, rfl⟩
  go_upto_region 4 with fail
  rw [← hq] at hx1 ⊢
  generalize w1.alloc (.cells #[.int .i64 t.kind, .int .i64 t.pre, .int .i64 t.el, .bool t.bef, .bool t.out] 24) = W1 at hx1 hB1 ⊢
  rw [← hq] at hl1
  clear hb1 hq
  obtain ⟨a0, a1, a2, a3, a4, -⟩ := blk5 hx1
  have ha := blk_lt hx1
  go_wp2_with fail
  refine (HN.out _).mono ?_
  rintro e w2 ⟨rfl, hb2⟩
  have hy := boxT w2 R
  have hx := blk_alloc (blk_up hx1 hb2) (.cells #[.int .i64 R.kind, .int .i64 R.pre, .int .i64 R.el, .bool R.bef, .bool R.out] 24)
  have hB2 := hB1.trans (hb2.mono hB1.size)
  have hB := hB2.alloc hB2.size (.cells #[.int .i64 R.kind, .int .i64 R.pre, .int .i64 R.el, .bool R.bef, .bool R.out] 24)
  have hqq := blk_lt (blk_up hx1 hb2)
  obtain ⟨r, hr⟩ : ∃ r, r = w2.heap.size := ⟨_, rfl⟩
  clear a0 a1 a2 a3 a4 ha hB2 hb2 hx1 hB1
  go_upto_region 5 with fail
  rw [← hr] at hy hqq ⊢
  generalize w2.alloc (.cells #[.int .i64 R.kind, .int .i64 R.pre, .int .i64 R.el, .bool R.bef, .bool R.out] 24) = W at hx hy hB ⊢
  clear hr
  obtain ⟨a0, a1, a2, a3, a4, -⟩ := blk5 hx
  obtain ⟨c0, c1, c2, c3, c4, -⟩ := blk5 hy
  go_region_held3 (fun w' => (w'.cell? ⟨q, 0, none⟩ = some (.int .i64 t.kind) ∧ w'.cell? ⟨q, 1, none⟩ = some (.int .i64 t.pre) ∧ w'.cell? ⟨q, 2, none⟩ = some (.int .i64 t.el) ∧ w'.cell? ⟨q, 3, none⟩ = some (.bool t.bef) ∧ w'.cell? ⟨q, 4, none⟩ = some (.bool t.out)) ∧ w'.cell? ⟨r, 0, none⟩ = some (.int .i64 R.kind) ∧ w'.cell? ⟨r, 1, none⟩ = some (.int .i64 R.pre) ∧ w'.cell? ⟨r, 2, none⟩ = some (.int .i64 R.el) ∧ w'.cell? ⟨r, 3, none⟩ = some (.bool R.bef) ∧ w'.cell? ⟨r, 4, none⟩ = some (.bool R.out)) (first | go_keep)
    (first
      | (go_at_call 23; have tok := tok1; (with_reducible refine (HS.out _).mono ?_); rintro e w3 ⟨rfl, hb3⟩; have hx3 := blk_up (w := W.drew) hx hb3; have hy3 := blk_up (w := W.drew) hy hb3; obtain ⟨b0, b1, b2, b3, b4, -⟩ := blk5 hx3; obtain ⟨m0, m1, m2, m3, m4, -⟩ := blk5 hy3; have hB3 := hB.drew.trans (hb3.mono (by show w.heap.size ≤ W.heap.size; exact hB.size)); clear tok tok1))
  clear a0 a1 a2 a3 a4 c0 c1 c2 c3 c4 hx hy hb3 hB HN HS
  go_wp2_with fail
  refine (HV.out _).mono ?_
  rintro e w4 ⟨rfl, hb4⟩
  have hx4 := blk_up hx3 hb4
  have hy4 := blk_up hy3 hb4
  have hB4 := hB3.trans (hb4.mono hB3.size)
  clear b0 b1 b2 b3 b4 m0 m1 m2 m3 m4 hx3 hy3 hb4 hB3
  obtain ⟨b0, b1, b2, b3, b4, -⟩ := blk5 hx4
  obtain ⟨m0, m1, m2, m3, m4, -⟩ := blk5 hy4
  cases hv : tvalid t && inB dt 0 1000
  · obtain rfl : R = tzero := by rw [HR.out]; unfold tstepF; rw [hv]; rfl
    have hcase : tvalid t = false ∨ (tvalid t = true ∧ (dt = -1 ∨ dt = 1001)) := by
      cases h1 : tvalid t
      · exact .inl rfl
      · rw [h1] at hv
        refine .inr ⟨rfl, ?_⟩
        unfold inB at hv; simp at hv; omega
    clear HR hv HI
    unfold tzero at m0 m1 m2 m3 m4
    simp only at m0 m1 m2 m3 m4
    rcases hcase with h1 | ⟨h1, rfl | rfl⟩
    all_goals
      rw [h1]
      clear h1
      go_wp2_with fail
      refine (alive_any _).mono ?_
      rintro e w6 ⟨rfl, hb6⟩
      go_wp2
      go_ret
      exact ⟨rfl, hB4.trans (hb6.mono hB4.size)⟩
  · rw [Bool.and_eq_true] at hv
    obtain ⟨hv1, hv2⟩ := hv
    have hd2 : 0 ≤ dt ∧ dt ≤ 1000 := by unfold inB at hv2; simp at hv2; exact hv2
    have hRe : R = tstep t x dt := by rw [HR.out]; unfold tstepF; rw [hv1, hv2]; rfl
    have hRv : tvalid R = true := by rw [hRe]; exact tstep_valid x hv1 hd2.1
    obtain ⟨e1, e2, e3⟩ := tstep_kp t x dt
    have hvp := tvalid_parts hv1
    have e4 := (tstep_el t x dt hvp.2.1.1 hvp.2.2 hd2.1).2
    rw [← hRe] at e1 e2 e3 e4
    rw [hRv] at HI
    rw [hv1]
    clear hRe hRv HR hv1 hv2
    have d1 := hd2.1
    have d2 := hd2.2
    obtain ⟨rk, rp, rl, rb, ro⟩ := R
    simp only at e1 e2 e3 e4 HI m0 m1 m2 m3 m4 hy4
    subst e1 e2 e3
    have t1 := hvp.2.1
    have t2 := hvp.2.2
    clear hvp
    go_wp2_with fail
    refine (HI.out _).mono ?_
    rintro e w5 ⟨rfl, hb5⟩
    have hx5 := blk_up hx4 hb5
    have hy5 := blk_up hy4 hb5
    have hB5 := hB4.trans (hb5.mono hB4.size)
    clear b0 b1 b2 b3 b4 m0 m1 m2 m3 m4 hx4 hy4 hb5 hB4
    obtain ⟨b0, b1, b2, b3, b4, -⟩ := blk5 hx5
    obtain ⟨m0, m1, m2, m3, m4, -⟩ := blk5 hy5
    by_cases hz : rl = 0
    · subst hz
      clear e4
      go_wp2
      go_ret
      exact ⟨rfl, hB5⟩
    · have hq0 : (rl == 0) = false := by simpa using hz
      have hle : rl ≤ t.el + dt := by rcases e4 with h | h; exact absurd h hz; exact h
      clear e4 hz
      go_wp2
      go_ret
      exact ⟨rfl, hB5⟩
end Go.Proofs.Ytikebldmbabmiaa
