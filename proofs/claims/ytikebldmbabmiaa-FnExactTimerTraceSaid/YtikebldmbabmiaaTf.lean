/- The exact laws of TimerValid, NewTimer and TimerStep: their walks. -/
import Derived.Test.YtikebldmbabmiaaTa
namespace Go.Proofs.Ytikebldmbabmiaa
open Go.RowKit
attribute [local go_sem ↓] Go.wp_at_zero Go.wp_at_succ

theorem boxL (w : World) (t : Tm) : (w.alloc (.cells #[.int .i64 t.kind, .int .i64 t.pre, .int .i64 t.el, .bool t.bef, .bool t.out] 41)).heap[w.heap.size]? = some (.cells #[.int .i64 t.kind, .int .i64 t.pre, .int .i64 t.el, .bool t.bef, .bool t.out] 41 (0, 0)) := heap_alloc_new w _
set_option maxHeartbeats 1000000 in
theorem FnExactTimerValid_any (t : Tm) (W : World) (_hf : fitT t) : Calls Try.prog 10 #[tmV t] W (LawPost W) := by
  have HT := Lib.hid (fun w : World => toTimer_any t w)
  have HS := Lib.hid (fun w : World => sTimerValid_any t w)
  have HI := Lib.hid (fun w : World => iTimerValid_any t w)
  have hx := boxL W t
  have hB := (Below.refl W.heap.size W).alloc (Nat.le_refl _) (.cells #[.int .i64 t.kind, .int .i64 t.pre, .int .i64 t.el, .bool t.bef, .bool t.out] 41)
  unfold TmPost tmV at HT
  unfold tmV at HS HI ⊢
  go_enter Try.func10, Try.ntmps10
  go_wp2_with fail
  refine (HT.out _).mono ?_
  rintro e w1 ⟨rfl, hb1⟩
  have hx1 := blk_up hx hb1
  have hB1 := hB.trans (hb1.mono hB.size)
  clear hx hB hb1
  go_wp2_with fail
  refine (HS.out _).mono ?_
  rintro e w2 ⟨rfl, hb2⟩
  have hx2 := blk_up hx1 hb2
  have hB2 := hB1.trans (hb2.mono hB1.size)
  clear hx1 hB1 hb2
  obtain ⟨c0, c1, c2, c3, c4, -⟩ := blk5 hx2
  go_wp2_with fail
  refine (HT.out _).mono ?_
  rintro e w3 ⟨rfl, hb3⟩
  have hB3 := hB2.trans (hb3.mono hB2.size)
  clear hx2 hB2 hb3 c0 c1 c2 c3 c4
  go_wp2_with fail
  refine (HI.out _).mono ?_
  rintro e w4 ⟨rfl, hb4⟩
  go_wp2
  go_ret
  exact ⟨rfl, hB3.trans (hb4.mono hB3.size)⟩
set_option maxHeartbeats 1000000 in
theorem FnExactNewTimer_any (k p : Int) (W : World) (hk : -9223372036854775808 ≤ k ∧ k ≤ 9223372036854775807) (hp : -9223372036854775808 ≤ p ∧ p ≤ 9223372036854775807) : Calls Try.prog 11 #[.int .i64 k, .int .i64 p] W (LawPost W) := by
  have HS := Lib.hid (fun w : World => sNewTimer_any k p w hk hp)
  have HI := Lib.hid (fun w : World => iNewTimer_any k p w hk hp)
  obtain ⟨R, hR⟩ : ∃ R, R = tnew k p := ⟨_, rfl⟩
  rw [← hR] at HS HI
  clear hR
  have HE := Lib.hid (fun w : World => eqTimer_same R w)
  have hB := Below.refl W.heap.size W
  unfold TmPost tmV at HS HI
  unfold tmV at HE
  go_enter Try.func11, Try.ntmps11
  go_wp2_with fail
  refine (HS.out _).mono ?_
  rintro e w2 ⟨rfl, hb2⟩
  have hB2 := hB.trans (hb2.mono hB.size)
  clear hB hb2
  have hy2 := boxT w2 R
  have hB3 := hB2.alloc hB2.size (.cells #[.int .i64 R.kind, .int .i64 R.pre, .int .i64 R.el, .bool R.bef, .bool R.out] 24)
  clear hB2
  obtain ⟨q, hq⟩ : ∃ q, q = w2.heap.size := ⟨_, rfl⟩
  go_upto_region 2 with fail
  rw [← hq] at hy2 ⊢
  generalize w2.alloc (.cells #[.int .i64 R.kind, .int .i64 R.pre, .int .i64 R.el, .bool R.bef, .bool R.out] 24) = w3 at hy2 hB3 ⊢
  clear hq
  obtain ⟨w4, rfl⟩ : ∃ w', w' = w3 := ⟨_, rfl⟩
  have hy4 := hy2
  have hB4 := hB3
  go_wp2_with fail
  refine (HI.out _).mono ?_
  rintro e w5 ⟨rfl, hb5⟩
  have hy5 := blk_alloc (blk_up hy4 hb5) (.cells #[.int .i64 R.kind, .int .i64 R.pre, .int .i64 R.el, .bool R.bef, .bool R.out] 24)
  have hz5 := boxT w5 R
  have hB5 := (hB4.trans (hb5.mono hB4.size)).alloc (hB4.trans (hb5.mono hB4.size)).size (.cells #[.int .i64 R.kind, .int .i64 R.pre, .int .i64 R.el, .bool R.bef, .bool R.out] 24)
  obtain ⟨c0, c1, c2, c3, c4, -⟩ := blk5 hy5
  go_wp2_with fail
  refine (HE.out _).mono ?_
  rintro e w6 ⟨rfl, hb6⟩
  go_wp2
  go_ret
  exact ⟨rfl, hB5.trans (hb6.mono hB5.size)⟩
set_option maxHeartbeats 1000000 in
theorem FnExactTimerStep_any (t : Tm) (x : Bool) (d : Int) (W : World) (hf : fitT t) (hd : -9223372036854775808 ≤ d ∧ d ≤ 9223372036854775807) : Calls Try.prog 12 #[tmV t, .bool x, .int .i64 d] W (LawPost W) := by
  have HS := Lib.hid (fun w : World => sTimerStep_any t x d w hf hd)
  have HI := Lib.hid (fun w : World => iTimerStep_any t x d w hf hd)
  obtain ⟨R, hR⟩ : ∃ R, R = tstepF t x d := ⟨_, rfl⟩
  rw [← hR] at HS HI
  clear hR
  have HE := Lib.hid (fun w : World => eqTimer_same R w)
  have HT := Lib.hid (fun w : World => toTimer_any t w)
  have hx := boxL W t
  have hB := (Below.refl W.heap.size W).alloc (Nat.le_refl _) (.cells #[.int .i64 t.kind, .int .i64 t.pre, .int .i64 t.el, .bool t.bef, .bool t.out] 41)
  unfold TmPost tmV at HT
  unfold TmPost tmV at HS HI
  unfold tmV at HE ⊢
  go_enter Try.func12, Try.ntmps12
  go_wp2_with fail
  refine (HT.out _).mono ?_
  rintro e w1 ⟨rfl, hb1⟩
  have hx1 := blk_up hx hb1
  have hB1 := hB.trans (hb1.mono hB.size)
  clear hx hB hb1
  go_wp2_with fail
  refine (HS.out _).mono ?_
  rintro e w2 ⟨rfl, hb2⟩
  have hx2 := blk_alloc (blk_up hx1 hb2) (.cells #[.int .i64 R.kind, .int .i64 R.pre, .int .i64 R.el, .bool R.bef, .bool R.out] 24)
  have hB2 := hB1.trans (hb2.mono hB1.size)
  clear hx1 hB1 hb2
  have hy2 := boxT w2 R
  have hB3 := hB2.alloc hB2.size (.cells #[.int .i64 R.kind, .int .i64 R.pre, .int .i64 R.el, .bool R.bef, .bool R.out] 24)
  clear hB2
  obtain ⟨q, hq⟩ : ∃ q, q = w2.heap.size := ⟨_, rfl⟩
  go_upto_region 2 with fail
  rw [← hq] at hy2 ⊢
  generalize w2.alloc (.cells #[.int .i64 R.kind, .int .i64 R.pre, .int .i64 R.el, .bool R.bef, .bool R.out] 24) = w3 at hy2 hB3 hx2 ⊢
  clear hq
  obtain ⟨c0, c1, c2, c3, c4, -⟩ := blk5 hx2
  go_wp2_with fail
  refine (HT.out _).mono ?_
  rintro e w4 ⟨rfl, hb4⟩
  have hy4 := blk_up hy2 hb4
  have hB4 := hB3.trans (hb4.mono hB3.size)
  clear hx2 hy2 hB3 hb4 c0 c1 c2 c3 c4
  go_wp2_with fail
  refine (HI.out _).mono ?_
  rintro e w5 ⟨rfl, hb5⟩
  have hy5 := blk_alloc (blk_up hy4 hb5) (.cells #[.int .i64 R.kind, .int .i64 R.pre, .int .i64 R.el, .bool R.bef, .bool R.out] 24)
  have hz5 := boxT w5 R
  have hB5 := (hB4.trans (hb5.mono hB4.size)).alloc (hB4.trans (hb5.mono hB4.size)).size (.cells #[.int .i64 R.kind, .int .i64 R.pre, .int .i64 R.el, .bool R.bef, .bool R.out] 24)
  obtain ⟨c0, c1, c2, c3, c4, -⟩ := blk5 hy5
  go_wp2_with fail
  refine (HE.out _).mono ?_
  rintro e w6 ⟨rfl, hb6⟩
  go_wp2
  go_ret
  exact ⟨rfl, hB5.trans (hb6.mono hB5.size)⟩
end Go.Proofs.Ytikebldmbabmiaa
