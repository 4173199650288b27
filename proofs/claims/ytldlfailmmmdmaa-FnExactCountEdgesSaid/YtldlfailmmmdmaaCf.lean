/- The exact laws of CounterValid, CounterReached, CounterEmpty and CounterStep: their walks. -/
import Derived.Test.YtldlfailmmmdmaaCa
namespace Go.Proofs.Ytldlfailmmmdmaa
open Go.RowKit
attribute [local go_sem ↓] Go.wp_at_zero Go.wp_at_succ

theorem boxLC (w : World) (c : Cn) : (w.alloc (.cells #[.int .i64 c.pre, .int .i64 c.val, .bool c.up, .bool c.dn] 38)).heap[w.heap.size]? = some (.cells #[.int .i64 c.pre, .int .i64 c.val, .bool c.up, .bool c.dn] 38 (0, 0)) := heap_alloc_new w _
set_option maxHeartbeats 1000000 in
theorem FnExactCounterValid_any (c : Cn) (W : World) (_hf : fitC c) : Calls Try.prog 8 #[cnV c] W (LawPost W) := by
  have HT := Lib.hid (fun w : World => toCounter_any c w)
  have HS := Lib.hid (fun w : World => sCounterValid_any c w)
  have HI := Lib.hid (fun w : World => iCounterValid_any c w)
  obtain ⟨B, hBe⟩ : ∃ B, B = (cvalid c) := ⟨_, rfl⟩
  rw [← hBe] at HI HS
  clear hBe
  have hx := boxLC W c
  have hB := (Below.refl W.heap.size W).alloc (Nat.le_refl _) (.cells #[.int .i64 c.pre, .int .i64 c.val, .bool c.up, .bool c.dn] 38)
  unfold CnPost cnV at HT
  unfold cnV at HS HI ⊢
  go_enter Try.func8, Try.ntmps8
  go_wp2_with fail
  refine (HT.out _).mono ?_
  rintro e w1 ⟨rfl, hb1⟩
  have hx1 := blk_up hx hb1
  have hB1 := hB.trans (hb1.mono hB.size)
  clear hx hB hb1
  go_wp2_with fail
  refine (HS.out _).mono ?_
  rintro e w2 ⟨rfl, hb2⟩
  have hx2 := blk_up hx1 hb2
  have hB2 := hB1.trans (hb2.mono hB1.size)
  clear hx1 hB1 hb2
  obtain ⟨c0, c1, c2, c3, -⟩ := blk4 hx2
  go_wp2_with fail
  refine (HT.out _).mono ?_
  rintro e w3 ⟨rfl, hb3⟩
  have hB3 := hB2.trans (hb3.mono hB2.size)
  clear hx2 hB2 hb3 c0 c1 c2 c3
  go_wp2_with fail
  refine (HI.out _).mono ?_
  rintro e w4 ⟨rfl, hb4⟩
  go_wp2
  go_ret
  exact ⟨rfl, hB3.trans (hb4.mono hB3.size)⟩
set_option maxHeartbeats 1000000 in
theorem FnExactCounterReached_any (c : Cn) (W : World) (_hf : fitC c) : Calls Try.prog 10 #[cnV c] W (LawPost W) := by
  have HT := Lib.hid (fun w : World => toCounter_any c w)
  have HS := Lib.hid (fun w : World => sCounterReached_any c w)
  have HI := Lib.hid (fun w : World => iCounterReached_any c w)
  obtain ⟨B, hBe⟩ : ∃ B, B = (cvalid c && decide (c.pre ≤ c.val)) := ⟨_, rfl⟩
  rw [← hBe] at HI HS
  clear hBe
  have hx := boxLC W c
  have hB := (Below.refl W.heap.size W).alloc (Nat.le_refl _) (.cells #[.int .i64 c.pre, .int .i64 c.val, .bool c.up, .bool c.dn] 38)
  unfold CnPost cnV at HT
  unfold cnV at HS HI ⊢
  go_enter Try.func10, Try.ntmps10
  go_wp2_with fail
  refine (HT.out _).mono ?_
  rintro e w1 ⟨rfl, hb1⟩
  have hx1 := blk_up hx hb1
  have hB1 := hB.trans (hb1.mono hB.size)
  clear hx hB hb1
  go_wp2_with fail
  refine (HS.out _).mono ?_
  rintro e w2 ⟨rfl, hb2⟩
  have hx2 := blk_up hx1 hb2
  have hB2 := hB1.trans (hb2.mono hB1.size)
  clear hx1 hB1 hb2
  obtain ⟨c0, c1, c2, c3, -⟩ := blk4 hx2
  go_wp2_with fail
  refine (HT.out _).mono ?_
  rintro e w3 ⟨rfl, hb3⟩
  have hB3 := hB2.trans (hb3.mono hB2.size)
  clear hx2 hB2 hb3 c0 c1 c2 c3
  go_wp2_with fail
  refine (HI.out _).mono ?_
  rintro e w4 ⟨rfl, hb4⟩
  go_wp2
  go_ret
  exact ⟨rfl, hB3.trans (hb4.mono hB3.size)⟩
set_option maxHeartbeats 1000000 in
theorem FnExactCounterEmpty_any (c : Cn) (W : World) (_hf : fitC c) : Calls Try.prog 11 #[cnV c] W (LawPost W) := by
  have HT := Lib.hid (fun w : World => toCounter_any c w)
  have HS := Lib.hid (fun w : World => sCounterEmpty_any c w)
  have HI := Lib.hid (fun w : World => iCounterEmpty_any c w)
  obtain ⟨B, hBe⟩ : ∃ B, B = (cvalid c && decide (c.val = 0)) := ⟨_, rfl⟩
  rw [← hBe] at HI HS
  clear hBe
  have hx := boxLC W c
  have hB := (Below.refl W.heap.size W).alloc (Nat.le_refl _) (.cells #[.int .i64 c.pre, .int .i64 c.val, .bool c.up, .bool c.dn] 38)
  unfold CnPost cnV at HT
  unfold cnV at HS HI ⊢
  go_enter Try.func11, Try.ntmps11
  go_wp2_with fail
  refine (HT.out _).mono ?_
  rintro e w1 ⟨rfl, hb1⟩
  have hx1 := blk_up hx hb1
  have hB1 := hB.trans (hb1.mono hB.size)
  clear hx hB hb1
  go_wp2_with fail
  refine (HS.out _).mono ?_
  rintro e w2 ⟨rfl, hb2⟩
  have hx2 := blk_up hx1 hb2
  have hB2 := hB1.trans (hb2.mono hB1.size)
  clear hx1 hB1 hb2
  obtain ⟨c0, c1, c2, c3, -⟩ := blk4 hx2
  go_wp2_with fail
  refine (HT.out _).mono ?_
  rintro e w3 ⟨rfl, hb3⟩
  have hB3 := hB2.trans (hb3.mono hB2.size)
  clear hx2 hB2 hb3 c0 c1 c2 c3
  go_wp2_with fail
  refine (HI.out _).mono ?_
  rintro e w4 ⟨rfl, hb4⟩
  go_wp2
  go_ret
  exact ⟨rfl, hB3.trans (hb4.mono hB3.size)⟩
set_option maxHeartbeats 1000000 in
theorem FnExactCounterStep_any (c : Cn) (x1 x2 x3 x4 : Bool) (W : World) (hf : fitC c) : Calls Try.prog 9 #[cnV c, .bool x1, .bool x2, .bool x3, .bool x4] W (LawPost W) := by
  have HS := Lib.hid (fun w : World => sCounterStep_any c x1 x2 x3 x4 w hf)
  have HI := Lib.hid (fun w : World => iCounterStep_any c x1 x2 x3 x4 w hf)
  obtain ⟨R, hR⟩ : ∃ R, R = cstepF c x1 x2 x3 x4 := ⟨_, rfl⟩
  rw [← hR] at HS HI
  clear hR
  have HE := Lib.hid (fun w : World => eqCounter_same R w)
  have HT := Lib.hid (fun w : World => toCounter_any c w)
  have hx := boxLC W c
  have hB := (Below.refl W.heap.size W).alloc (Nat.le_refl _) (.cells #[.int .i64 c.pre, .int .i64 c.val, .bool c.up, .bool c.dn] 38)
  unfold CnPost cnV at HT
  unfold CnPost cnV at HS HI
  unfold cnV at HE ⊢
  go_enter Try.func9, Try.ntmps9
  go_wp2_with fail
  refine (HT.out _).mono ?_
  rintro e w1 ⟨rfl, hb1⟩
  have hx1 := blk_up hx hb1
  have hB1 := hB.trans (hb1.mono hB.size)
  clear hx hB hb1
  go_wp2_with fail
  refine (HS.out _).mono ?_
  rintro e w2 ⟨rfl, hb2⟩
  have hx2 := blk_alloc (blk_up hx1 hb2) (.cells #[.int .i64 R.pre, .int .i64 R.val, .bool R.up, .bool R.dn] 24)
  have hB2 := hB1.trans (hb2.mono hB1.size)
  clear hx1 hB1 hb2
  have hy2 := boxC w2 R
  have hB3 := hB2.alloc hB2.size (.cells #[.int .i64 R.pre, .int .i64 R.val, .bool R.up, .bool R.dn] 24)
  clear hB2
  obtain ⟨q, hq⟩ : ∃ q, q = w2.heap.size := ⟨_, rfl⟩
  go_upto_region 2 with fail
  rw [← hq] at hy2 ⊢
  generalize w2.alloc (.cells #[.int .i64 R.pre, .int .i64 R.val, .bool R.up, .bool R.dn] 24) = w3 at hy2 hB3 hx2 ⊢
  clear hq
  obtain ⟨c0, c1, c2, c3, -⟩ := blk4 hx2
  go_wp2_with fail
  refine (HT.out _).mono ?_
  rintro e w4 ⟨rfl, hb4⟩
  have hy4 := blk_up hy2 hb4
  have hB4 := hB3.trans (hb4.mono hB3.size)
  clear hx2 hy2 hB3 hb4 c0 c1 c2 c3
  go_wp2_with fail
  refine (HI.out _).mono ?_
  rintro e w5 ⟨rfl, hb5⟩
  have hy5 := blk_alloc (blk_up hy4 hb5) (.cells #[.int .i64 R.pre, .int .i64 R.val, .bool R.up, .bool R.dn] 24)
  have hB5 := (hB4.trans (hb5.mono hB4.size)).alloc (hB4.trans (hb5.mono hB4.size)).size (.cells #[.int .i64 R.pre, .int .i64 R.val, .bool R.up, .bool R.dn] 24)
  obtain ⟨c0, c1, c2, c3, -⟩ := blk4 hy5
  go_wp2_with fail
  refine (HE.out _).mono ?_
  rintro e w6 ⟨rfl, hb6⟩
  go_wp2
  go_ret
  exact ⟨rfl, hB5.trans (hb6.mono hB5.size)⟩
end Go.Proofs.Ytldlfailmmmdmaa
