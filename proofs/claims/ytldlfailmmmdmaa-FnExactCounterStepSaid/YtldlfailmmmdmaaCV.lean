/- Counters of the specification: steps, reports. -/
import Derived.Test.YtldlfailmmmdmaaCS
namespace Go.Proofs.Ytldlfailmmmdmaa
open Go.RowKit
attribute [local go_sem ↓] Go.wp_at_zero Go.wp_at_succ

theorem boxC (w : World) (c : Cn) : (w.alloc (.cells #[.int .i64 c.pre, .int .i64 c.val, .bool c.up, .bool c.dn] 24)).heap[w.heap.size]? = some (.cells #[.int .i64 c.pre, .int .i64 c.val, .bool c.up, .bool c.dn] 24 (0, 0)) := heap_alloc_new w _
set_option maxHeartbeats 1000000 in
theorem sCounterStep_any (c : Cn) (u d r l : Bool) (w : World) (hf : fitC c) :
    Calls Try.prog 19 #[cnV c, .bool u, .bool d, .bool r, .bool l] w (CnPost (cstepF c u d r l) w) := by
  obtain ⟨R, hR⟩ : ∃ R, R = cstepF c u d r l := ⟨_, rfl⟩
  rw [← hR]
  have hb1 := blk_alloc (boxC w c) (.cells #[.int .i64 0, .int .i64 0, .bool false, .bool false] 24)
  have hb2 := heap_alloc_new (w.alloc (.cells #[.int .i64 c.pre, .int .i64 c.val, .bool c.up, .bool c.dn] 24)) (.cells #[.int .i64 0, .int .i64 0, .bool false, .bool false] 24)
  rw [World.size_alloc] at hb2
  have hB := ((Below.refl w.heap.size w).alloc (Nat.le_refl _) (.cells #[.int .i64 c.pre, .int .i64 c.val, .bool c.up, .bool c.dn] 24)).alloc (by simp) (.cells #[.int .i64 0, .int .i64 0, .bool false, .bool false] 24)
  have HV := Lib.hid (fun W : World => sCounterValid_any c W)
  have HS := Lib.hid (fun (W : World) (h1 : cvalid c = true) => l6Step_any c u d r l W h1)
  unfold cnV at HV HS ⊢
  cases hv : cvalid c
  · have HR := Lib.hid (show R = czero by rw [hR]; unfold cstepF; rw [hv]; rfl)
    clear hR
    obtain ⟨p, v, cu, cd⟩ := c
    simp only at HV HS hb1 hb2 hB hv ⊢
    go_enter Try.func19, Try.ntmps19
    go_wp2_with fail
    refine (HV.out _).mono ?_
    rw [hv]
    rintro e w1 ⟨rfl, hb⟩
    have c1 := (hb.block _ (blk_lt hb2)).trans hb2
    obtain ⟨d0, d1, d2, d3, e0, e1, e2, e3⟩ := blk4 c1
    have hB1 := hB.trans (hb.mono hB.size)
    clear hb1 hb2 hb hB c1
    go_wp2
    refine bodyPost_ret (v := cnV R) ?_ rfl ⟨rfl, (((hB1.setCell (by simp) _).setCell (by simp) _).setCell (by simp) _).setCell (by simp) _⟩
    rw [HR.out]
    simp [results, Try.results19, go_sem, cnV, czero, *]
  · have HR := Lib.hid (show R = cstep c u d r l by rw [hR]; unfold cstepF; rw [hv]; rfl)
    have HS2 := Lib.hid (fun W => HS.out W hv)
    rw [← HR.out] at HS2
    clear hR HS
    obtain ⟨p, v, cu, cd⟩ := c
    simp only at HV HS2 hb1 hb2 hB hv ⊢
    go_enter Try.func19, Try.ntmps19
    go_wp2_with fail
    refine (HV.out _).mono ?_
    rw [hv]
    rintro e w1 ⟨rfl, hb⟩
    have c0 := (hb.block _ (blk_lt hb1)).trans hb1
    have c1 := (hb.block _ (blk_lt hb2)).trans hb2
    obtain ⟨f0, f1, f2, f3, -⟩ := blk4 c0
    have hB1 := hB.trans (hb.mono hB.size)
    clear hb1 hb2 hb hB c0
    go_wp2_with fail
    refine (HS2.out _).mono ?_
    rintro e w3 ⟨rfl, hb⟩
    have c2 := (hb.block _ (blk_lt c1)).trans c1
    obtain ⟨d0, d1, d2, d3, e0, e1, e2, e3⟩ := blk4 c2
    have hB2 := hB1.trans (hb.mono hB1.size)
    clear hb hB1 c1 c2 f0 f1 f2 f3
    obtain ⟨rp, rv, ru, rd⟩ := R
    unfold cnV
    simp only
    go_wp2
    refine bodyPost_ret (v := cnV ⟨rp, rv, ru, rd⟩) ?_ rfl ⟨rfl, (((hB2.setCell (by simp) _).setCell (by simp) _).setCell (by simp) _).setCell (by simp) _⟩
    simp [results, Try.results19, go_sem, cnV, *]
set_option maxHeartbeats 1000000 in
theorem sCounterReached_any (c : Cn) (w : World) : Calls Try.prog 23 #[cnV c] w fun e w' => e = .returned (.bool (cvalid c && decide (c.pre ≤ c.val))) ∧ Below w.heap.size w w' := by
  have hb1 := boxC w c
  have hB := (Below.refl w.heap.size w).alloc (Nat.le_refl _) (.cells #[.int .i64 c.pre, .int .i64 c.val, .bool c.up, .bool c.dn] 24)
  have HV := Lib.hid (fun W : World => sCounterValid_any c W)
  unfold cnV at HV ⊢
  cases hv : cvalid c
  · go_enter Try.func23, Try.ntmps23
    go_wp2_with fail
    refine (HV.out _).mono ?_
    rw [hv]
    rintro e w1 ⟨rfl, hb⟩
    go_wp2
    go_ret
    exact ⟨rfl, hB.trans (hb.mono hB.size)⟩
  · go_enter Try.func23, Try.ntmps23
    go_wp2_with fail
    refine (HV.out _).mono ?_
    rw [hv]
    rintro e w1 ⟨rfl, hb⟩
    have c0 := (hb.block _ (blk_lt hb1)).trans hb1
    obtain ⟨f0, f1, f2, f3, -⟩ := blk4 c0
    go_wp2
    go_ret
    exact ⟨ret_bool (by simp), hB.trans (hb.mono hB.size)⟩
set_option maxHeartbeats 1000000 in
theorem sCounterEmpty_any (c : Cn) (w : World) : Calls Try.prog 26 #[cnV c] w fun e w' => e = .returned (.bool (cvalid c && decide (c.val = 0))) ∧ Below w.heap.size w w' := by
  have hb1 := boxC w c
  have hB := (Below.refl w.heap.size w).alloc (Nat.le_refl _) (.cells #[.int .i64 c.pre, .int .i64 c.val, .bool c.up, .bool c.dn] 24)
  have HV := Lib.hid (fun W : World => sCounterValid_any c W)
  unfold cnV at HV ⊢
  cases hv : cvalid c
  · go_enter Try.func26, Try.ntmps26
    go_wp2_with fail
    refine (HV.out _).mono ?_
    rw [hv]
    rintro e w1 ⟨rfl, hb⟩
    go_wp2
    go_ret
    exact ⟨rfl, hB.trans (hb.mono hB.size)⟩
  · go_enter Try.func26, Try.ntmps26
    go_wp2_with fail
    refine (HV.out _).mono ?_
    rw [hv]
    rintro e w1 ⟨rfl, hb⟩
    have c0 := (hb.block _ (blk_lt hb1)).trans hb1
    obtain ⟨f0, f1, f2, f3, -⟩ := blk4 c0
    go_wp2
    go_ret
    exact ⟨ret_bool (by simp [Bool.beq_eq_decide_eq]), hB.trans (hb.mono hB.size)⟩
end Go.Proofs.Ytldlfailmmmdmaa
