/- Counters: the exact laws' helpers; the draws. -/
import Derived.Test.YtldlfailmmmdmaaCQ
import Derived.Deep.RegionHeld3
namespace Go.Proofs.Ytldlfailmmmdmaa
open Go.RowKit
attribute [local go_sem ↓] Go.wp_at_zero Go.wp_at_succ

set_option maxHeartbeats 1000000 in
theorem toCounter_any (c : Cn) (w : World) : Calls Try.prog 31 #[cnV c] w (CnPost c w) := by
  unfold cnV
  go_enter Try.func31, Try.ntmps31
  go_wp2
  exact bodyPost_ret (v := .agg #[.int .i64 c.pre, .int .i64 c.val, .bool c.up, .bool c.dn]) (by simp [results, Try.results31, go_sem]) rfl ⟨rfl, (((Below.refl _ _).alloc (Nat.le_refl _) _).alloc (by simp) _).alloc (by simp; omega) _⟩
set_option maxHeartbeats 1000000 in
theorem eqCounter_same (c : Cn) (w : World) : Calls Try.prog 32 #[cnV c, cnV c] w fun e w' => e = .returned (.bool true) ∧ Below w.heap.size w w' := by
  unfold cnV
  go_enter Try.func32, Try.ntmps32
  go_wp2
  go_ret
  exact ⟨rfl, ((Below.refl _ _).alloc (Nat.le_refl _) _).alloc (by simp) _⟩
def smallC (c : Cn) : Prop := (-1 ≤ c.pre ∧ c.pre ≤ 10000) ∧ (-1 ≤ c.val ∧ c.val ≤ 10000)
theorem smallC.fit {c : Cn} (h : smallC c) : fitC c := by unfold smallC at h; unfold fitC; omega
def DrawC (w : World) (e : Ending) (w' : World) : Prop := ∃ c, e = .returned (cnV c) ∧ smallC c ∧ Below w.heap.size w w'
set_option maxHeartbeats 2000000 in
theorem drawCounterValid_any (v : Value) (l : List Int) (w : World) (h : BytesR w w.heap.size v l) :
    Calls Try.prog 13 #[v] w (DrawC w) := by
  have HO := Lib.hid (fun o => open_any2 v l w o h)
  obtain ⟨A, n0, c, rfl⟩ := h.formD
  clear h
  have tok1 : True := trivial
  go_enter Try.func13, Try.ntmps13
  go_wp2_with fail
  refine (HO.out _).mono ?_
  rintro e w1 ⟨rfl, hR1, hb1⟩
  have hx1 := (hb1.block w.heap.size (by omega)).trans (heap_alloc_new w _)
  have hF1 : Fr w.heap.size (w.heap.size + 1) w w1 := Fr.of_below _ (((Below.refl _ _).alloc (Nat.le_refl _) _).trans (hb1.mono (by omega)))
  clear hb1 HO
  go_wp2_with fail
  refine (counter_any _ 0 2 _ hR1 (by omega) (by omega)).mono ?_
  rintro e w2 ⟨p, v, b, o, rfl, hp, hv, hR2, hF2⟩
  have hx2 := (hF2.block _ (blk_lt hx1) (by omega)).trans hx1
  have hl2 := hR2.lt
  replace hF2 := hF1.trans (hF2.mono hF1.size)
  obtain ⟨d0, d1, d2, d3, e0, e1, e2, e3⟩ := blk4 hx2
  clear hx1 hx2 hR1 hF1
  go_wp2
  exact bodyPost_ret (v := cnV ⟨p, v, b, o⟩) (by simp [results, Try.results13, go_sem, cnV, *]) rfl ⟨_, rfl, ⟨hp, hv⟩, ((((hF2.setCell (.inl (Nat.le_refl _)) _).setCell (.inl (Nat.le_refl _)) _).setCell (.inl (Nat.le_refl _)) _).setCell (.inl (Nat.le_refl _)) _).below (by omega)⟩
set_option maxHeartbeats 2000000 in
theorem drawCounterReached_any (v : Value) (l : List Int) (w : World) (h : BytesR w w.heap.size v l) :
    Calls Try.prog 21 #[v] w (DrawC w) := by
  have HO := Lib.hid (fun o => open_any2 v l w o h)
  obtain ⟨A, n0, c, rfl⟩ := h.formD
  clear h
  have tok1 : True := trivial
  go_enter Try.func21, Try.ntmps21
  go_wp2_with fail
  refine (HO.out _).mono ?_
  rintro e w1 ⟨rfl, hR1, hb1⟩
  have hx1 := (hb1.block w.heap.size (by omega)).trans (heap_alloc_new w _)
  have hF1 : Fr w.heap.size (w.heap.size + 1) w w1 := Fr.of_below _ (((Below.refl _ _).alloc (Nat.le_refl _) _).trans (hb1.mono (by omega)))
  clear hb1 HO
  go_wp2_with fail
  refine (counter_any _ 0 6 _ hR1 (by omega) (by omega)).mono ?_
  rintro e w2 ⟨p, v, b, o, rfl, hp, hv, hR2, hF2⟩
  have hx2 := (hF2.block _ (blk_lt hx1) (by omega)).trans hx1
  have hl2 := hR2.lt
  replace hF2 := hF1.trans (hF2.mono hF1.size)
  obtain ⟨d0, d1, d2, d3, e0, e1, e2, e3⟩ := blk4 hx2
  clear hx1 hx2 hR1 hF1
  go_wp2
  exact bodyPost_ret (v := cnV ⟨p, v, b, o⟩) (by simp [results, Try.results21, go_sem, cnV, *]) rfl ⟨_, rfl, ⟨hp, hv⟩, ((((hF2.setCell (.inl (Nat.le_refl _)) _).setCell (.inl (Nat.le_refl _)) _).setCell (.inl (Nat.le_refl _)) _).setCell (.inl (Nat.le_refl _)) _).below (by omega)⟩
set_option maxHeartbeats 2000000 in
theorem drawCounterEmpty_any (v : Value) (l : List Int) (w : World) (h : BytesR w w.heap.size v l) :
    Calls Try.prog 24 #[v] w (DrawC w) := by
  have HO := Lib.hid (fun o => open_any2 v l w o h)
  obtain ⟨A, n0, c, rfl⟩ := h.formD
  clear h
  have tok1 : True := trivial
  go_enter Try.func24, Try.ntmps24
  go_wp2_with fail
  refine (HO.out _).mono ?_
  rintro e w1 ⟨rfl, hR1, hb1⟩
  have hx1 := (hb1.block w.heap.size (by omega)).trans (heap_alloc_new w _)
  have hF1 : Fr w.heap.size (w.heap.size + 1) w w1 := Fr.of_below _ (((Below.refl _ _).alloc (Nat.le_refl _) _).trans (hb1.mono (by omega)))
  clear hb1 HO
  go_wp2_with fail
  refine (counter_any _ 0 6 _ hR1 (by omega) (by omega)).mono ?_
  rintro e w2 ⟨p, v, b, o, rfl, hp, hv, hR2, hF2⟩
  have hx2 := (hF2.block _ (blk_lt hx1) (by omega)).trans hx1
  have hl2 := hR2.lt
  replace hF2 := hF1.trans (hF2.mono hF1.size)
  obtain ⟨d0, d1, d2, d3, e0, e1, e2, e3⟩ := blk4 hx2
  clear hx1 hx2 hR1 hF1
  go_wp2
  exact bodyPost_ret (v := cnV ⟨p, v, b, o⟩) (by simp [results, Try.results24, go_sem, cnV, *]) rfl ⟨_, rfl, ⟨hp, hv⟩, ((((hF2.setCell (.inl (Nat.le_refl _)) _).setCell (.inl (Nat.le_refl _)) _).setCell (.inl (Nat.le_refl _)) _).setCell (.inl (Nat.le_refl _)) _).below (by omega)⟩
def DrawCB (w : World) (e : Ending) (w' : World) : Prop := ∃ c u d r l, e = .returned (.tuple #[cnV c, .bool u, .bool d, .bool r, .bool l]) ∧ smallC c ∧ Below w.heap.size w w'
def DrawCS (w : World) (e : Ending) (w' : World) : Prop := ∃ c A cc l, e = .returned (.tuple #[cnV c, .slice A l.length cc]) ∧ smallC c ∧ OwnB w' w.heap.size (.slice A l.length cc) l ∧ l.length ≤ 201 ∧ Below w.heap.size w w'
set_option maxHeartbeats 2000000 in
theorem drawCounterStep_any (v : Value) (l : List Int) (w : World) (h : BytesR w w.heap.size v l) :
    Calls Try.prog 17 #[v] w (DrawCB w) := by
  have HO := Lib.hid (fun o => open_any2 v l w o h)
  obtain ⟨A, n0, c, rfl⟩ := h.formD
  clear h
  have tok1 : True := trivial
  go_enter Try.func17, Try.ntmps17
  go_wp2_with fail
  refine (HO.out _).mono ?_
  rintro e w1 ⟨rfl, hR1, hb1⟩
  have hx1 := (hb1.block w.heap.size (by omega)).trans (heap_alloc_new w _)
  have hF1 : Fr w.heap.size (w.heap.size + 1) w w1 := Fr.of_below _ (((Below.refl _ _).alloc (Nat.le_refl _) _).trans (hb1.mono (by omega)))
  clear hb1 HO
  go_wp2_with fail
  refine (counter_any _ 0 12 _ hR1 (by omega) (by omega)).mono ?_
  rintro e w2 ⟨p, v, b, o, rfl, hp, hv, hR2, hF2⟩
  have hx2 := (hF2.block _ (blk_lt hx1) (by omega)).trans hx1
  have hl2 := hR2.lt
  replace hF2 := hF1.trans (hF2.mono hF1.size)
  clear hx1 hR1 hF1
  have hy3 := heap_alloc_new w2 (.cells #[.int .i64 p, .int .i64 v, .bool b, .bool o] 24)
  have hx3 := blk_alloc hx2 (.cells #[.int .i64 p, .int .i64 v, .bool b, .bool o] 24)
  have hR3 := hR2.below ((Below.refl _ _).alloc (Nat.le_refl _) (.cells #[.int .i64 p, .int .i64 v, .bool b, .bool o] 24))
  have hF3 := hF2.alloc (by omega) (.cells #[.int .i64 p, .int .i64 v, .bool b, .bool o] 24)
  clear hx2 hR2 hF2
  go_wp2_with fail
  refine (pick_any _ 20 2 _ hR3 (by omega) (by omega)).mono ?_
  rintro e w4 ⟨r4, rfl, hr4, hR4, hF4⟩
  have hx4 := (hF4.block _ (blk_lt hx3) (by omega)).trans hx3
  have hy4 := (hF4.block _ (blk_lt hy3) (by omega)).trans hy3
  have hs3 := hF3.size
  replace hF4 := hF3.trans (hF4.mono hs3)
  clear hR3 hF3 hx3 hy3 hr4
  go_wp2_with fail
  refine (pick_any _ 21 2 _ hR4 (by omega) (by omega)).mono ?_
  rintro e w5 ⟨r5, rfl, hr5, hR5, hF5⟩
  have hx5 := (hF5.block _ (blk_lt hx4) (by omega)).trans hx4
  have hy5 := (hF5.block _ (blk_lt hy4) (by omega)).trans hy4
  have hs4 := hF4.size
  replace hF5 := hF4.trans (hF5.mono hs4)
  clear hR4 hF4 hx4 hy4 hr5
  go_wp2_with fail
  refine (pick_any _ 22 5 _ hR5 (by omega) (by omega)).mono ?_
  rintro e w7 ⟨r7, rfl, hr7, hR7, hF7⟩
  have hx7 := (hF7.block _ (blk_lt hx5) (by omega)).trans hx5
  have hy7 := (hF7.block _ (blk_lt hy5) (by omega)).trans hy5
  have hs5 := hF5.size
  replace hF7 := hF5.trans (hF7.mono hs5)
  clear hR5 hF5 hx5 hy5 hr7
  obtain ⟨c0, c1, c2, c3, -⟩ := blk4 hy7
  have hg7 := hR7.lt
  have hn1 : w2.heap.size ≠ w.heap.size := by omega
  have hn2 : w.heap.size ≠ w2.heap.size := by omega
  go_wp2_with fail
  go_region_held3 (fun w' => w'.cell? ⟨w2.heap.size, 0, none⟩ = some (.int .i64 p) ∧ w'.cell? ⟨w2.heap.size, 1, none⟩ = some (.int .i64 v) ∧ w'.cell? ⟨w2.heap.size, 2, none⟩ = some (.bool b) ∧ w'.cell? ⟨w2.heap.size, 3, none⟩ = some (.bool o)) (first | go_keep)
    (first
      | (go_at_call 40; have tok := tok1; (with_reducible refine (pick_any (w.heap.size + 1) 23 5 _ hR7.drew (by omega) (by omega)).mono ?_); rintro e w6 ⟨r6, rfl, hr6, hR6, hF6⟩; have hx6 := (hF6.block _ (blk_lt hx7) (by omega)).trans hx7; have hy6 := (hF6.block _ (blk_lt hy7) (by omega)).trans hy7; obtain ⟨m0, m1, m2, m3, -⟩ := blk4 hy6; obtain ⟨d0, d1, d2, d3, e0, e1, e2, e3⟩ := blk4 hx6; have hF6' := hF7.drew.trans (hF6.mono (by have := hF7.size; exact this)); clear tok tok1))
  go_wp2
  exact bodyPost_ret (v := .tuple #[cnV ⟨p, v, b, o⟩, .bool (r4 == 0), .bool (r5 == 0), .bool (r7 == 0), .bool (r6 == 0)]) (by simp [results, Try.results17, go_sem, cnV, *]) rfl ⟨_, _, _, _, _, rfl, ⟨hp, hv⟩, ((((hF6'.setCell (.inl (Nat.le_refl _)) _).setCell (.inl (Nat.le_refl _)) _).setCell (.inl (Nat.le_refl _)) _).setCell (.inl (Nat.le_refl _)) _).below (by omega)⟩
set_option maxHeartbeats 2000000 in
theorem drawCountEdges_any (v : Value) (l : List Int) (w : World) (h : BytesR w w.heap.size v l) :
    Calls Try.prog 27 #[v] w (DrawCS w) := by
  have HO := Lib.hid (fun o => open_any2 v l w o h)
  obtain ⟨A, n0, c, rfl⟩ := h.formD
  clear h
  have tok1 : True := trivial
  go_enter Try.func27, Try.ntmps27
  go_wp2_with fail
  refine (HO.out _).mono ?_
  rintro e w1 ⟨rfl, hR1, hb1⟩
  have hx1 := (hb1.block w.heap.size (by omega)).trans (heap_alloc_new w _)
  have hF1 : Fr w.heap.size (w.heap.size + 1) w w1 := Fr.of_below _ (((Below.refl _ _).alloc (Nat.le_refl _) _).trans (hb1.mono (by omega)))
  clear hb1 HO
  go_wp2_with fail
  refine (counter_any _ 0 12 _ hR1 (by omega) (by omega)).mono ?_
  rintro e w2 ⟨p, v, b, o, rfl, hp, hv, hR2, hF2⟩
  have hx2 := (hF2.block _ (blk_lt hx1) (by omega)).trans hx1
  have hl2 := hR2.lt
  replace hF2 := hF1.trans (hF2.mono hF1.size)
  clear hx1 hR1 hF1
  have hy3 := heap_alloc_new w2 (.cells #[.int .i64 p, .int .i64 v, .bool b, .bool o] 24)
  have hx3 := blk_alloc hx2 (.cells #[.int .i64 p, .int .i64 v, .bool b, .bool o] 24)
  have hR3 := hR2.below ((Below.refl _ _).alloc (Nat.le_refl _) (.cells #[.int .i64 p, .int .i64 v, .bool b, .bool o] 24))
  have hF3 := hF2.alloc (by omega) (.cells #[.int .i64 p, .int .i64 v, .bool b, .bool o] 24)
  clear hx2 hR2 hF2
  obtain ⟨c0, c1, c2, c3, -⟩ := blk4 hy3
  have hg3 := hR3.lt
  have hn1 : w2.heap.size ≠ w.heap.size := by omega
  have hn2 : w.heap.size ≠ w2.heap.size := by omega
  go_wp2_with fail
  go_region_held3 (fun w' => w'.cell? ⟨w2.heap.size, 0, none⟩ = some (.int .i64 p) ∧ w'.cell? ⟨w2.heap.size, 1, none⟩ = some (.int .i64 v) ∧ w'.cell? ⟨w2.heap.size, 2, none⟩ = some (.bool b) ∧ w'.cell? ⟨w2.heap.size, 3, none⟩ = some (.bool o)) (first | go_keep)
    (first
      | (go_at_call 45; have tok := tok1; (with_reducible refine (signal_any _ 20 _ hR3.drew (by omega)).mono ?_); rintro e w6 ⟨v6, l, rfl, hO, hl, hR6, hF6⟩; have hx6 := (hF6.block _ (blk_lt hx3) (by omega)).trans hx3; have hy6 := (hF6.block _ (blk_lt hy3) (by omega)).trans hy3; obtain ⟨m0, m1, m2, m3, -⟩ := blk4 hy6; obtain ⟨d0, d1, d2, d3, e0, e1, e2, e3⟩ := blk4 hx6; have hF6' := hF3.drew.trans (hF6.mono (by have := hF3.size; exact this)); have hO6 := mono_own (b' := w.heap.size + 1) hO (by show w.heap.size + 1 ≤ (w2.alloc _).heap.size; simp; omega); obtain ⟨A6, cc6, rfl, -, -⟩ := own_form hO; have HL := Lib.hid hl; clear hl hO; clear tok tok1))
  go_wp2
  refine bodyPost_ret (v := .tuple #[cnV ⟨p, v, b, o⟩, .slice A6 l.length cc6]) (by simp [results, Try.results27, go_sem, cnV, *]) rfl ⟨_, _, _, l, rfl, ⟨hp, hv⟩, ?_, HL.out, ((((hF6'.setCell (.inl (Nat.le_refl _)) _).setCell (.inl (Nat.le_refl _)) _).setCell (.inl (Nat.le_refl _)) _).setCell (.inl (Nat.le_refl _)) _).below (by omega)⟩
  exact mono_own (ownsRow_setCell_below (ownsRow_setCell_below (ownsRow_setCell_below (ownsRow_setCell_below hO6 (by show w.heap.size < _; omega) _) (by show w.heap.size < _; omega) _) (by show w.heap.size < _; omega) _) (by show w.heap.size < _; omega) _) (by omega)
end Go.Proofs.Ytldlfailmmmdmaa
