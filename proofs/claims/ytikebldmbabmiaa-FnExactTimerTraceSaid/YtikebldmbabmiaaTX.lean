/- Timers: the exact laws' helpers; the draws. -/
import Derived.Test.YtikebldmbabmiaaTW
import Derived.Test.YtikebldmbabmiaaV
import Derived.Deep.RegionHeld3
namespace Go.Proofs.Ytikebldmbabmiaa
open Go.RowKit
attribute [local go_sem ↓] Go.wp_at_zero Go.wp_at_succ

set_option maxHeartbeats 1000000 in
theorem toTimer_any (t : Tm) (w : World) : Calls Try.prog 28 #[tmV t] w (TmPost t w) := by
  unfold tmV
  go_enter Try.func28, Try.ntmps28
  go_wp2
  exact bodyPost_ret (v := .agg #[.int .i64 t.kind, .int .i64 t.pre, .int .i64 t.el, .bool t.bef, .bool t.out]) (by simp [results, Try.results28, go_sem]) rfl ⟨rfl, (((Below.refl _ _).alloc (Nat.le_refl _) _).alloc (by simp) _).alloc (by simp; omega) _⟩
set_option maxHeartbeats 1000000 in
theorem eqTimer_same (t : Tm) (w : World) : Calls Try.prog 29 #[tmV t, tmV t] w fun e w' => e = .returned (.bool true) ∧ Below w.heap.size w w' := by
  unfold tmV
  go_enter Try.func29, Try.ntmps29
  go_wp2
  go_ret
  exact ⟨rfl, ((Below.refl _ _).alloc (Nat.le_refl _) _).alloc (by simp) _⟩
def smallT (t : Tm) : Prop := (0 ≤ t.kind ∧ t.kind ≤ 4) ∧ (-1 ≤ t.pre ∧ t.pre ≤ 10001) ∧ (-1 ≤ t.el ∧ t.el ≤ 10001)
theorem smallT.fit {t : Tm} (h : smallT t) : fitT t := by unfold smallT at h; unfold fitT; omega
def DrawT (w : World) (e : Ending) (w' : World) : Prop := ∃ t, e = .returned (tmV t) ∧ smallT t ∧ Below w.heap.size w w'
set_option maxHeartbeats 1000000 in
theorem drawTimerValid_any (v : Value) (l : List Int) (w : World) (h : BytesR w w.heap.size v l) :
    Calls Try.prog 14 #[v] w (DrawT w) := by
  have HO := Lib.hid (fun o => open_any2 v l w o h)
  obtain ⟨A, n0, c, rfl⟩ := h.formD
  clear h
  go_enter Try.func14, Try.ntmps14
  go_wp2_with fail
  refine (HO.out _).mono ?_
  rintro e w1 ⟨rfl, hR1, hb1⟩
  have hx1 := (hb1.block w.heap.size (by omega)).trans (heap_alloc_new w _)
  have hF1 : Fr w.heap.size (w.heap.size + 1) w w1 := Fr.of_below _ (((Below.refl _ _).alloc (Nat.le_refl _) _).trans (hb1.mono (by omega)))
  clear hb1 HO
  go_wp2_with fail
  refine (timer_any _ 0 2 _ hR1 (by omega) (by omega)).mono ?_
  rintro e w2 ⟨k, p, el, b, o, rfl, hk, hp, he, hR2, hF2⟩
  have hx2 := (hF2.block _ (blk_lt hx1) (by omega)).trans hx1
  replace hF2 := hF1.trans (hF2.mono hF1.size)
  obtain ⟨d0, d1, d2, d3, d4, e0, e1, e2, e3, e4⟩ := blk5 hx2
  clear hx1 hx2 hR1 hF1
  go_wp2
  exact bodyPost_ret (v := tmV ⟨k, p, el, b, o⟩) (by simp [results, Try.results14, go_sem, tmV, *]) rfl ⟨_, rfl, ⟨hk, hp, he⟩, (((((hF2.setCell (.inl (Nat.le_refl _)) _).setCell (.inl (Nat.le_refl _)) _).setCell (.inl (Nat.le_refl _)) _).setCell (.inl (Nat.le_refl _)) _).setCell (.inl (Nat.le_refl _)) _).below (by omega)⟩
def DrawTBI (w : World) (e : Ending) (w' : World) : Prop := ∃ t x d, e = .returned (.tuple #[tmV t, .bool x, .int .i64 d]) ∧ smallT t ∧ (-1 ≤ d ∧ d ≤ 1001) ∧ Below w.heap.size w w'
def DrawTSI (w : World) (e : Ending) (w' : World) : Prop := ∃ t A c l d, e = .returned (.tuple #[tmV t, .slice A l.length c, .int .i64 d]) ∧ smallT t ∧ OwnB w' w.heap.size (.slice A l.length c) l ∧ l.length ≤ 201 ∧ (-1 ≤ d ∧ d ≤ 1001) ∧ Below w.heap.size w w'
set_option maxHeartbeats 2000000 in
theorem drawTimerStep_any (v : Value) (l : List Int) (w : World) (h : BytesR w w.heap.size v l) :
    Calls Try.prog 22 #[v] w (DrawTBI w) := by
  have HO := Lib.hid (fun o => open_any2 v l w o h)
  obtain ⟨A, n0, c, rfl⟩ := h.formD
  clear h
  have tok1 : True := trivial
  go_enter Try.func22, Try.ntmps22
  go_wp2_with fail
  refine (HO.out _).mono ?_
  rintro e w1 ⟨rfl, hR1, hb1⟩
  have hx1 := (hb1.block w.heap.size (by omega)).trans (heap_alloc_new w _)
  have hF1 : Fr w.heap.size (w.heap.size + 1) w w1 := Fr.of_below _ (((Below.refl _ _).alloc (Nat.le_refl _) _).trans (hb1.mono (by omega)))
  clear hb1 HO
  go_wp2_with fail
  refine (timer_any _ 0 12 _ hR1 (by omega) (by omega)).mono ?_
  rintro e w2 ⟨k, p, el, b, o, rfl, hk, hp, he, hR2, hF2⟩
  have hx2 := (hF2.block _ (blk_lt hx1) (by omega)).trans hx1
  have hl2 := hR2.lt
  replace hF2 := hF1.trans (hF2.mono hF1.size)
  clear hx1 hR1 hF1
  have hy3 := heap_alloc_new w2 (.cells #[.int .i64 k, .int .i64 p, .int .i64 el, .bool b, .bool o] 24)
  have hx3 := blk_alloc hx2 (.cells #[.int .i64 k, .int .i64 p, .int .i64 el, .bool b, .bool o] 24)
  have hR3 := hR2.below ((Below.refl _ _).alloc (Nat.le_refl _) (.cells #[.int .i64 k, .int .i64 p, .int .i64 el, .bool b, .bool o] 24))
  have hF3 := hF2.alloc (by omega) (.cells #[.int .i64 k, .int .i64 p, .int .i64 el, .bool b, .bool o] 24)
  clear hx2 hR2 hF2
  go_wp2_with fail
  refine (pick_any _ 20 2 _ hR3 (by omega) (by omega)).mono ?_
  rintro e w5 ⟨r5, rfl, hr5, hR5, hF5⟩
  have hx5 := (hF5.block _ (blk_lt hx3) (by omega)).trans hx3
  have hy5 := (hF5.block _ (blk_lt hy3) (by omega)).trans hy3
  have hs3 := hF3.size
  replace hF5 := hF3.trans (hF5.mono hs3)
  clear hR3 hF3 hx3 hy3
  obtain ⟨c0, c1, c2, c3, c4, -⟩ := blk5 hy5
  have hg5 := hR5.lt
  have hn1 : w2.heap.size ≠ w.heap.size := by omega
  have hn2 : w.heap.size ≠ w2.heap.size := by omega
  go_wp2_with fail
  go_region_held3 (fun w' => w'.cell? ⟨w2.heap.size, 0, none⟩ = some (.int .i64 k) ∧ w'.cell? ⟨w2.heap.size, 1, none⟩ = some (.int .i64 p) ∧ w'.cell? ⟨w2.heap.size, 2, none⟩ = some (.int .i64 el) ∧ w'.cell? ⟨w2.heap.size, 3, none⟩ = some (.bool b) ∧ w'.cell? ⟨w2.heap.size, 4, none⟩ = some (.bool o)) (first | go_keep)
    (first
      | (go_at_call 42; have tok := tok1; (with_reducible refine (dt_any (w.heap.size + 1) 500 12 _ (hR5.drew.mono (by omega)) (by omega) (by omega)).mono ?_); rintro e w6 ⟨d, rfl, hd, hR6, hF6⟩; have hx6 := (hF6.block _ (blk_lt hx5) (by omega)).trans hx5; have hy6 := (hF6.block _ (blk_lt hy5) (by omega)).trans hy5; obtain ⟨m0, m1, m2, m3, m4, -⟩ := blk5 hy6; obtain ⟨d0, d1, d2, d3, d4, e0, e1, e2, e3, e4⟩ := blk5 hx6; have hF6' := hF5.drew.trans (hF6.mono (by show w.heap.size ≤ w5.heap.size; exact hF5.size)); clear tok tok1)
)
  go_wp2
  exact bodyPost_ret (v := .tuple #[tmV ⟨k, p, el, b, o⟩, .bool (r5 == 0), .int .i64 d]) (by simp [results, Try.results22, go_sem, tmV, *]) rfl ⟨_, _, _, rfl, ⟨hk, hp, he⟩, hd, (((((hF6'.setCell (.inl (Nat.le_refl _)) _).setCell (.inl (Nat.le_refl _)) _).setCell (.inl (Nat.le_refl _)) _).setCell (.inl (Nat.le_refl _)) _).setCell (.inl (Nat.le_refl _)) _).below (by omega)⟩
set_option maxHeartbeats 2000000 in
theorem drawTimerTrace_any (v : Value) (l : List Int) (w : World) (h : BytesR w w.heap.size v l) :
    Calls Try.prog 24 #[v] w (DrawTSI w) := by
  have HO := Lib.hid (fun o => open_any2 v l w o h)
  obtain ⟨A, n0, c, rfl⟩ := h.formD
  clear h
  have tok1 : True := trivial
  go_enter Try.func24, Try.ntmps24
  go_wp2_with fail
  refine (HO.out _).mono ?_
  rintro e w1 ⟨rfl, hR1, hb1⟩
  have hx1 := (hb1.block w.heap.size (by omega)).trans (heap_alloc_new w _)
  have hF1 : Fr w.heap.size (w.heap.size + 1) w w1 := Fr.of_below _ (((Below.refl _ _).alloc (Nat.le_refl _) _).trans (hb1.mono (by omega)))
  clear hb1 HO
  go_wp2_with fail
  refine (timer_any _ 0 12 _ hR1 (by omega) (by omega)).mono ?_
  rintro e w2 ⟨k, p, el, b, o, rfl, hk, hp, he, hR2, hF2⟩
  have hx2 := (hF2.block _ (blk_lt hx1) (by omega)).trans hx1
  have hl2 := hR2.lt
  replace hF2 := hF1.trans (hF2.mono hF1.size)
  clear hx1 hR1 hF1
  have hy3 := heap_alloc_new w2 (.cells #[.int .i64 k, .int .i64 p, .int .i64 el, .bool b, .bool o] 24)
  have hx3 := blk_alloc hx2 (.cells #[.int .i64 k, .int .i64 p, .int .i64 el, .bool b, .bool o] 24)
  have hR3 := hR2.below ((Below.refl _ _).alloc (Nat.le_refl _) (.cells #[.int .i64 k, .int .i64 p, .int .i64 el, .bool b, .bool o] 24))
  have hF3 := hF2.alloc (by omega) (.cells #[.int .i64 k, .int .i64 p, .int .i64 el, .bool b, .bool o] 24)
  clear hx2 hR2 hF2
  go_wp2_with fail
  refine (signal_any _ 20 _ hR3 (by omega)).mono ?_
  rintro e w5 ⟨v, l, rfl, hO, hl, hR5, hF5⟩
  have hx5 := (hF5.block _ (blk_lt hx3) (by omega)).trans hx3
  have hy5 := (hF5.block _ (blk_lt hy3) (by omega)).trans hy3
  have hs3 := hF3.size
  have hO5 : OwnB w5 (w.heap.size + 1 + 1) v l := mono_own hO (by simp; omega)
  replace hF5 := hF3.trans (hF5.mono hs3)
  obtain ⟨A5, c5, rfl, -, -⟩ := own_form hO
  have HL := Lib.hid hl
  clear hR3 hF3 hx3 hy3 hO hl
  obtain ⟨c0, c1, c2, c3, c4, -⟩ := blk5 hy5
  have hg5 := hR5.lt
  have hn1 : w2.heap.size ≠ w.heap.size := by omega
  have hn2 : w.heap.size ≠ w2.heap.size := by omega
  go_wp2_with fail
  go_region_held3 (fun w' => w'.cell? ⟨w2.heap.size, 0, none⟩ = some (.int .i64 k) ∧ w'.cell? ⟨w2.heap.size, 1, none⟩ = some (.int .i64 p) ∧ w'.cell? ⟨w2.heap.size, 2, none⟩ = some (.int .i64 el) ∧ w'.cell? ⟨w2.heap.size, 3, none⟩ = some (.bool b) ∧ w'.cell? ⟨w2.heap.size, 4, none⟩ = some (.bool o)) (first | go_keep)
    (first
      | (go_at_call 42; have tok := tok1; (with_reducible refine (dt_any (w.heap.size + 1) 500 12 _ (hR5.drew.mono (by omega)) (by omega) (by omega)).mono ?_); rintro e w6 ⟨d, rfl, hd, hR6, hF6⟩; have hx6 := (hF6.block _ (blk_lt hx5) (by omega)).trans hx5; have hy6 := (hF6.block _ (blk_lt hy5) (by omega)).trans hy5; obtain ⟨m0, m1, m2, m3, m4, -⟩ := blk5 hy6; obtain ⟨d0, d1, d2, d3, d4, e0, e1, e2, e3, e4⟩ := blk5 hx6; have hF6' := hF5.drew.trans (hF6.mono (by show w.heap.size ≤ w5.heap.size; exact hF5.size)); have hO6 := hF6.own hO5.drew (by omega); clear tok tok1)
)
  go_wp2
  refine bodyPost_ret (v := .tuple #[tmV ⟨k, p, el, b, o⟩, .slice A5 l.length c5, .int .i64 d]) (by simp [results, Try.results24, go_sem, tmV, *]) rfl ⟨_, _, _, l, _, rfl, ⟨hk, hp, he⟩, ?_, HL.out, hd, (((((hF6'.setCell (.inl (Nat.le_refl _)) _).setCell (.inl (Nat.le_refl _)) _).setCell (.inl (Nat.le_refl _)) _).setCell (.inl (Nat.le_refl _)) _).setCell (.inl (Nat.le_refl _)) _).below (by omega)⟩
  exact mono_own (ownsRow_setCell_below (ownsRow_setCell_below (ownsRow_setCell_below (ownsRow_setCell_below (ownsRow_setCell_below hO6 (by show w.heap.size < _; omega) _) (by show w.heap.size < _; omega) _) (by show w.heap.size < _; omega) _) (by show w.heap.size < _; omega) _) (by show w.heap.size < _; omega) _) (by omega)
end Go.Proofs.Ytikebldmbabmiaa
