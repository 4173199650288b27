/- Counters: the exact laws' helpers; the draws. Counters of the specification: counting edges. -/
import Derived.Test.YtldlfailmmmdmaaCQ
import Derived.Deep.RegionHeld3
import Derived.Deep.Cut
import Derived.StillTailTactics
namespace Go.Proofs.Ytldlfailmmmdmaa
open Go.RowKit
attribute [local go_sem ↓] Go.wp_at_zero Go.wp_at_succ

set_option maxHeartbeats 1000000 in
theorem toCounter_any (c : Cn) (w : World) : Calls Try.prog 31 #[cnV c] w (CnPost c w) := by
  unfold cnV
  go_enter Try.func31, Try.ntmps31
  go_wp2
  exact bodyPost_ret (v := .agg #[.int .i64 c.pre, .int .i64 c.val, .bool c.up, .bool c.dn]) (by simp [results, Try.results31, go_sem]) rfl ⟨rfl, (((Below.refl _ _).alloc (Nat.le_refl _) _).alloc (by simp) _).alloc (by simp; omega) _⟩
set_option maxHeartbeats 1000000 in
theorem eqCounter_same (c : Cn) (w : World) : Calls Try.prog 32 #[cnV c, cnV c] w fun e w' => e = .returned (.bool true) ∧ Below w.heap.size w w' := by
  unfold cnV
  go_enter Try.func32, Try.ntmps32
  go_wp2
  go_ret
  exact ⟨rfl, ((Below.refl _ _).alloc (Nat.le_refl _) _).alloc (by simp) _⟩
def smallC (c : Cn) : Prop := (-1 ≤ c.pre ∧ c.pre ≤ 10000) ∧ (-1 ≤ c.val ∧ c.val ≤ 10000)
theorem smallC.fit {c : Cn} (h : smallC c) : fitC c := by unfold smallC at h; unfold fitC; omega
def DrawC (w : World) (e : Ending) (w' : World) : Prop := ∃ c, e = .returned (cnV c) ∧ smallC c ∧ Below w.heap.size w w'
set_option maxHeartbeats 2000000 in
theorem drawCounterValid_any (v : Value) (l : List Int) (w : World) (h : BytesR w w.heap.size v l) :
    Calls Try.prog 13 #[v] w (DrawC w) := by
  have HO := Lib.hid (fun o => open_any2 v l w o h)
  obtain ⟨A, n0, c, rfl⟩ := h.formD
  clear h
  have tok1 : True := trivial
  go_enter Try.func13, Try.ntmps13
  go_wp2_with fail
  refine (HO.out _).mono ?_
  rintro e w1 ⟨rfl, hR1, hb1⟩
  have hx1 := (hb1.block w.heap.size (by omega)).trans (heap_alloc_new w _)
  have hF1 : Fr w.heap.size (w.heap.size + 1) w w1 := Fr.of_below _ (((Below.refl _ _).alloc (Nat.le_refl _) _).trans (hb1.mono (by omega)))
  clear hb1 HO
  go_wp2_with fail
  refine (counter_any _ 0 2 _ hR1 (by omega) (by omega)).mono ?_
  rintro e w2 ⟨p, v, b, o, rfl, hp, hv, hR2, hF2⟩
  have hx2 := (hF2.block _ (blk_lt hx1) (by omega)).trans hx1
  have hl2 := hR2.lt
  replace hF2 := hF1.trans (hF2.mono hF1.size)
  obtain ⟨d0, d1, d2, d3, e0, e1, e2, e3⟩ := blk4 hx2
  clear hx1 hx2 hR1 hF1
  go_wp2
  exact bodyPost_ret (v := cnV ⟨p, v, b, o⟩) (by simp [results, Try.results13, go_sem, cnV, *]) rfl ⟨_, rfl, ⟨hp, hv⟩, ((((hF2.setCell (.inl (Nat.le_refl _)) _).setCell (.inl (Nat.le_refl _)) _).setCell (.inl (Nat.le_refl _)) _).setCell (.inl (Nat.le_refl _)) _).below (by omega)⟩
set_option maxHeartbeats 2000000 in
theorem drawCounterReached_any (v : Value) (l : List Int) (w : World) (h : BytesR w w.heap.size v l) :
    Calls Try.prog 21 #[v] w (DrawC w) := by
  have HO := Lib.hid (fun o => open_any2 v l w o h)
  obtain ⟨A, n0, c, rfl⟩ := h.formD
  clear h
  have tok1 : True := trivial
  go_enter Try.func21, Try.ntmps21
  go_wp2_with fail
  refine (HO.out _).mono ?_
  rintro e w1 ⟨rfl, hR1, hb1⟩
  have hx1 := (hb1.block w.heap.size (by omega)).trans (heap_alloc_new w _)
  have hF1 : Fr w.heap.size (w.heap.size + 1) w w1 := Fr.of_below _ (((Below.refl _ _).alloc (Nat.le_refl _) _).trans (hb1.mono (by omega)))
  clear hb1 HO
  go_wp2_with fail
  refine (counter_any _ 0 6 _ hR1 (by omega) (by omega)).mono ?_
  rintro e w2 ⟨p, v, b, o, rfl, hp, hv, hR2, hF2⟩
  have hx2 := (hF2.block _ (blk_lt hx1) (by omega)).trans hx1
  have hl2 := hR2.lt
  replace hF2 := hF1.trans (hF2.mono hF1.size)
  obtain ⟨d0, d1, d2, d3, e0, e1, e2, e3⟩ := blk4 hx2
  clear hx1 hx2 hR1 hF1
  go_wp2
  exact bodyPost_ret (v := cnV ⟨p, v, b, o⟩) (by simp [results, Try.results21, go_sem, cnV, *]) rfl ⟨_, rfl, ⟨hp, hv⟩, ((((hF2.setCell (.inl (Nat.le_refl _)) _).setCell (.inl (Nat.le_refl _)) _).setCell (.inl (Nat.le_refl _)) _).setCell (.inl (Nat.le_refl _)) _).below (by omega)⟩
set_option maxHeartbeats 2000000 in
theorem drawCounterEmpty_any (v : Value) (l : List Int) (w : World) (h : BytesR w w.heap.size v l) :
    Calls Try.prog 24 #[v] w (DrawC w) := by
  have HO := Lib.hid (fun o => open_any2 v l w o h)
  obtain ⟨A, n0, c, rfl⟩ := h.formD
  clear h
  have tok1 : True := trivial
  go_enter Try.func24, Try.ntmps24
  go_wp2_with fail
  refine (HO.out _).mono ?_
  rintro e w1 ⟨rfl, hR1, hb1⟩
  have hx1 := (hb1.block w.heap.size (by omega)).trans (heap_alloc_new w _)
  have hF1 : Fr w.heap.size (w.heap.size + 1) w w1 := Fr.of_below _ (((Below.refl _ _).alloc (Nat.le_refl _) _).trans (hb1.mono (by omega)))
  clear hb1 HO
  go_wp2_with fail
  refine (counter_any _ 0 6 _ hR1 (by omega) (by omega)).mono ?_
  rintro e w2 ⟨p, v, b, o, rfl, hp, hv, hR2, hF2⟩
  have hx2 := (hF2.block _ (blk_lt hx1) (by omega)).trans hx1
  have hl2 := hR2.lt
  replace hF2 := hF1.trans (hF2.mono hF1.size)
  obtain ⟨d0, d1, d2, d3, e0, e1, e2, e3⟩ := blk4 hx2
  clear hx1 hx2 hR1 hF1
  go_wp2
  exact bodyPost_ret (v := cnV ⟨p, v, b, o⟩) (by simp [results, Try.results24, go_sem, cnV, *]) rfl ⟨_, rfl, ⟨hp, hv⟩, ((((hF2.setCell (.inl (Nat.le_refl _)) _).setCell (.inl (Nat.le_refl _)) _).setCell (.inl (Nat.le_refl _)) _).setCell (.inl (Nat.le_refl _)) _).below (by omega)⟩
def DrawCB (w : World) (e : Ending) (w' : World) : Prop := ∃ c u d r l, e = .returned (.tuple #[cnV c, .bool u, .bool d, .bool r, .bool l]) ∧ smallC c ∧ Below w.heap.size w w'
def DrawCS (w : World) (e : Ending) (w' : World) : Prop := ∃ c A cc l, e = .returned (.tuple #[cnV c, .slice A l.length cc]) ∧ smallC c ∧ OwnB w' w.heap.size (.slice A l.length cc) l ∧ l.length ≤ 201 ∧ Below w.heap.size w w'
set_option maxHeartbeats 2000000 in
theorem drawCounterStep_any (v : Value) (l : List Int) (w : World) (h : BytesR w w.heap.size v l) :
    Calls Try.prog 17 #[v] w (DrawCB w) := by
  have HO := Lib.hid (fun o => open_any2 v l w o h)
  obtain ⟨A, n0, c, rfl⟩ := h.formD
  clear h
  have tok1 : True := trivial
  go_enter Try.func17, Try.ntmps17
  go_wp2_with fail
  refine (HO.out _).mono ?_
  rintro e w1 ⟨rfl, hR1, hb1⟩
  have hx1 := (hb1.block w.heap.size (by omega)).trans (heap_alloc_new w _)
  have hF1 : Fr w.heap.size (w.heap.size + 1) w w1 := Fr.of_below _ (((Below.refl _ _).alloc (Nat.le_refl _) _).trans (hb1.mono (by omega)))
  clear hb1 HO
  go_wp2_with fail
  refine (counter_any _ 0 12 _ hR1 (by omega) (by omega)).mono ?_
  rintro e w2 ⟨p, v, b, o, rfl, hp, hv, hR2, hF2⟩
  have hx2 := (hF2.block _ (blk_lt hx1) (by omega)).trans hx1
  have hl2 := hR2.lt
  replace hF2 := hF1.trans (hF2.mono hF1.size)
  clear hx1 hR1 hF1
  have hy3 := heap_alloc_new w2 (.cells #[.int .i64 p, .int .i64 v, .bool b, .bool o] 24)
  have hx3 := blk_alloc hx2 (.cells #[.int .i64 p, .int .i64 v, .bool b, .bool o] 24)
  have hR3 := hR2.below ((Below.refl _ _).alloc (Nat.le_refl _) (.cells #[.int .i64 p, .int .i64 v, .bool b, .bool o] 24))
  have hF3 := hF2.alloc (by omega) (.cells #[.int .i64 p, .int .i64 v, .bool b, .bool o] 24)
  clear hx2 hR2 hF2
  go_wp2_with fail
  refine (pick_any _ 20 2 _ hR3 (by omega) (by omega)).mono ?_
  rintro e w4 ⟨r4, rfl, hr4, hR4, hF4⟩
  have hx4 := (hF4.block _ (blk_lt hx3) (by omega)).trans hx3
  have hy4 := (hF4.block _ (blk_lt hy3) (by omega)).trans hy3
  have hs3 := hF3.size
  replace hF4 := hF3.trans (hF4.mono hs3)
  clear hR3 hF3 hx3 hy3 hr4
  go_wp2_with fail
  refine (pick_any _ 21 2 _ hR4 (by omega) (by omega)).mono ?_
  rintro e w5 ⟨r5, rfl, hr5, hR5, hF5⟩
  have hx5 := (hF5.block _ (blk_lt hx4) (by omega)).trans hx4
  have hy5 := (hF5.block _ (blk_lt hy4) (by omega)).trans hy4
  have hs4 := hF4.size
  replace hF5 := hF4.trans (hF5.mono hs4)
  clear hR4 hF4 hx4 hy4 hr5
  go_wp2_with fail
  refine (pick_any _ 22 5 _ hR5 (by omega) (by omega)).mono ?_
  rintro e w7 ⟨r7, rfl, hr7, hR7, hF7⟩
  have hx7 := (hF7.block _ (blk_lt hx5) (by omega)).trans hx5
  have hy7 := (hF7.block _ (blk_lt hy5) (by omega)).trans hy5
  have hs5 := hF5.size
  replace hF7 := hF5.trans (hF7.mono hs5)
  clear hR5 hF5 hx5 hy5 hr7
  obtain ⟨c0, c1, c2, c3, -⟩ := blk4 hy7
  have hg7 := hR7.lt
  have hn1 : w2.heap.size ≠ w.heap.size := by omega
  have hn2 : w.heap.size ≠ w2.heap.size := by omega
  go_wp2_with fail
  go_region_held3 (fun w' => w'.cell? ⟨w2.heap.size, 0, none⟩ = some (.int .i64 p) ∧ w'.cell? ⟨w2.heap.size, 1, none⟩ = some (.int .i64 v) ∧ w'.cell? ⟨w2.heap.size, 2, none⟩ = some (.bool b) ∧ w'.cell? ⟨w2.heap.size, 3, none⟩ = some (.bool o)) (first | go_keep)
    (first
      | (go_at_call 40; have tok := tok1; (with_reducible refine (pick_any (w.heap.size + 1) 23 5 _ hR7.drew (by omega) (by omega)).mono ?_); rintro e w6 ⟨r6, rfl, hr6, hR6, hF6⟩; have hx6 := (hF6.block _ (blk_lt hx7) (by omega)).trans hx7; have hy6 := (hF6.block _ (blk_lt hy7) (by omega)).trans hy7; obtain ⟨m0, m1, m2, m3, -⟩ := blk4 hy6; obtain ⟨d0, d1, d2, d3, e0, e1, e2, e3⟩ := blk4 hx6; have hF6' := hF7.drew.trans (hF6.mono (by have := hF7.size; exact this)); clear tok tok1))
  go_wp2
  exact bodyPost_ret (v := .tuple #[cnV ⟨p, v, b, o⟩, .bool (r4 == 0), .bool (r5 == 0), .bool (r7 == 0), .bool (r6 == 0)]) (by simp [results, Try.results17, go_sem, cnV, *]) rfl ⟨_, _, _, _, _, rfl, ⟨hp, hv⟩, ((((hF6'.setCell (.inl (Nat.le_refl _)) _).setCell (.inl (Nat.le_refl _)) _).setCell (.inl (Nat.le_refl _)) _).setCell (.inl (Nat.le_refl _)) _).below (by omega)⟩
set_option maxHeartbeats 2000000 in
theorem drawCountEdges_any (v : Value) (l : List Int) (w : World) (h : BytesR w w.heap.size v l) :
    Calls Try.prog 27 #[v] w (DrawCS w) := by
  have HO := Lib.hid (fun o => open_any2 v l w o h)
  obtain ⟨A, n0, c, rfl⟩ := h.formD
  clear h
  have tok1 : True := trivial
  go_enter Try.func27, Try.ntmps27
  go_wp2_with fail
  refine (HO.out _).mono ?_
  rintro e w1 ⟨rfl, hR1, hb1⟩
  have hx1 := (hb1.block w.heap.size (by omega)).trans (heap_alloc_new w _)
  have hF1 : Fr w.heap.size (w.heap.size + 1) w w1 := Fr.of_below _ (((Below.refl _ _).alloc (Nat.le_refl _) _).trans (hb1.mono (by omega)))
  clear hb1 HO
  go_wp2_with fail
  refine (counter_any _ 0 12 _ hR1 (by omega) (by omega)).mono ?_
  rintro e w2 ⟨p, v, b, o, rfl, hp, hv, hR2, hF2⟩
  have hx2 := (hF2.block _ (blk_lt hx1) (by omega)).trans hx1
  have hl2 := hR2.lt
  replace hF2 := hF1.trans (hF2.mono hF1.size)
  clear hx1 hR1 hF1
  have hy3 := heap_alloc_new w2 (.cells #[.int .i64 p, .int .i64 v, .bool b, .bool o] 24)
  have hx3 := blk_alloc hx2 (.cells #[.int .i64 p, .int .i64 v, .bool b, .bool o] 24)
  have hR3 := hR2.below ((Below.refl _ _).alloc (Nat.le_refl _) (.cells #[.int .i64 p, .int .i64 v, .bool b, .bool o] 24))
  have hF3 := hF2.alloc (by omega) (.cells #[.int .i64 p, .int .i64 v, .bool b, .bool o] 24)
  clear hx2 hR2 hF2
  obtain ⟨c0, c1, c2, c3, -⟩ := blk4 hy3
  have hg3 := hR3.lt
  have hn1 : w2.heap.size ≠ w.heap.size := by omega
  have hn2 : w.heap.size ≠ w2.heap.size := by omega
  go_wp2_with fail
  go_region_held3 (fun w' => w'.cell? ⟨w2.heap.size, 0, none⟩ = some (.int .i64 p) ∧ w'.cell? ⟨w2.heap.size, 1, none⟩ = some (.int .i64 v) ∧ w'.cell? ⟨w2.heap.size, 2, none⟩ = some (.bool b) ∧ w'.cell? ⟨w2.heap.size, 3, none⟩ = some (.bool o)) (first | go_keep)
    (first
      | (go_at_call 45; have tok := tok1; (with_reducible refine (signal_any _ 20 _ hR3.drew (by omega)).mono ?_); rintro e w6 ⟨v6, l, rfl, hO, hl, hR6, hF6⟩; have hx6 := (hF6.block _ (blk_lt hx3) (by omega)).trans hx3; have hy6 := (hF6.block _ (blk_lt hy3) (by omega)).trans hy3; obtain ⟨m0, m1, m2, m3, -⟩ := blk4 hy6; obtain ⟨d0, d1, d2, d3, e0, e1, e2, e3⟩ := blk4 hx6; have hF6' := hF3.drew.trans (hF6.mono (by have := hF3.size; exact this)); have hO6 := mono_own (b' := w.heap.size + 1) hO (by show w.heap.size + 1 ≤ (w2.alloc _).heap.size; simp; omega); obtain ⟨A6, cc6, rfl, -, -⟩ := own_form hO; have HL := Lib.hid hl; clear hl hO; clear tok tok1))
  go_wp2
  refine bodyPost_ret (v := .tuple #[cnV ⟨p, v, b, o⟩, .slice A6 l.length cc6]) (by simp [results, Try.results27, go_sem, cnV, *]) rfl ⟨_, _, _, l, rfl, ⟨hp, hv⟩, ?_, HL.out, ((((hF6'.setCell (.inl (Nat.le_refl _)) _).setCell (.inl (Nat.le_refl _)) _).setCell (.inl (Nat.le_refl _)) _).setCell (.inl (Nat.le_refl _)) _).below (by omega)⟩
  exact mono_own (ownsRow_setCell_below (ownsRow_setCell_below (ownsRow_setCell_below (ownsRow_setCell_below hO6 (by show w.heap.size < _; omega) _) (by show w.heap.size < _; omega) _) (by show w.heap.size < _; omega) _) (by show w.heap.size < _; omega) _) (by omega)
end Go.Proofs.Ytldlfailmmmdmaa

namespace Go.Proofs.Ytldlfailmmmdmaa
open Go.RowKit
attribute [local go_sem ↓] Go.wp_at_zero Go.wp_at_succ

def cAt (c : Cn) (l : List Bool) : Nat → Cn
  | 0 => c
  | k + 1 => cstep (cAt c l k) (l.getD k false) false false false
theorem cAt_valid {c : Cn} (l : List Bool) (h : cvalid c = true) (k : Nat) : cvalid (cAt c l k) = true := by
  induction k with
  | zero => exact h
  | succ k ih => exact cstep_valid _ _ _ _ ih
theorem cAt_succ (c : Cn) (l : List Bool) (k : Nat) (hk : k < l.length) : cAt c l (k + 1) = cstep (cAt c l k) l[k] false false false := by
  show cstep _ (l.getD k false) _ _ _ = _; simp [List.getD, List.getElem?_eq_getElem hk]
def edgesC (c : Cn) (l : List Bool) : Cn := if cvalid c = true ∧ l.length ≤ 200 then cAt c l l.length else czero
def cnC (c : Cn) : Array Value := #[.int .i64 c.pre, .int .i64 c.val, .bool c.up, .bool c.dn]
theorem four_set {w : World} {k ty : Nat} {t u : Cn} (h : w.heap[k]? = some (.cells (cnC t) ty (0, 0))) :
    ((((w.setCell ⟨k, 0, none⟩ (.int .i64 u.pre)).setCell ⟨k, 1, none⟩ (.int .i64 u.val)).setCell ⟨k, 2, none⟩ (.bool u.up)).setCell ⟨k, 3, none⟩ (.bool u.dn)).heap[k]? = some (.cells (cnC u) ty (0, 0)) :=
  heap_setCell_same _ k 3 _ _ _ (heap_setCell_same _ k 2 _ _ _ (heap_setCell_same _ k 1 _ _ _ (heap_setCell_same w k 0 _ _ _ h)))
theorem four_other {w : World} {k j : Nat} {o : Obj} {u : Cn} (h : w.heap[j]? = some o) (hn : j ≠ k) :
    ((((w.setCell ⟨k, 0, none⟩ (.int .i64 u.pre)).setCell ⟨k, 1, none⟩ (.int .i64 u.val)).setCell ⟨k, 2, none⟩ (.bool u.up)).setCell ⟨k, 3, none⟩ (.bool u.dn)).heap[j]? = some o :=
  (Below.heap_setCell _ _ _ _ hn).trans ((Below.heap_setCell _ _ _ _ hn).trans ((Below.heap_setCell _ _ _ _ hn).trans ((Below.heap_setCell _ _ _ _ hn).trans h)))
theorem four_below {w0 w : World} {B k : Nat} {u : Cn} (h : Below B w0 w) (hk : B ≤ k) :
    Below B w0 ((((w.setCell ⟨k, 0, none⟩ (.int .i64 u.pre)).setCell ⟨k, 1, none⟩ (.int .i64 u.val)).setCell ⟨k, 2, none⟩ (.bool u.up)).setCell ⟨k, 3, none⟩ (.bool u.dn)) :=
  (((h.setCell hk _).setCell hk _).setCell hk _).setCell hk _
theorem blkC {w : World} {k ty : Nat} {t : Cn} (h : w.heap[k]? = some (.cells (cnC t) ty (0, 0))) :
    w.cell? ⟨k, 0, none⟩ = some (.int .i64 t.pre) ∧ w.cell? ⟨k, 1, none⟩ = some (.int .i64 t.val) ∧ w.cell? ⟨k, 2, none⟩ = some (.bool t.up) ∧ w.cell? ⟨k, 3, none⟩ = some (.bool t.dn) ∧
    w.frozen? ⟨k, 0, none⟩ = false ∧ w.frozen? ⟨k, 1, none⟩ = false ∧ w.frozen? ⟨k, 2, none⟩ = false ∧ w.frozen? ⟨k, 3, none⟩ = false := blk4 h
set_option maxHeartbeats 2000000 in
theorem sCountEdges_any (c : Cn) (v : Value) (l : List Bool) (w : World) (_hf : fitC c) (h : BoolsR w w.heap.size v l) :
    Calls Try.prog 29 #[cnV c, v] w (CnPost (edgesC c l) w) := by
  obtain ⟨A, cc, rfl, hr, hl⟩ := h
  have hb1 := blk_alloc (boxC w c) (.cells #[.int .i64 0, .int .i64 0, .bool false, .bool false] 24)
  have hb2 := heap_alloc_new (w.alloc (.cells #[.int .i64 c.pre, .int .i64 c.val, .bool c.up, .bool c.dn] 24)) (.cells #[.int .i64 0, .int .i64 0, .bool false, .bool false] 24)
  rw [World.size_alloc] at hb2
  have hB := ((Below.refl w.heap.size w).alloc (Nat.le_refl _) (.cells #[.int .i64 c.pre, .int .i64 c.val, .bool c.up, .bool c.dn] 24)).alloc (by simp) (.cells #[.int .i64 0, .int .i64 0, .bool false, .bool false] 24)
  have HV := Lib.hid (fun W : World => sCounterValid_any c W)
  have HS := Lib.hid (fun (W : World) (C : Cn) (x : Bool) (h1 : cvalid C = true) => l6Step_any C x false false false W h1)
  obtain ⟨D, hD⟩ : ∃ D, D = edgesC c l := ⟨_, rfl⟩
  rw [← hD]
  unfold cnV at HV HS ⊢
  by_cases hok : cvalid c = true ∧ l.length ≤ 200
  case neg =>
    have HD := Lib.hid (show D = czero by rw [hD]; unfold edgesC; rw [if_neg hok])
    clear hD
    cases hv : cvalid c
    · go_enter Try.func29, Try.ntmps29
      go_wp2_with fail
      refine (HV.out _).mono ?_
      rw [hv]
      rintro e w1 ⟨rfl, hb⟩
      have c1 := (hb.block _ (blk_lt hb2)).trans hb2
      obtain ⟨d0, d1, d2, d3, e0, e1, e2, e3⟩ := blk4 c1
      have hB1 := hB.trans (hb.mono hB.size)
      clear hb1 hb2 hb hB c1
      go_wp2
      refine bodyPost_ret (v := cnV D) ?_ rfl ⟨rfl, (((hB1.setCell (by simp) _).setCell (by simp) _).setCell (by simp) _).setCell (by simp) _⟩
      rw [HD.out]
      simp [results, Try.results29, go_sem, cnV, czero, *]
    · have h2 : 200 < l.length := by
        rcases Nat.lt_or_ge 200 l.length with h | h
        · exact h
        · exact absurd ⟨hv, h⟩ hok
      clear hok
      go_enter Try.func29, Try.ntmps29
      go_wp2_with fail
      refine (HV.out _).mono ?_
      rw [hv]
      rintro e w1 ⟨rfl, hb⟩
      have c1 := (hb.block _ (blk_lt hb2)).trans hb2
      obtain ⟨d0, d1, d2, d3, e0, e1, e2, e3⟩ := blk4 c1
      have hB1 := hB.trans (hb.mono hB.size)
      clear hb1 hb2 hb hB c1
      go_wp2
      refine bodyPost_ret (v := cnV D) ?_ rfl ⟨rfl, (((hB1.setCell (by simp) _).setCell (by simp) _).setCell (by simp) _).setCell (by simp) _⟩
      rw [HD.out]
      simp [results, Try.results29, go_sem, cnV, czero, *]
  case pos =>
  obtain ⟨hv, h2⟩ := hok
  have HD := Lib.hid (show D = cAt c l l.length by rw [hD]; unfold edgesC; rw [if_pos ⟨hv, h2⟩])
  have HT := Lib.hid (fun k => cAt_valid l hv k)
  clear hD
  go_enter Try.func29, Try.ntmps29
  go_wp2_with fail
  refine (HV.out _).mono ?_
  rw [hv]
  rintro e w1 ⟨rfl, hb⟩
  have hblk : w1.heap[w.heap.size]? = some (.cells (cnC c) 24 (0, 0)) := (hb.block _ (blk_lt hb1)).trans hb1
  have hres : w1.heap[w.heap.size + 1]? = some (.cells #[.int .i64 0, .int .i64 0, .bool false, .bool false] 24 (0, 0)) := (hb.block _ (blk_lt hb2)).trans hb2
  have hB1 := hB.trans (hb.mono hB.size)
  clear hB hb hb1 hb2 hv
  go_wp2_with fail
  go_loopw [5] (fun iv wr => ∃ k : Nat, k ≤ l.length ∧ iv = .int .i64 k ∧ wr.heap[w.heap.size]? = some (.cells (cnC (cAt c l k)) 24 (0, 0)) ∧ wr.heap[w.heap.size + 1]? = some (.cells #[.int .i64 0, .int .i64 0, .bool false, .bool false] 24 (0, 0)) ∧ Below w.heap.size w wr) (fun iv _ => l.length - (intOf iv).toNat)
  case atStart => exact ⟨0, by omega, rfl, hblk, hres, hB1⟩
  case round =>
    clear hB1 hblk hres
    obtain ⟨k, hk, rfl, hbk, hrs, hbr⟩ := hrel
    by_cases hlt : k < l.length
    · obtain ⟨p, rfl, hpb, hc⟩ := cell_bool hr hlt
      have g1 := (hbr.cell (p := p.add k) (by rw [add_block]; exact hpb)).trans hc
      have HTv := Lib.hid (HT.out k)
      have HSu := Lib.hid (cAt_succ c l k hlt)
      obtain ⟨T, hT⟩ : ∃ T, T = cAt c l k := ⟨_, rfl⟩
      rw [← hT] at hbk HTv HSu
      clear hT hc
      obtain ⟨c0, c1', c2, c3, z0, z1, z2, z3⟩ := blkC hbk
      have i1 : (k : Int) < (l.length : Int) := by omega
      go_wp2_with fail
      go_still_tail 5, (by kernel_rfl)
      go_wp2_with fail
      have hbkd : wr.drew.heap[w.heap.size]? = some (.cells (cnC T) 24 (0, 0)) := hbk
      have hrsd : wr.drew.heap[w.heap.size + 1]? = some (.cells #[.int .i64 0, .int .i64 0, .bool false, .bool false] 24 (0, 0)) := hrs
      have hbd : Below w.heap.size w wr.drew := hbr.drew
      clear c0 c1' c2 c3 z0 z1 z2 z3 hbk hrs hbr g1
      generalize wr.drew = wd at hbkd hrsd hbd ⊢
      refine (HS.out _ T l[k] HTv.out).mono ?_
      rw [← HSu.out]
      obtain ⟨T2, hT2⟩ : ∃ T2, T2 = cAt c l (k + 1) := ⟨_, rfl⟩
      rw [← hT2]
      have HT2 := Lib.hid hT2
      clear hT2
      rintro e w3 ⟨rfl, hb3⟩
      have hbk3 := (hb3.block _ (blk_lt hbkd)).trans hbkd
      have hrs3 := (hb3.block _ (blk_lt hrsd)).trans hrsd
      have hbr3 : Below w.heap.size w w3 := hbd.trans (hb3.mono hbd.size)
      clear hbkd hrsd hbd hb3
      obtain ⟨c0, c1', c2, c3, z0, z1, z2, z3⟩ := blkC hbk3
      have HX := Lib.hid (four_set (u := T2) hbk3)
      have HR := Lib.hid (four_other (u := T2) (j := w.heap.size + 1) (k := w.heap.size) hrs3 (by omega))
      have HB := Lib.hid (four_below (u := T2) hbr3 (Nat.le_refl w.heap.size))
      have hs3 := hbr3.size
      unfold cnV
      clear hbk3 hrs3 hbr3
      go_wp2
      go_roundw
      case rel => exact ⟨k + 1, by omega, by go_num, by rw [← HT2.out]; exact HX.out, HR.out, HB.out⟩
      case measure => simp [intOf]; omega
    · obtain rfl : k = l.length := by omega
      rw [← HD.out] at hbk
      obtain ⟨f0, f1, f2, f3, -⟩ := blkC hbk
      obtain ⟨d0, d1, d2, d3, e0, e1, e2, e3⟩ := blk4 hrs
      obtain ⟨dp, dv, du, dd⟩ := D
      go_wp2
      refine bodyPost_ret (v := cnV ⟨dp, dv, du, dd⟩) ?_ rfl ⟨rfl, (((hbr.setCell (by simp) _).setCell (by simp) _).setCell (by simp) _).setCell (by simp) _⟩
      simp [results, Try.results29, go_sem, cnV, *]
end Go.Proofs.Ytldlfailmmmdmaa
