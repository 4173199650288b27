/- Timers of the specification: new timers, steps, traces. -/
import Derived.Test.YtikebldmbabmiaaTS
import Derived.StillTailTactics
namespace Go.Proofs.Ytikebldmbabmiaa
open Go.RowKit
attribute [local go_sem ↓] Go.wp_at_zero Go.wp_at_succ

def tnew (k p : Int) : Tm := if tvalid ⟨k, p, 0, false, false⟩ then ⟨k, p, if k = 1 then 0 else p, false, false⟩ else tzero
def tstepF (t : Tm) (x : Bool) (dt : Int) : Tm := if tvalid t && inB dt 0 1000 then tstep t x dt else tzero
theorem tstep_kp (t : Tm) (x : Bool) (dt : Int) : (tstep t x dt).kind = t.kind ∧ (tstep t x dt).pre = t.pre ∧ (tstep t x dt).bef = x := by
  unfold tstep; repeat' split
  all_goals exact ⟨rfl, rfl, rfl⟩
theorem tstep_el (t : Tm) (x : Bool) (dt : Int) (hp : 0 ≤ t.pre) (hl : 0 ≤ t.el ∧ t.el ≤ t.pre) (hd : 0 ≤ dt) : (0 ≤ (tstep t x dt).el ∧ (tstep t x dt).el ≤ t.pre) ∧ ((tstep t x dt).el = 0 ∨ (tstep t x dt).el ≤ t.el + dt) := by
  unfold tstep tmore; repeat' split
  all_goals simp only; omega
theorem tvalid_make {t : Tm} (h1 : 1 ≤ t.kind ∧ t.kind ≤ 3) (h2 : 0 ≤ t.pre ∧ t.pre ≤ 10000) (h3 : 0 ≤ t.el ∧ t.el ≤ t.pre) : tvalid t = true := by
  unfold tvalid inB; simp; omega
theorem tstep_valid {t : Tm} (x : Bool) {dt : Int} (h : tvalid t = true) (hd : 0 ≤ dt) : tvalid (tstep t x dt) = true := by
  obtain ⟨h1, h2, h3⟩ := tvalid_parts h
  obtain ⟨k1, k2, -⟩ := tstep_kp t x dt
  have h4 := (tstep_el t x dt h2.1 h3 hd).1
  exact tvalid_make (by rw [k1]; exact h1) (by rw [k2]; exact h2) (by rw [k2]; exact h4)
def tAt (t : Tm) (l : List Bool) (dt : Int) : Nat → Tm
  | 0 => t
  | k + 1 => tstep (tAt t l dt k) (l.getD k false) dt
theorem tAt_valid {t : Tm} (l : List Bool) {dt : Int} (h : tvalid t = true) (hd : 0 ≤ dt) (k : Nat) : tvalid (tAt t l dt k) = true := by
  induction k with
  | zero => exact h
  | succ k ih => exact tstep_valid _ ih hd
theorem tAt_succ (t : Tm) (l : List Bool) (dt : Int) (k : Nat) (hk : k < l.length) : tAt t l dt (k + 1) = tstep (tAt t l dt k) l[k] dt := by
  show tstep _ (l.getD k false) dt = _; simp [List.getD, List.getElem?_eq_getElem hk]
def traceTo (t : Tm) (l : List Bool) (dt : Int) (k : Nat) : List Bool := (List.range k).map fun i => (tAt t l dt (i + 1)).out
theorem traceTo_len (t : Tm) (l : List Bool) (dt : Int) (k : Nat) : (traceTo t l dt k).length = k := by simp [traceTo]
theorem traceTo_succ (t : Tm) (l : List Bool) (dt : Int) (k : Nat) : traceTo t l dt (k + 1) = traceTo t l dt k ++ [(tAt t l dt (k + 1)).out] := by
  unfold traceTo; rw [List.range_succ, List.map_append]; rfl
def traceOK (t : Tm) (l : List Bool) (dt : Int) : Bool := tvalid t && (inB dt 0 1000 && decide (l.length ≤ 200))
def traceL (t : Tm) (l : List Bool) (dt : Int) : List Bool := if traceOK t l dt then traceTo t l dt l.length else []
theorem traceL_len (t : Tm) (l : List Bool) (dt : Int) : (traceL t l dt).length ≤ 200 := by
  unfold traceL; split
  · rename_i h; unfold traceOK at h; simp at h; rw [traceTo_len]; exact h.2.2
  · simp
theorem boxT (w : World) (t : Tm) : (w.alloc (.cells #[.int .i64 t.kind, .int .i64 t.pre, .int .i64 t.el, .bool t.bef, .bool t.out] 24)).heap[w.heap.size]? = some (.cells #[.int .i64 t.kind, .int .i64 t.pre, .int .i64 t.el, .bool t.bef, .bool t.out] 24 (0, 0)) := heap_alloc_new w _
set_option maxHeartbeats 1000000 in
theorem sNewTimer_any (k p : Int) (w : World) (_hk : -9223372036854775808 ≤ k ∧ k ≤ 9223372036854775807) (_hp : -9223372036854775808 ≤ p ∧ p ≤ 9223372036854775807) :
    Calls Try.prog 20 #[.int .i64 k, .int .i64 p] w (TmPost (tnew k p) w) := by
  obtain ⟨R, hR⟩ : ∃ R, R = tnew k p := ⟨_, rfl⟩
  rw [← hR]
  have hb0 := heap_alloc_new w (.cells #[.int .i64 0, .int .i64 0, .int .i64 0, .bool false, .bool false] 24)
  have hb1 := blk_alloc hb0 (.cells #[.int .i64 k, .int .i64 p, .int .i64 0, .bool false, .bool false] 24)
  have hb2 := heap_alloc_new (w.alloc (.cells #[.int .i64 0, .int .i64 0, .int .i64 0, .bool false, .bool false] 24)) (.cells #[.int .i64 k, .int .i64 p, .int .i64 0, .bool false, .bool false] 24)
  rw [World.size_alloc] at hb2
  have hB := ((Below.refl w.heap.size w).alloc (Nat.le_refl _) (.cells #[.int .i64 0, .int .i64 0, .int .i64 0, .bool false, .bool false] 24)).alloc (by simp) (.cells #[.int .i64 k, .int .i64 p, .int .i64 0, .bool false, .bool false] 24)
  cases hv : tvalid ⟨k, p, 0, false, false⟩
  · have HR := Lib.hid (show R = tzero by rw [hR]; unfold tnew; rw [hv]; rfl)
    clear hR
    go_enter Try.func20, Try.ntmps20
    go_wp2_with fail
    refine (sTimerValid_any ⟨k, p, 0, false, false⟩ _).mono ?_
    rw [hv]
    rintro e w1 ⟨rfl, hb⟩
    have c0 := (hb.block _ (blk_lt hb1)).trans hb1
    obtain ⟨d0, d1, d2, d3, d4, e0, e1, e2, e3, e4⟩ := blk5 c0
    have hB1 := hB.trans (hb.mono hB.size)
    clear hb1 hb2 hb hB hb0 c0
    go_wp2
    refine bodyPost_ret (v := tmV R) ?_ rfl ⟨rfl, ((((hB1.setCell (Nat.le_refl _) _).setCell (Nat.le_refl _) _).setCell (Nat.le_refl _) _).setCell (Nat.le_refl _) _).setCell (Nat.le_refl _) _⟩
    rw [HR.out]
    simp [results, Try.results20, go_sem, tmV, tzero, *]
  · by_cases h1 : k = 1
    · have HR := Lib.hid (show R = ⟨k, p, 0, false, false⟩ by rw [hR]; unfold tnew; rw [hv, if_pos h1]; rfl)
      have q1 : (k != 1) = false := by simp [h1]
      clear hR h1
      go_enter Try.func20, Try.ntmps20
      go_wp2_with fail
      refine (sTimerValid_any ⟨k, p, 0, false, false⟩ _).mono ?_
      rw [hv]
      rintro e w1 ⟨rfl, hb⟩
      have c0 := (hb.block _ (blk_lt hb1)).trans hb1
      have c1 := (hb.block _ (blk_lt hb2)).trans hb2
      obtain ⟨d0, d1, d2, d3, d4, e0, e1, e2, e3, e4⟩ := blk5 c0
      obtain ⟨f0, f1, f2, f3, f4, g0, g1, g2, g3, g4⟩ := blk5 c1
      have hB1 := hB.trans (hb.mono hB.size)
      clear hb1 hb2 hb hB hb0 c0 c1
      go_wp2
      refine bodyPost_ret (v := tmV R) ?_ rfl ⟨rfl, ((((hB1.setCell (Nat.le_refl _) _).setCell (Nat.le_refl _) _).setCell (Nat.le_refl _) _).setCell (Nat.le_refl _) _).setCell (Nat.le_refl _) _⟩
      rw [HR.out]
      simp [results, Try.results20, go_sem, tmV, *]
    · have HR := Lib.hid (show R = ⟨k, p, p, false, false⟩ by rw [hR]; unfold tnew; rw [hv, if_neg h1]; rfl)
      have q1 : (k != 1) = true := by simpa using h1
      clear hR h1
      go_enter Try.func20, Try.ntmps20
      go_wp2_with fail
      refine (sTimerValid_any ⟨k, p, 0, false, false⟩ _).mono ?_
      rw [hv]
      rintro e w1 ⟨rfl, hb⟩
      have c0 := (hb.block _ (blk_lt hb1)).trans hb1
      have c1 := (hb.block _ (blk_lt hb2)).trans hb2
      obtain ⟨d0, d1, d2, d3, d4, e0, e1, e2, e3, e4⟩ := blk5 c0
      obtain ⟨f0, f1, f2, f3, f4, g0, g1, g2, g3, g4⟩ := blk5 c1
      have hB1 := hB.trans (hb.mono hB.size)
      clear hb1 hb2 hb hB hb0 c0 c1
      go_wp2
      refine bodyPost_ret (v := tmV R) ?_ rfl ⟨rfl, (((((hB1.setCell (p := ⟨w.heap.size + 1, 2, none⟩) (by simp) _).setCell (Nat.le_refl _) _).setCell (Nat.le_refl _) _).setCell (Nat.le_refl _) _).setCell (Nat.le_refl _) _).setCell (Nat.le_refl _) _⟩
      rw [HR.out]
      simp [results, Try.results20, go_sem, tmV, *]
set_option maxHeartbeats 1000000 in
theorem sTimerStep_any (t : Tm) (x : Bool) (dt : Int) (w : World) (hf : fitT t) (_hd : -9223372036854775808 ≤ dt ∧ dt ≤ 9223372036854775807) :
    Calls Try.prog 23 #[tmV t, .bool x, .int .i64 dt] w (TmPost (tstepF t x dt) w) := by
  obtain ⟨R, hR⟩ : ∃ R, R = tstepF t x dt := ⟨_, rfl⟩
  rw [← hR]
  have hb1 := blk_alloc (boxT w t) (.cells #[.int .i64 0, .int .i64 0, .int .i64 0, .bool false, .bool false] 24)
  have hb2 := heap_alloc_new (w.alloc (.cells #[.int .i64 t.kind, .int .i64 t.pre, .int .i64 t.el, .bool t.bef, .bool t.out] 24)) (.cells #[.int .i64 0, .int .i64 0, .int .i64 0, .bool false, .bool false] 24)
  rw [World.size_alloc] at hb2
  have hB := ((Below.refl w.heap.size w).alloc (Nat.le_refl _) (.cells #[.int .i64 t.kind, .int .i64 t.pre, .int .i64 t.el, .bool t.bef, .bool t.out] 24)).alloc (by simp) (.cells #[.int .i64 0, .int .i64 0, .int .i64 0, .bool false, .bool false] 24)
  have HV := Lib.hid (fun W : World => sTimerValid_any t W)
  have HS := Lib.hid (fun (W : World) (h1 : tvalid t = true) (h2 : 0 ≤ dt ∧ dt ≤ 1000) => l5Step_any t x dt W h1 h2)
  unfold tmV at HV HS ⊢
  cases hv : tvalid t
  · have HR := Lib.hid (show R = tzero by rw [hR]; unfold tstepF; rw [hv]; rfl)
    clear hR
    obtain ⟨k, p, l, b, o⟩ := t
    simp only at HV HS hb1 hb2 hB hv ⊢
    go_enter Try.func23, Try.ntmps23
    go_wp2_with fail
    refine (HV.out _).mono ?_
    rw [hv]
    rintro e w1 ⟨rfl, hb⟩
    have c1 := (hb.block _ (blk_lt hb2)).trans hb2
    obtain ⟨d0, d1, d2, d3, d4, e0, e1, e2, e3, e4⟩ := blk5 c1
    have hB1 := hB.trans (hb.mono hB.size)
    clear hb1 hb2 hb hB c1
    go_wp2
    refine bodyPost_ret (v := tmV R) ?_ rfl ⟨rfl, ((((hB1.setCell (by simp) _).setCell (by simp) _).setCell (by simp) _).setCell (by simp) _).setCell (by simp) _⟩
    rw [HR.out]
    simp [results, Try.results23, go_sem, tmV, tzero, *]
  · cases hi : inB dt 0 1000
    · have HR := Lib.hid (show R = tzero by rw [hR]; unfold tstepF; rw [hv, hi]; rfl)
      clear hR
      obtain ⟨k, p, l, b, o⟩ := t
      simp only at HV HS hb1 hb2 hB hv ⊢
      go_enter Try.func23, Try.ntmps23
      go_wp2_with fail
      refine (HV.out _).mono ?_
      rw [hv]
      rintro e w1 ⟨rfl, hb⟩
      have c1 := (hb.block _ (blk_lt hb2)).trans hb2
      obtain ⟨d0, d1, d2, d3, d4, e0, e1, e2, e3, e4⟩ := blk5 c1
      have hB1 := hB.trans (hb.mono hB.size)
      clear hb1 hb2 hb hB c1
      go_wp2_with fail
      refine (l1In_any _ _ _ _).mono ?_
      rw [hi]
      rintro e w2 ⟨rfl, rfl⟩
      go_wp2
      refine bodyPost_ret (v := tmV R) ?_ rfl ⟨rfl, ((((hB1.setCell (by simp) _).setCell (by simp) _).setCell (by simp) _).setCell (by simp) _).setCell (by simp) _⟩
      rw [HR.out]
      simp [results, Try.results23, go_sem, tmV, tzero, *]
    · have HR := Lib.hid (show R = tstep t x dt by rw [hR]; unfold tstepF; rw [hv, hi]; rfl)
      have hi2 : 0 ≤ dt ∧ dt ≤ 1000 := by unfold inB at hi; simp at hi; exact hi
      have HS2 := Lib.hid (fun W => HS.out W hv hi2)
      rw [← HR.out] at HS2
      clear hR HS
      obtain ⟨k, p, l, b, o⟩ := t
      simp only at HV HS2 hb1 hb2 hB hv ⊢
      go_enter Try.func23, Try.ntmps23
      go_wp2_with fail
      refine (HV.out _).mono ?_
      rw [hv]
      rintro e w1 ⟨rfl, hb⟩
      have c0 := (hb.block _ (blk_lt hb1)).trans hb1
      have c1 := (hb.block _ (blk_lt hb2)).trans hb2
      obtain ⟨f0, f1, f2, f3, f4, -⟩ := blk5 c0
      have hB1 := hB.trans (hb.mono hB.size)
      clear hb1 hb2 hb hB c0
      go_wp2_with fail
      refine (l1In_any _ _ _ _).mono ?_
      rw [hi]
      rintro e w2 ⟨rfl, rfl⟩
      go_wp2_with fail
      refine (HS2.out _).mono ?_
      rintro e w3 ⟨rfl, hb⟩
      have c2 := (hb.block _ (blk_lt c1)).trans c1
      obtain ⟨d0, d1, d2, d3, d4, e0, e1, e2, e3, e4⟩ := blk5 c2
      have hB2 := hB1.trans (hb.mono hB1.size)
      clear hb hB1 c1 c2 f0 f1 f2 f3 f4
      obtain ⟨rk, rp, rl, rb, ro⟩ := R
      unfold tmV
      simp only
      go_wp2
      refine bodyPost_ret (v := tmV ⟨rk, rp, rl, rb, ro⟩) ?_ rfl ⟨rfl, ((((hB2.setCell (by simp) _).setCell (by simp) _).setCell (by simp) _).setCell (by simp) _).setCell (by simp) _⟩
      simp [results, Try.results23, go_sem, tmV, *]
end Go.Proofs.Ytikebldmbabmiaa
