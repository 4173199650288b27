/- Counters: plain facts; the specification's functions. Counters of the specification: steps, reports. -/
import Derived.Test.YtldlfailmmmdmaaTX
namespace Go.Proofs.Ytldlfailmmmdmaa
open Go.RowKit
attribute [local go_sem ↓] Go.wp_at_zero Go.wp_at_succ

theorem blk4 {w : World} {k t : Nat} {x0 x1 x2 x3 : Value} (h : w.heap[k]? = some (.cells #[x0, x1, x2, x3] t (0, 0))) :
    w.cell? ⟨k, 0, none⟩ = some x0 ∧ w.cell? ⟨k, 1, none⟩ = some x1 ∧ w.cell? ⟨k, 2, none⟩ = some x2 ∧ w.cell? ⟨k, 3, none⟩ = some x3 ∧
    w.frozen? ⟨k, 0, none⟩ = false ∧ w.frozen? ⟨k, 1, none⟩ = false ∧ w.frozen? ⟨k, 2, none⟩ = false ∧ w.frozen? ⟨k, 3, none⟩ = false := by
  simp [World.cell?, World.frozen?, h]
structure Cn where
  pre : Int
  val : Int
  up : Bool
  dn : Bool
def cnV (c : Cn) : Value := .agg #[.int .i64 c.pre, .int .i64 c.val, .bool c.up, .bool c.dn]
def fitC (c : Cn) : Prop := (-9223372036854775808 ≤ c.pre ∧ c.pre ≤ 9223372036854775807) ∧ (-9223372036854775808 ≤ c.val ∧ c.val ≤ 9223372036854775807)
def cvalid (c : Cn) : Bool := inB c.pre 0 9999 && inB c.val 0 9999
def czero : Cn := ⟨0, 0, false, false⟩
def cval (c : Cn) (u d r l : Bool) : Int :=
  if r then 0 else if l then c.pre else if (u && !c.up) && !(d && !c.dn) then min 9999 (c.val + 1) else if (d && !c.dn) && !(u && !c.up) then max 0 (c.val - 1) else c.val
def cstep (c : Cn) (u d r l : Bool) : Cn := ⟨c.pre, cval c u d r l, u, d⟩
def cstepF (c : Cn) (u d r l : Bool) : Cn := if cvalid c then cstep c u d r l else czero
def CnPost (c : Cn) (w : World) (e : Ending) (w' : World) : Prop := e = .returned (cnV c) ∧ Below w.heap.size w w'
theorem cvalid_parts {c : Cn} (h : cvalid c = true) : (0 ≤ c.pre ∧ c.pre ≤ 9999) ∧ (0 ≤ c.val ∧ c.val ≤ 9999) := by
  unfold cvalid inB at h; simp at h; omega
theorem cvalid_make {c : Cn} (h1 : 0 ≤ c.pre ∧ c.pre ≤ 9999) (h2 : 0 ≤ c.val ∧ c.val ≤ 9999) : cvalid c = true := by
  unfold cvalid inB; simp; omega
theorem cval_in {c : Cn} (u d r l : Bool) (h : cvalid c = true) : 0 ≤ cval c u d r l ∧ cval c u d r l ≤ 9999 := by
  have := cvalid_parts h
  unfold cval; repeat' split
  all_goals omega
theorem cstep_valid {c : Cn} (u d r l : Bool) (h : cvalid c = true) : cvalid (cstep c u d r l) = true := cvalid_make (cvalid_parts h).1 (cval_in u d r l h)
set_option maxHeartbeats 1000000 in
theorem sCounterValid_any (c : Cn) (w : World) : Calls Try.prog 15 #[cnV c] w fun e w' => e = .returned (.bool (cvalid c)) ∧ Below w.heap.size w w' := by
  unfold cvalid cnV
  obtain ⟨p, v, u, d⟩ := c
  simp only
  cases h1 : inB p 0 9999
  · go_enter Try.func15, Try.ntmps15
    go_wp2_with fail
    refine (l1In_any _ _ _ _).mono ?_
    rw [h1]
    rintro e w1 ⟨rfl, rfl⟩
    go_wp2
    go_ret
    exact ⟨rfl, (Below.refl _ _).alloc (Nat.le_refl _) _⟩
  · go_enter Try.func15, Try.ntmps15
    go_wp2_with fail
    refine (l1In_any _ _ _ _).mono ?_
    rw [h1]
    rintro e w1 ⟨rfl, rfl⟩
    go_wp2_with fail
    refine (l1In_any _ _ _ _).mono ?_
    rintro e w1 ⟨rfl, rfl⟩
    go_wp2
    go_ret
    exact ⟨ret_bool (by simp), (Below.refl _ _).alloc (Nat.le_refl _) _⟩
set_option maxHeartbeats 4000000 in
theorem l6Step_any (c : Cn) (u d r l : Bool) (w : World) (hv : cvalid c = true) :
    Calls Try.prog 44 #[cnV c, .bool u, .bool d, .bool r, .bool l] w (CnPost (cstep c u d r l) w) := by
  obtain ⟨hp, hl⟩ := cvalid_parts hv
  have B0 : ∀ a b : Obj, Below w.heap.size w ((w.alloc a).alloc b) := fun a b => ((Below.refl _ _).alloc (Nat.le_refl _) _).alloc (by simp) _
  obtain ⟨R, hR⟩ : ∃ R, R = cstep c u d r l := ⟨_, rfl⟩
  rw [← hR]
  obtain ⟨p, v, cu, cd⟩ := c
  unfold cnV
  simp only at hp hl ⊢
  clear hv
  have mid : ∀ r l : Bool, (r = false → l = false → False) → R = cstep ⟨p, v, cu, cd⟩ u d r l → Calls Try.prog 44 #[.agg #[.int .i64 p, .int .i64 v, .bool cu, .bool cd], .bool u, .bool d, .bool r, .bool l] w (CnPost R w) := by
    intro r l hrl hR
    cases r <;> cases l
    · exact (hrl rfl rfl).elim
    all_goals
      clear hrl
      cases u <;> cases d
      all_goals
        simp [cstep, cval] at hR
        have HR := Lib.hid hR
        clear hR
        go_enter Try.func44, Try.ntmps44
        go_wp2
        all_goals
          refine bodyPost_ret (v := cnV R) ?_ rfl ⟨rfl, B0 _ _⟩
          rw [HR.out]
          simp [results, Try.results44, go_sem, cnV, *]
  by_cases hrl : r = false ∧ l = false
  · obtain ⟨rfl, rfl⟩ := hrl
    clear mid
    cases u <;> cases cu <;> cases d <;> cases cd
    all_goals
      simp [cstep, cval] at hR
      have HR := Lib.hid hR
      clear hR
      go_enter Try.func44, Try.ntmps44
      go_wp2
      all_goals
        refine bodyPost_ret (v := cnV R) ?_ rfl ⟨rfl, B0 _ _⟩
        rw [HR.out]
        simp [results, Try.results44, go_sem, cnV, *]
        try omega
  · exact mid r l (fun h1 h2 => hrl ⟨h1, h2⟩) hR
end Go.Proofs.Ytldlfailmmmdmaa

namespace Go.Proofs.Ytldlfailmmmdmaa
open Go.RowKit
attribute [local go_sem ↓] Go.wp_at_zero Go.wp_at_succ

theorem boxC (w : World) (c : Cn) : (w.alloc (.cells #[.int .i64 c.pre, .int .i64 c.val, .bool c.up, .bool c.dn] 24)).heap[w.heap.size]? = some (.cells #[.int .i64 c.pre, .int .i64 c.val, .bool c.up, .bool c.dn] 24 (0, 0)) := heap_alloc_new w _
set_option maxHeartbeats 1000000 in
theorem sCounterStep_any (c : Cn) (u d r l : Bool) (w : World) (hf : fitC c) :
    Calls Try.prog 19 #[cnV c, .bool u, .bool d, .bool r, .bool l] w (CnPost (cstepF c u d r l) w) := by
  obtain ⟨R, hR⟩ : ∃ R, R = cstepF c u d r l := ⟨_, rfl⟩
  rw [← hR]
  have hb1 := blk_alloc (boxC w c) (.cells #[.int .i64 0, .int .i64 0, .bool false, .bool false] 24)
  have hb2 := heap_alloc_new (w.alloc (.cells #[.int .i64 c.pre, .int .i64 c.val, .bool c.up, .bool c.dn] 24)) (.cells #[.int .i64 0, .int .i64 0, .bool false, .bool false] 24)
  rw [World.size_alloc] at hb2
  have hB := ((Below.refl w.heap.size w).alloc (Nat.le_refl _) (.cells #[.int .i64 c.pre, .int .i64 c.val, .bool c.up, .bool c.dn] 24)).alloc (by simp) (.cells #[.int .i64 0, .int .i64 0, .bool false, .bool false] 24)
  have HV := Lib.hid (fun W : World => sCounterValid_any c W)
  have HS := Lib.hid (fun (W : World) (h1 : cvalid c = true) => l6Step_any c u d r l W h1)
  unfold cnV at HV HS ⊢
  cases hv : cvalid c
  · have HR := Lib.hid (show R = czero by rw [hR]; unfold cstepF; rw [hv]; rfl)
    clear hR
    obtain ⟨p, v, cu, cd⟩ := c
    simp only at HV HS hb1 hb2 hB hv ⊢
    go_enter Try.func19, Try.ntmps19
    go_wp2_with fail
    refine (HV.out _).mono ?_
    rw [hv]
    rintro e w1 ⟨rfl, hb⟩
    have c1 := (hb.block _ (blk_lt hb2)).trans hb2
    obtain ⟨d0, d1, d2, d3, e0, e1, e2, e3⟩ := blk4 c1
    have hB1 := hB.trans (hb.mono hB.size)
    clear hb1 hb2 hb hB c1
    go_wp2
    refine bodyPost_ret (v := cnV R) ?_ rfl ⟨rfl, (((hB1.setCell (by simp) _).setCell (by simp) _).setCell (by simp) _).setCell (by simp) _⟩
    rw [HR.out]
    simp [results, Try.results19, go_sem, cnV, czero, *]
  · have HR := Lib.hid (show R = cstep c u d r l by rw [hR]; unfold cstepF; rw [hv]; rfl)
    have HS2 := Lib.hid (fun W => HS.out W hv)
    rw [← HR.out] at HS2
    clear hR HS
    obtain ⟨p, v, cu, cd⟩ := c
    simp only at HV HS2 hb1 hb2 hB hv ⊢
    go_enter Try.func19, Try.ntmps19
    go_wp2_with fail
    refine (HV.out _).mono ?_
    rw [hv]
    rintro e w1 ⟨rfl, hb⟩
    have c0 := (hb.block _ (blk_lt hb1)).trans hb1
    have c1 := (hb.block _ (blk_lt hb2)).trans hb2
    obtain ⟨f0, f1, f2, f3, -⟩ := blk4 c0
    have hB1 := hB.trans (hb.mono hB.size)
    clear hb1 hb2 hb hB c0
    go_wp2_with fail
    refine (HS2.out _).mono ?_
    rintro e w3 ⟨rfl, hb⟩
    have c2 := (hb.block _ (blk_lt c1)).trans c1
    obtain ⟨d0, d1, d2, d3, e0, e1, e2, e3⟩ := blk4 c2
    have hB2 := hB1.trans (hb.mono hB1.size)
    clear hb hB1 c1 c2 f0 f1 f2 f3
    obtain ⟨rp, rv, ru, rd⟩ := R
    unfold cnV
    simp only
    go_wp2
    refine bodyPost_ret (v := cnV ⟨rp, rv, ru, rd⟩) ?_ rfl ⟨rfl, (((hB2.setCell (by simp) _).setCell (by simp) _).setCell (by simp) _).setCell (by simp) _⟩
    simp [results, Try.results19, go_sem, cnV, *]
set_option maxHeartbeats 1000000 in
theorem sCounterReached_any (c : Cn) (w : World) : Calls Try.prog 23 #[cnV c] w fun e w' => e = .returned (.bool (cvalid c && decide (c.pre ≤ c.val))) ∧ Below w.heap.size w w' := by
  have hb1 := boxC w c
  have hB := (Below.refl w.heap.size w).alloc (Nat.le_refl _) (.cells #[.int .i64 c.pre, .int .i64 c.val, .bool c.up, .bool c.dn] 24)
  have HV := Lib.hid (fun W : World => sCounterValid_any c W)
  unfold cnV at HV ⊢
  cases hv : cvalid c
  · go_enter Try.func23, Try.ntmps23
    go_wp2_with fail
    refine (HV.out _).mono ?_
    rw [hv]
    rintro e w1 ⟨rfl, hb⟩
    go_wp2
    go_ret
    exact ⟨rfl, hB.trans (hb.mono hB.size)⟩
  · go_enter Try.func23, Try.ntmps23
    go_wp2_with fail
    refine (HV.out _).mono ?_
    rw [hv]
    rintro e w1 ⟨rfl, hb⟩
    have c0 := (hb.block _ (blk_lt hb1)).trans hb1
    obtain ⟨f0, f1, f2, f3, -⟩ := blk4 c0
    go_wp2
    go_ret
    exact ⟨ret_bool (by simp), hB.trans (hb.mono hB.size)⟩
set_option maxHeartbeats 1000000 in
theorem sCounterEmpty_any (c : Cn) (w : World) : Calls Try.prog 26 #[cnV c] w fun e w' => e = .returned (.bool (cvalid c && decide (c.val = 0))) ∧ Below w.heap.size w w' := by
  have hb1 := boxC w c
  have hB := (Below.refl w.heap.size w).alloc (Nat.le_refl _) (.cells #[.int .i64 c.pre, .int .i64 c.val, .bool c.up, .bool c.dn] 24)
  have HV := Lib.hid (fun W : World => sCounterValid_any c W)
  unfold cnV at HV ⊢
  cases hv : cvalid c
  · go_enter Try.func26, Try.ntmps26
    go_wp2_with fail
    refine (HV.out _).mono ?_
    rw [hv]
    rintro e w1 ⟨rfl, hb⟩
    go_wp2
    go_ret
    exact ⟨rfl, hB.trans (hb.mono hB.size)⟩
  · go_enter Try.func26, Try.ntmps26
    go_wp2_with fail
    refine (HV.out _).mono ?_
    rw [hv]
    rintro e w1 ⟨rfl, hb⟩
    have c0 := (hb.block _ (blk_lt hb1)).trans hb1
    obtain ⟨f0, f1, f2, f3, -⟩ := blk4 c0
    go_wp2
    go_ret
    exact ⟨ret_bool (by simp [Bool.beq_eq_decide_eq]), hB.trans (hb.mono hB.size)⟩
end Go.Proofs.Ytldlfailmmmdmaa
