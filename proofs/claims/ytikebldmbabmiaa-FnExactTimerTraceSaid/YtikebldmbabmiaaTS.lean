/- Timers: plain facts; the specification's functions. -/
import Derived.Test.YtikebldmbabmiaaTQ
import Derived.Test.YtikebldmbabmiaaLC
namespace Go.Proofs.Ytikebldmbabmiaa
open Go.RowKit
attribute [local go_sem ↓] Go.wp_at_zero Go.wp_at_succ

structure Tm where
  kind : Int
  pre : Int
  el : Int
  bef : Bool
  out : Bool
def tmV (t : Tm) : Value := .agg #[.int .i64 t.kind, .int .i64 t.pre, .int .i64 t.el, .bool t.bef, .bool t.out]
def fitT (t : Tm) : Prop := (-9223372036854775808 ≤ t.kind ∧ t.kind ≤ 9223372036854775807) ∧ (-9223372036854775808 ≤ t.pre ∧ t.pre ≤ 9223372036854775807) ∧ (-9223372036854775808 ≤ t.el ∧ t.el ≤ 9223372036854775807)
def tvalid (t : Tm) : Bool := inB t.kind 1 3 && (inB t.pre 0 10000 && inB t.el 0 t.pre)
def tzero : Tm := ⟨0, 0, 0, false, false⟩
def tmore (t : Tm) (dt : Int) : Int := if t.el + dt < t.pre then t.el + dt else t.pre
def tstep (t : Tm) (x : Bool) (dt : Int) : Tm :=
  if t.kind = 1 then (if x && t.bef then ⟨t.kind, t.pre, tmore t dt, x, decide (tmore t dt = t.pre)⟩ else ⟨t.kind, t.pre, 0, x, x && decide (0 = t.pre)⟩)
  else if t.kind = 2 then (if x then ⟨t.kind, t.pre, 0, x, true⟩ else ⟨t.kind, t.pre, tmore t dt, x, t.out && decide (tmore t dt < t.pre)⟩)
  else if (x && !t.bef) && !(t.out && decide (t.el < t.pre)) then ⟨t.kind, t.pre, 0, x, decide (0 < t.pre)⟩ else ⟨t.kind, t.pre, tmore t dt, x, t.out && decide (tmore t dt < t.pre)⟩
theorem tvalid_parts {t : Tm} (h : tvalid t = true) : (1 ≤ t.kind ∧ t.kind ≤ 3) ∧ (0 ≤ t.pre ∧ t.pre ≤ 10000) ∧ (0 ≤ t.el ∧ t.el ≤ t.pre) := by
  unfold tvalid inB at h; simp at h; omega
set_option maxHeartbeats 1000000 in
theorem sTimerValid_any (t : Tm) (w : World) : Calls Try.prog 16 #[tmV t] w fun e w' => e = .returned (.bool (tvalid t)) ∧ Below w.heap.size w w' := by
  unfold tvalid tmV
  obtain ⟨k, p, l, b, o⟩ := t
  simp only
  cases h1 : inB k 1 3
  · go_enter Try.func16, Try.ntmps16
    go_wp2_with fail
    refine (l1In_any _ _ _ _).mono ?_
    rw [h1]
    rintro e w1 ⟨rfl, rfl⟩
    go_wp2
    go_ret
    exact ⟨rfl, (Below.refl _ _).alloc (Nat.le_refl _) _⟩
  · cases h2 : inB p 0 10000
    · go_enter Try.func16, Try.ntmps16
      go_wp2_with fail
      refine (l1In_any _ _ _ _).mono ?_
      rw [h1]
      rintro e w1 ⟨rfl, rfl⟩
      go_wp2_with fail
      refine (l1In_any _ _ _ _).mono ?_
      rw [h2]
      rintro e w1 ⟨rfl, rfl⟩
      go_wp2
      go_ret
      exact ⟨rfl, (Below.refl _ _).alloc (Nat.le_refl _) _⟩
    · go_enter Try.func16, Try.ntmps16
      go_wp2_with fail
      refine (l1In_any _ _ _ _).mono ?_
      rw [h1]
      rintro e w1 ⟨rfl, rfl⟩
      go_wp2_with fail
      refine (l1In_any _ _ _ _).mono ?_
      rw [h2]
      rintro e w1 ⟨rfl, rfl⟩
      go_wp2_with fail
      refine (l1In_any _ _ _ _).mono ?_
      rintro e w1 ⟨rfl, rfl⟩
      go_wp2
      go_ret
      exact ⟨ret_bool (by simp), (Below.refl _ _).alloc (Nat.le_refl _) _⟩
def TmPost (t : Tm) (w : World) (e : Ending) (w' : World) : Prop := e = .returned (tmV t) ∧ Below w.heap.size w w'
set_option maxHeartbeats 4000000 in
theorem l5Step_any (t : Tm) (x : Bool) (dt : Int) (w : World) (hv : tvalid t = true) (hd : 0 ≤ dt ∧ dt ≤ 1000) :
    Calls Try.prog 43 #[tmV t, .bool x, .int .i64 dt] w (TmPost (tstep t x dt) w) := by
  obtain ⟨hk, hp, hl⟩ := tvalid_parts hv
  have B0 : ∀ a b : Obj, Below w.heap.size w ((w.alloc a).alloc b) := fun a b => ((Below.refl _ _).alloc (Nat.le_refl _) _).alloc (by simp) _
  obtain ⟨R, hR⟩ : ∃ R, R = tstep t x dt := ⟨_, rfl⟩
  rw [← hR]
  obtain ⟨k, p, l, b, o⟩ := t
  unfold tmV
  simp only at hk hp hl ⊢
  have hk3 : k = 1 ∨ k = 2 ∨ k = 3 := by omega
  clear hv hk
  rcases hk3 with rfl | rfl | rfl
  · by_cases hm : l + dt < p
    · have e1 : (l + dt == p) = false := by rw [beq_eq_false_iff_ne]; omega
      have e2 : ¬ l + dt = p := by omega
      have e3 : ¬ (0 : Int) = p := by omega
      have e4 : ((0 : Int) == p) = false := by rw [beq_eq_false_iff_ne]; omega
      cases x <;> cases b
      all_goals
        simp [tstep, tmore, *] at hR
        have HR := Lib.hid hR
        clear hR
        go_enter Try.func43, Try.ntmps43
        go_wp2
        refine bodyPost_ret (v := tmV R) ?_ rfl ⟨rfl, B0 _ _⟩
        rw [HR.out]
        simp [results, Try.results43, go_sem, tmV, *]
    · by_cases hp0 : p = 0
      · subst hp0
        cases x <;> cases b
        all_goals
          simp [tstep, tmore, *] at hR
          have HR := Lib.hid hR
          clear hR
          go_enter Try.func43, Try.ntmps43
          go_wp2
          refine bodyPost_ret (v := tmV R) ?_ rfl ⟨rfl, B0 _ _⟩
          rw [HR.out]
          simp [results, Try.results43, go_sem, tmV, *]
      · have e3 : ¬ (0 : Int) = p := by omega
        have e4 : ((0 : Int) == p) = false := by rw [beq_eq_false_iff_ne]; omega
        cases x <;> cases b
        all_goals
          simp [tstep, tmore, *] at hR
          have HR := Lib.hid hR
          clear hR
          go_enter Try.func43, Try.ntmps43
          go_wp2
          refine bodyPost_ret (v := tmV R) ?_ rfl ⟨rfl, B0 _ _⟩
          rw [HR.out]
          simp [results, Try.results43, go_sem, tmV, *]
  · by_cases hm : l + dt < p
    all_goals
      cases x <;> cases o
      all_goals
        simp [tstep, tmore, *] at hR
        have HR := Lib.hid hR
        clear hR
        go_enter Try.func43, Try.ntmps43
        go_wp2
        refine bodyPost_ret (v := tmV R) ?_ rfl ⟨rfl, B0 _ _⟩
        rw [HR.out]
        simp [results, Try.results43, go_sem, tmV, *]
  · cases x
    · cases o
      all_goals
        by_cases hm : l + dt < p
        · have m1 : decide (l + dt < p) = true := by simpa using hm
          try (exfalso; omega)
          all_goals
            simp [tstep, tmore, *] at hR
            have HR := Lib.hid hR
            clear hR
            go_enter Try.func43, Try.ntmps43
            go_wp2
            refine bodyPost_ret (v := tmV R) ?_ rfl ⟨rfl, B0 _ _⟩
            rw [HR.out]
            simp [results, Try.results43, go_sem, tmV, *]
        · have m1 : decide (l + dt < p) = false := by simpa using hm
          try (exfalso; omega)
          all_goals
            simp [tstep, tmore, *] at hR
            have HR := Lib.hid hR
            clear hR
            go_enter Try.func43, Try.ntmps43
            go_wp2
            refine bodyPost_ret (v := tmV R) ?_ rfl ⟨rfl, B0 _ _⟩
            rw [HR.out]
            simp [results, Try.results43, go_sem, tmV, *]
    · cases b
      · cases o
        · by_cases hm : l + dt < p
          · have m1 : decide (l + dt < p) = true := by simpa using hm
            by_cases hp0 : 0 < p
            · have m3 : decide (0 < p) = true := by simpa using hp0
              try (exfalso; omega)
              all_goals
                simp [tstep, *] at hR
                have HR := Lib.hid hR
                clear hR
                go_enter Try.func43, Try.ntmps43
                go_wp2
                refine bodyPost_ret (v := tmV R) ?_ rfl ⟨rfl, B0 _ _⟩
                rw [HR.out]
                simp [results, Try.results43, go_sem, tmV, *]
            · have m3 : decide (0 < p) = false := by simpa using hp0
              try (exfalso; omega)
              all_goals
                simp [tstep, tmore, *] at hR
                have HR := Lib.hid hR
                clear hR
                go_enter Try.func43, Try.ntmps43
                go_wp2
                refine bodyPost_ret (v := tmV R) ?_ rfl ⟨rfl, B0 _ _⟩
                rw [HR.out]
                simp [results, Try.results43, go_sem, tmV, *]
          · have m1 : decide (l + dt < p) = false := by simpa using hm
            by_cases hp0 : 0 < p
            · have m3 : decide (0 < p) = true := by simpa using hp0
              try (exfalso; omega)
              all_goals
                simp [tstep, *] at hR
                have HR := Lib.hid hR
                clear hR
                go_enter Try.func43, Try.ntmps43
                go_wp2
                refine bodyPost_ret (v := tmV R) ?_ rfl ⟨rfl, B0 _ _⟩
                rw [HR.out]
                simp [results, Try.results43, go_sem, tmV, *]
            · have m3 : decide (0 < p) = false := by simpa using hp0
              try (exfalso; omega)
              all_goals
                simp [tstep, *] at hR
                have HR := Lib.hid hR
                clear hR
                go_enter Try.func43, Try.ntmps43
                go_wp2
                refine bodyPost_ret (v := tmV R) ?_ rfl ⟨rfl, B0 _ _⟩
                rw [HR.out]
                simp [results, Try.results43, go_sem, tmV, *]
        · by_cases hlp : l < p
          · have m2 : decide (l < p) = true := by simpa using hlp
            by_cases hm : l + dt < p
            · have m1 : decide (l + dt < p) = true := by simpa using hm
              try (exfalso; omega)
              all_goals
                simp [tstep, tmore, *] at hR
                have HR := Lib.hid hR
                clear hR
                go_enter Try.func43, Try.ntmps43
                go_wp2
                refine bodyPost_ret (v := tmV R) ?_ rfl ⟨rfl, B0 _ _⟩
                rw [HR.out]
                simp [results, Try.results43, go_sem, tmV, *]
            · have m1 : decide (l + dt < p) = false := by simpa using hm
              try (exfalso; omega)
              all_goals
                simp [tstep, tmore, *] at hR
                have HR := Lib.hid hR
                clear hR
                go_enter Try.func43, Try.ntmps43
                go_wp2
                refine bodyPost_ret (v := tmV R) ?_ rfl ⟨rfl, B0 _ _⟩
                rw [HR.out]
                simp [results, Try.results43, go_sem, tmV, *]
          · have m2 : decide (l < p) = false := by simpa using hlp
            by_cases hm : l + dt < p
            · have m1 : decide (l + dt < p) = true := by simpa using hm
              by_cases hp0 : 0 < p
              · have m3 : decide (0 < p) = true := by simpa using hp0
                try (exfalso; omega)
                all_goals
                  simp [tstep, tmore, *] at hR
                  have HR := Lib.hid hR
                  clear hR
                  go_enter Try.func43, Try.ntmps43
                  go_wp2
                  refine bodyPost_ret (v := tmV R) ?_ rfl ⟨rfl, B0 _ _⟩
                  rw [HR.out]
                  simp [results, Try.results43, go_sem, tmV, *]
              · have m3 : decide (0 < p) = false := by simpa using hp0
                try (exfalso; omega)
                all_goals
                  simp [tstep, tmore, *] at hR
                  have HR := Lib.hid hR
                  clear hR
                  go_enter Try.func43, Try.ntmps43
                  go_wp2
                  refine bodyPost_ret (v := tmV R) ?_ rfl ⟨rfl, B0 _ _⟩
                  rw [HR.out]
                  simp [results, Try.results43, go_sem, tmV, *]
            · have m1 : decide (l + dt < p) = false := by simpa using hm
              by_cases hp0 : 0 < p
              · have m3 : decide (0 < p) = true := by simpa using hp0
                try (exfalso; omega)
                all_goals
                  simp [tstep, *] at hR
                  have HR := Lib.hid hR
                  clear hR
                  go_enter Try.func43, Try.ntmps43
                  go_wp2
                  refine bodyPost_ret (v := tmV R) ?_ rfl ⟨rfl, B0 _ _⟩
                  rw [HR.out]
                  simp [results, Try.results43, go_sem, tmV, *]
              · have m3 : decide (0 < p) = false := by simpa using hp0
                try (exfalso; omega)
                all_goals
                  simp [tstep, *] at hR
                  have HR := Lib.hid hR
                  clear hR
                  go_enter Try.func43, Try.ntmps43
                  go_wp2
                  refine bodyPost_ret (v := tmV R) ?_ rfl ⟨rfl, B0 _ _⟩
                  rw [HR.out]
                  simp [results, Try.results43, go_sem, tmV, *]
      · cases o
        all_goals
          by_cases hm : l + dt < p
          · have m1 : decide (l + dt < p) = true := by simpa using hm
            try (exfalso; omega)
            all_goals
              simp [tstep, tmore, *] at hR
              have HR := Lib.hid hR
              clear hR
              go_enter Try.func43, Try.ntmps43
              go_wp2
              refine bodyPost_ret (v := tmV R) ?_ rfl ⟨rfl, B0 _ _⟩
              rw [HR.out]
              simp [results, Try.results43, go_sem, tmV, *]
          · have m1 : decide (l + dt < p) = false := by simpa using hm
            try (exfalso; omega)
            all_goals
              simp [tstep, tmore, *] at hR
              have HR := Lib.hid hR
              clear hR
              go_enter Try.func43, Try.ntmps43
              go_wp2
              refine bodyPost_ret (v := tmV R) ?_ rfl ⟨rfl, B0 _ _⟩
              rw [HR.out]
              simp [results, Try.results43, go_sem, tmV, *]
end Go.Proofs.Ytikebldmbabmiaa
