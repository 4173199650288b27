/- Timers of the program: kinds of timers behind an interface. -/
import Derived.Test.YtikebldmbabmiaaTW
import Derived.Test.YtikebldmbabmiaaLA
import Derived.Deep.Cut
import Derived.BigQuiet
import Derived.Test.YtikebldmbabmiaaEB
namespace Go.Proofs.Ytikebldmbabmiaa
open Go.RowKit
attribute [local go_sem ↓] Go.wp_at_zero Go.wp_at_succ

theorem iPresetValid_any (p : Int) (w : World) :
    Calls Try.prog 37 #[.int .i64 p] w fun e w' => e = .returned (.bool (inB p 0 10000)) ∧ w = w' := by
  unfold inB
  by_cases h : 0 ≤ p
  all_goals
    go_enter Try.func37, Try.ntmps37
    go_wp2
    go_ret
    exact ⟨ret_bool (by simp [h] <;> omega), rfl⟩
theorem iStepTimeValid_any (p : Int) (w : World) :
    Calls Try.prog 41 #[.int .i64 p] w fun e w' => e = .returned (.bool (inB p 0 1000)) ∧ w = w' := by
  unfold inB
  by_cases h : 0 ≤ p
  all_goals
    go_enter Try.func41, Try.ntmps41
    go_wp2
    go_ret
    exact ⟨ret_bool (by simp [h] <;> omega), rfl⟩
def kindV (k : Int) : Value :=
  if k = 1 then .iface 71 (.agg #[])
  else if k = 2 then .iface 72 (.agg #[])
  else if k = 3 then .iface 73 (.agg #[]) else .nilIface
theorem kindV1 : kindV 1 = .iface 71 (.agg #[]) := rfl
theorem kindV2 : kindV 2 = .iface 72 (.agg #[]) := rfl
theorem kindV3 : kindV 3 = .iface 73 (.agg #[]) := rfl
theorem iTimerKindOf_any (k : Int) (w : World) :
    Calls Try.prog 36 #[.int .i64 k] w fun e w' => e = .returned (.tuple #[kindV k, .bool (inB k 1 3)]) ∧ w = w' := by
  by_cases h1 : k = 1
  · subst h1
    go_enter Try.func36, Try.ntmps36
    go_wp2
    exact bodyPost_ret (v := .tuple #[kindV 1, .bool (inB 1 1 3)]) (by simp [results, Try.results36, go_sem, kindV, inB, *]) rfl ⟨rfl, rfl⟩
  · by_cases h2 : k = 2
    · subst h2
      go_enter Try.func36, Try.ntmps36
      go_wp2
      exact bodyPost_ret (v := .tuple #[kindV 2, .bool (inB 2 1 3)]) (by simp [results, Try.results36, go_sem, kindV, inB, *]) rfl ⟨rfl, rfl⟩
    · by_cases h3 : k = 3
      · subst h3
        go_enter Try.func36, Try.ntmps36
        go_wp2
        exact bodyPost_ret (v := .tuple #[kindV 3, .bool (inB 3 1 3)]) (by simp [results, Try.results36, go_sem, kindV, inB, *]) rfl ⟨rfl, rfl⟩
      · have q1 : (k == 1) = false := by simpa using h1
        have q2 : (k == 2) = false := by simpa using h2
        have q3 : (k == 3) = false := by simpa using h3
        have hk : kindV k = .nilIface := by unfold kindV; rw [if_neg h1, if_neg h2, if_neg h3]
        have hi : inB k 1 3 = false := by unfold inB; simp; omega
        rw [hk, hi]
        clear hk hi
        go_enter Try.func36, Try.ntmps36
        go_wp2
        exact bodyPost_ret (v := .tuple #[.nilIface, .bool false]) (by simp [results, Try.results36, go_sem, *]) rfl ⟨rfl, rfl⟩
theorem iStaysTrue_any (t : Tm) (n : Int) (w : World) :
    Calls Try.prog 64 #[tmV t, .int .i64 n] w fun e w' => e = .returned (.bool (t.out && decide (n < t.pre))) ∧ Below w.heap.size w w' := by
  obtain ⟨k, p, l, b, o⟩ := t
  unfold tmV
  simp only
  cases o
  all_goals
    go_enter Try.func64, Try.ntmps64
    go_wp2
    go_ret
    exact ⟨ret_bool (by simp), (Below.refl _ _).alloc (Nat.le_refl _) _⟩
def ElPost (a : Int) (b : Bool) (w : World) (e : Ending) (w' : World) : Prop := e = .returned (.tuple #[.int .i64 a, .bool b]) ∧ Below w.heap.size w w'
def StPost (a : Int) (w : World) (e : Ending) (w' : World) : Prop := e = .returned (.int .i64 a) ∧ Below w.heap.size w w'
theorem start1_any (p : Int) (w : World) : Calls Try.prog 65 #[.agg #[], .int .i64 p] w (StPost 0 w) := by
  go_enter Try.func65, Try.ntmps65
  go_wp2
  go_ret
  exact ⟨rfl, (Below.refl _ _).alloc (Nat.le_refl _) _⟩
theorem start2_any (p : Int) (w : World) : Calls Try.prog 67 #[.agg #[], .int .i64 p] w (StPost p w) := by
  go_enter Try.func67, Try.ntmps67
  go_wp2
  go_ret
  exact ⟨rfl, (Below.refl _ _).alloc (Nat.le_refl _) _⟩
theorem start3_any (p : Int) (w : World) : Calls Try.prog 69 #[.agg #[], .int .i64 p] w (StPost p w) := by
  go_enter Try.func69, Try.ntmps69
  go_wp2
  go_ret
  exact ⟨rfl, (Below.refl _ _).alloc (Nat.le_refl _) _⟩
def kEl (t : Tm) (x : Bool) (n : Int) : Int :=
  if t.kind = 1 then (if x && t.bef then n else 0)
  else if t.kind = 2 then (if x then 0 else n)
  else if (x && !t.bef) && !(t.out && decide (t.el < t.pre)) then 0 else n
def kOut (t : Tm) (x : Bool) (n : Int) : Bool :=
  if t.kind = 1 then (x && decide (kEl t x n = t.pre))
  else if t.kind = 2 then (if x then true else t.out && decide (n < t.pre))
  else if (x && !t.bef) && !(t.out && decide (t.el < t.pre)) then decide (0 < t.pre) else t.out && decide (n < t.pre)
theorem tstep_k (t : Tm) (x : Bool) (dt : Int) : tstep t x dt = ⟨t.kind, t.pre, kEl t x (tmore t dt), x, kOut t x (tmore t dt)⟩ := by
  unfold tstep kOut kEl
  split
  · cases x <;> cases t.bef <;> simp
  · split
    · cases x <;> simp
    · split <;> rfl
theorem below_drT {B : Nat} {a w : World} (h : Below B a w) (n : Nat) : Below B a (w.drewN n) := ⟨h.os, h.tape, h.output, h.size, h.block⟩
set_option maxHeartbeats 1000000 in
theorem step1_any (t : Tm) (x : Bool) (n : Int) (w : World) (hk : t.kind = 1) :
    Calls Try.prog 66 #[.agg #[], tmV t, .bool x, .int .i64 n] w (ElPost (kEl t x n) (kOut t x n) w) := by
  obtain ⟨a, ha⟩ : ∃ a, a = kEl t x n := ⟨_, rfl⟩
  obtain ⟨c, hc⟩ : ∃ c, c = kOut t x n := ⟨_, rfl⟩
  rw [← ha, ← hc]
  obtain ⟨k, p, l, b, o⟩ := t
  simp only at hk
  subst hk
  have hB := ((Below.refl w.heap.size w).alloc (Nat.le_refl _) (.cells #[] 71)).alloc (by simp) (.cells #[.int .i64 1, .int .i64 p, .int .i64 l, .bool b, .bool o] 24)
  unfold tmV
  cases x <;> cases b
  case true.true =>
    by_cases hp : n = p
    all_goals
      simp [kEl, kOut, hp] at ha hc
      have HA := Lib.hid ha
      have HC := Lib.hid hc
      clear ha hc
      go_enter Try.func66, Try.ntmps66
      go_wp2_with fail
      go_quiet (fail)
      go_wp2
      refine bodyPost_ret (v := .tuple #[.int .i64 a, .bool c]) ?_ rfl ⟨rfl, below_drT hB _⟩
      rw [HA.out, HC.out]
      simp [results, Try.results66, go_sem, hp]
  case true.false =>
    by_cases hp : (0 : Int) = p
    all_goals
      simp [kEl, kOut, hp] at ha hc
      have HA := Lib.hid ha
      have HC := Lib.hid hc
      clear ha hc
      go_enter Try.func66, Try.ntmps66
      go_wp2_with fail
      go_quiet (fail)
      go_wp2
      refine bodyPost_ret (v := .tuple #[.int .i64 a, .bool c]) ?_ rfl ⟨rfl, below_drT hB _⟩
      rw [HA.out, HC.out]
      simp [results, Try.results66, go_sem, hp]
  all_goals
    simp [kEl, kOut] at ha hc
    have HA := Lib.hid ha
    have HC := Lib.hid hc
    clear ha hc
    go_enter Try.func66, Try.ntmps66
    go_wp2_with fail
    go_quiet (fail)
    go_wp2
    refine bodyPost_ret (v := .tuple #[.int .i64 a, .bool c]) ?_ rfl ⟨rfl, below_drT hB _⟩
    rw [HA.out, HC.out]
    simp [results, Try.results66, go_sem]
set_option maxHeartbeats 1000000 in
theorem step2_any (t : Tm) (x : Bool) (n : Int) (w : World) (hk : t.kind = 2) :
    Calls Try.prog 68 #[.agg #[], tmV t, .bool x, .int .i64 n] w (ElPost (kEl t x n) (kOut t x n) w) := by
  have HT := Lib.hid (fun W : World => iStaysTrue_any t n W)
  have hl : ((w.alloc (.cells #[] 72)).heap.size) = w.heap.size + 1 := World.size_alloc _ _
  obtain ⟨k, p, l, b, o⟩ := t
  simp only at hk HT
  subst hk
  have hB := ((Below.refl w.heap.size w).alloc (Nat.le_refl _) (.cells #[] 72)).alloc (by simp) (.cells #[.int .i64 2, .int .i64 p, .int .i64 l, .bool b, .bool o] 24)
  unfold tmV at HT ⊢
  simp only at HT ⊢
  cases x
  · have e1 : kEl ⟨2, p, l, b, o⟩ false n = n := rfl
    have e2 : kOut ⟨2, p, l, b, o⟩ false n = (o && decide (n < p)) := rfl
    rw [e1, e2]
    clear e1 e2
    obtain ⟨c, hc⟩ : ∃ c, c = (o && decide (n < p)) := ⟨_, rfl⟩
    rw [← hc] at HT ⊢
    clear hc
    go_enter Try.func68, Try.ntmps68
    go_wp2_with fail
    refine (HT.out _).mono ?_
    rintro e w1 ⟨rfl, hb⟩
    go_wp2
    exact bodyPost_ret (v := .tuple #[.int .i64 n, .bool c]) (by simp [results, Try.results68, go_sem]) rfl ⟨rfl, hB.trans (hb.mono hB.size)⟩
  · have e1 : kEl ⟨2, p, l, b, o⟩ true n = 0 := rfl
    have e2 : kOut ⟨2, p, l, b, o⟩ true n = true := rfl
    rw [e1, e2]
    clear e1 e2
    go_enter Try.func68, Try.ntmps68
    go_wp2
    exact bodyPost_ret (v := .tuple #[.int .i64 0, .bool true]) (by simp [results, Try.results68, go_sem]) rfl ⟨rfl, hB⟩
set_option maxHeartbeats 2000000 in
theorem step3_any (t : Tm) (x : Bool) (n : Int) (w : World) (hk : t.kind = 3) :
    Calls Try.prog 70 #[.agg #[], tmV t, .bool x, .int .i64 n] w (ElPost (kEl t x n) (kOut t x n) w) := by
  have HS := Lib.hid (fun W : World => iStaysTrue_any t t.el W)
  have HT := Lib.hid (fun W : World => iStaysTrue_any t n W)
  have hR := Lib.hid (fun W : World => iRisingEdge_any t.bef x W)
  have ha : kEl t x n = if riseB t.bef x && !(t.out && decide (t.el < t.pre)) then 0 else n := by unfold kEl; rw [hk]; cases x <;> cases t.bef <;> rfl
  have hc : kOut t x n = if riseB t.bef x && !(t.out && decide (t.el < t.pre)) then decide (0 < t.pre) else t.out && decide (n < t.pre) := by unfold kOut; rw [hk]; cases x <;> cases t.bef <;> rfl
  rw [ha, hc]
  clear ha hc
  obtain ⟨r, hr⟩ : ∃ r, r = riseB t.bef x := ⟨_, rfl⟩
  obtain ⟨q, hq⟩ : ∃ q, q = (t.out && decide (t.el < t.pre)) := ⟨_, rfl⟩
  obtain ⟨z, hz⟩ : ∃ z, z = (t.out && decide (n < t.pre)) := ⟨_, rfl⟩
  rw [← hr] at hR
  rw [← hq] at HS
  rw [← hz] at HT
  rw [← hr, ← hq, ← hz]
  clear hr hq hz
  obtain ⟨k, p, l, b, o⟩ := t
  simp only at hk HT HS hR ⊢
  subst hk
  have hB := ((Below.refl w.heap.size w).alloc (Nat.le_refl _) (.cells #[] 73)).alloc (by simp) (.cells #[.int .i64 3, .int .i64 p, .int .i64 l, .bool b, .bool o] 24)
  have hb2 := heap_alloc_new (w.alloc (.cells #[] 73)) (.cells #[.int .i64 3, .int .i64 p, .int .i64 l, .bool b, .bool o] 24)
  rw [World.size_alloc] at hb2
  unfold tmV at HT HS ⊢
  simp only at HT HS ⊢
  cases r <;> cases q
  case true.false =>
    by_cases hp : 0 < p
    all_goals
      simp only [hp, Bool.not_false, Bool.and_self, if_true, decide_true, decide_false]
      go_enter Try.func70, Try.ntmps70
      go_wp2_with fail
      refine (HS.out _).mono ?_
      rintro e w1 ⟨rfl, hb⟩
      have c1 := (hb.block _ (blk_lt hb2)).trans hb2
      obtain ⟨d0, d1, d2, d3, d4, e0, e1, e2, e3, e4⟩ := blk5 c1
      have hB1 := hB.trans (hb.mono hB.size)
      clear hb hB hb2 c1
      go_wp2_with fail
      refine (hR.out _).mono ?_
      rintro e w2 ⟨rfl, rfl⟩
      go_wp2_with fail
      go_quiet (fail)
      go_wp2
      exact bodyPost_ret (v := .tuple #[.int .i64 0, .bool _]) (by simp [results, Try.results70, go_sem, hp]) rfl ⟨rfl, below_drT hB1 _⟩
  all_goals
    simp only [Bool.not_false, Bool.not_true, Bool.and_self, Bool.and_false, Bool.false_and, Bool.false_eq_true, if_false]
    go_enter Try.func70, Try.ntmps70
    go_wp2_with fail
    refine (HS.out _).mono ?_
    rintro e w1 ⟨rfl, hb⟩
    have c1 := (hb.block _ (blk_lt hb2)).trans hb2
    obtain ⟨d0, d1, d2, d3, d4, e0, e1, e2, e3, e4⟩ := blk5 c1
    have hB1 := hB.trans (hb.mono hB.size)
    clear hb hB hb2 c1
    go_wp2_with fail
    refine (hR.out _).mono ?_
    rintro e w2 ⟨rfl, rfl⟩
    go_wp2_with fail
    refine (HT.out _).mono ?_
    rintro e w3 ⟨rfl, hb⟩
    go_wp2
    exact bodyPost_ret (v := .tuple #[.int .i64 n, .bool z]) (by simp [results, Try.results70, go_sem]) rfl ⟨rfl, hB1.trans (hb.mono hB1.size)⟩
theorem agg0 : (Value.agg #[.int .i64 0, .int .i64 0, .int .i64 0, .bool false, .bool false]) = tmV tzero := rfl
set_option maxHeartbeats 1000000 in
theorem iTimerValid_any (t : Tm) (w : World) : Calls Try.prog 15 #[tmV t] w fun e w' => e = .returned (.bool (tvalid t)) ∧ Below w.heap.size w w' := by
  have HK := Lib.hid (fun W : World => iTimerKindOf_any t.kind W)
  have HP := Lib.hid (fun W : World => iPresetValid_any t.pre W)
  obtain ⟨c, hc⟩ : ∃ c, c = kindV t.kind := ⟨_, rfl⟩
  rw [← hc] at HK
  clear hc
  unfold tvalid
  cases h1 : inB t.kind 1 3
  · rw [h1] at HK
    unfold tmV
    obtain ⟨k, p, l, b, o⟩ := t
    simp only at HK HP ⊢
    go_enter Try.func15, Try.ntmps15
    go_wp2_with fail
    refine (HK.out _).mono ?_
    rintro e w1 ⟨rfl, rfl⟩
    go_wp2
    go_ret
    exact ⟨rfl, (Below.refl _ _).alloc (Nat.le_refl _) _⟩
  · rw [h1] at HK
    cases h2 : inB t.pre 0 10000
    · rw [h2] at HP
      unfold tmV
      obtain ⟨k, p, l, b, o⟩ := t
      simp only at HK HP ⊢
      go_enter Try.func15, Try.ntmps15
      go_wp2_with fail
      refine (HK.out _).mono ?_
      rintro e w1 ⟨rfl, rfl⟩
      go_wp2_with fail
      refine (HP.out _).mono ?_
      rintro e w2 ⟨rfl, rfl⟩
      go_wp2
      go_ret
      exact ⟨rfl, (Below.refl _ _).alloc (Nat.le_refl _) _⟩
    · rw [h2] at HP
      unfold tmV inB
      obtain ⟨k, p, l, b, o⟩ := t
      simp only at HK HP ⊢
      by_cases h3 : 0 ≤ l
      all_goals
        go_enter Try.func15, Try.ntmps15
        go_wp2_with fail
        refine (HK.out _).mono ?_
        rintro e w1 ⟨rfl, rfl⟩
        go_wp2_with fail
        refine (HP.out _).mono ?_
        rintro e w2 ⟨rfl, rfl⟩
        go_wp2
        go_ret
        exact ⟨ret_bool (by simp [h3] <;> omega), (Below.refl _ _).alloc (Nat.le_refl _) _⟩
set_option maxHeartbeats 1000000 in
theorem iNewTimer_any (k p : Int) (w : World) (hk : -9223372036854775808 ≤ k ∧ k ≤ 9223372036854775807) (hp : -9223372036854775808 ≤ p ∧ p ≤ 9223372036854775807) :
    Calls Try.prog 19 #[.int .i64 k, .int .i64 p] w (TmPost (tnew k p) w) := by
  obtain ⟨R, hR⟩ : ∃ R, R = tnew k p := ⟨_, rfl⟩
  rw [← hR]
  have HK := Lib.hid (fun W : World => iTimerKindOf_any k W)
  have HP := Lib.hid (fun W : World => iPresetValid_any p W)
  have hb0 := heap_alloc_new w (.cells #[.int .i64 0, .int .i64 0, .int .i64 0, .bool false, .bool false] 24)
  have hB := (Below.refl w.heap.size w).alloc (Nat.le_refl _) (.cells #[.int .i64 0, .int .i64 0, .int .i64 0, .bool false, .bool false] 24)
  cases h1 : inB k 1 3
  · have HR := Lib.hid (show R = tzero by rw [hR]; unfold tnew tvalid; simp only [h1]; rfl)
    rw [h1] at HK
    obtain ⟨c, hc⟩ : ∃ c, c = kindV k := ⟨_, rfl⟩
    rw [← hc] at HK
    clear hR hc h1
    obtain ⟨d0, d1, d2, d3, d4, e0, e1, e2, e3, e4⟩ := blk5 hb0
    clear hb0
    go_enter Try.func19, Try.ntmps19
    go_wp2_with fail
    refine (HK.out _).mono ?_
    rintro e w1 ⟨rfl, rfl⟩
    go_wp2
    refine bodyPost_ret (v := tmV R) ?_ rfl ⟨rfl, hB⟩
    rw [HR.out]
    simp [results, Try.results19, go_sem, tmV, tzero, *]
  · rw [h1] at HK
    cases h2 : inB p 0 10000
    · have HR := Lib.hid (show R = tzero by rw [hR]; unfold tnew tvalid; simp only [h1, h2]; rfl)
      rw [h2] at HP
      obtain ⟨c, hc⟩ : ∃ c, c = kindV k := ⟨_, rfl⟩
      rw [← hc] at HK
      clear hR hc h1 h2
      obtain ⟨d0, d1, d2, d3, d4, e0, e1, e2, e3, e4⟩ := blk5 hb0
      clear hb0
      go_enter Try.func19, Try.ntmps19
      go_wp2_with fail
      refine (HK.out _).mono ?_
      rintro e w1 ⟨rfl, rfl⟩
      go_wp2_with fail
      refine (HP.out _).mono ?_
      rintro e w1 ⟨rfl, rfl⟩
      go_wp2
      refine bodyPost_ret (v := tmV R) ?_ rfl ⟨rfl, hB⟩
      rw [HR.out]
      simp [results, Try.results19, go_sem, tmV, tzero, *]
    · have hv : tvalid ⟨k, p, 0, false, false⟩ = true := by unfold tvalid; simp only [h1, h2]; unfold inB at h2 ⊢; simp at h2 ⊢; omega
      have hk3 : k = 1 ∨ k = 2 ∨ k = 3 := by unfold inB at h1; simp at h1; omega
      rw [h2] at HP
      have HR := Lib.hid (show R = ⟨k, p, if k = 1 then 0 else p, false, false⟩ by rw [hR]; unfold tnew; rw [if_pos hv])
      rcases hk3 with rfl | rfl | rfl
      all_goals
        have HS1 := Lib.hid (fun W : World => start1_any p W)
        have HS2 := Lib.hid (fun W : World => start2_any p W)
        have HS3 := Lib.hid (fun W : World => start3_any p W)
        first
        | rw [kindV1] at HK
        | rw [kindV2] at HK
        | rw [kindV3] at HK
        clear hR h1 h2 hv
        go_enter Try.func19, Try.ntmps19
        go_wp2_with fail
        refine (HK.out _).mono ?_
        rintro e w1 ⟨rfl, rfl⟩
        go_wp2_with fail
        refine (HP.out _).mono ?_
        rintro e w1 ⟨rfl, rfl⟩
        go_wp2_with fail
        first
        | refine (HS1.out _).mono ?_
        | refine (HS2.out _).mono ?_
        | refine (HS3.out _).mono ?_
        rintro e w1 ⟨rfl, hb⟩
        have c0 := (hb.block _ (blk_lt hb0)).trans hb0
        obtain ⟨d0, d1, d2, d3, d4, e0, e1, e2, e3, e4⟩ := blk5 c0
        have hB1 := hB.trans (hb.mono hB.size)
        clear c0 hb hb0 hB
        go_wp2
        refine bodyPost_ret (v := tmV R) ?_ rfl ⟨rfl, (((((hB1.setCell (Nat.le_refl _) _).setCell (Nat.le_refl _) _).setCell (Nat.le_refl _) _).setCell (Nat.le_refl _) _).setCell (Nat.le_refl _) _)⟩
        rw [HR.out]
        simp [results, Try.results19, go_sem, tmV, *]
set_option maxHeartbeats 8000000 in
theorem iTimerStep_any (t : Tm) (x : Bool) (dt : Int) (w : World) (hf : fitT t) (hd : -9223372036854775808 ≤ dt ∧ dt ≤ 9223372036854775807) :
    Calls Try.prog 21 #[tmV t, .bool x, .int .i64 dt] w (TmPost (tstepF t x dt) w) := by
  obtain ⟨R, hR⟩ : ∃ R, R = tstepF t x dt := ⟨_, rfl⟩
  rw [← hR]
  have hb1 := blk_alloc (boxT w t) (.cells #[.int .i64 0, .int .i64 0, .int .i64 0, .bool false, .bool false] 24)
  have hb2 := heap_alloc_new (w.alloc (.cells #[.int .i64 t.kind, .int .i64 t.pre, .int .i64 t.el, .bool t.bef, .bool t.out] 24)) (.cells #[.int .i64 0, .int .i64 0, .int .i64 0, .bool false, .bool false] 24)
  rw [World.size_alloc] at hb2
  have hB := ((Below.refl w.heap.size w).alloc (Nat.le_refl _) (.cells #[.int .i64 t.kind, .int .i64 t.pre, .int .i64 t.el, .bool t.bef, .bool t.out] 24)).alloc (by simp) (.cells #[.int .i64 0, .int .i64 0, .int .i64 0, .bool false, .bool false] 24)
  have HV := Lib.hid (fun W : World => iTimerValid_any t W)
  have HD := Lib.hid (fun W : World => iStepTimeValid_any dt W)
  unfold tmV at HV ⊢
  cases hv : tvalid t
  · have HR := Lib.hid (show R = tzero by rw [hR]; unfold tstepF; rw [hv]; rfl)
    rw [hv] at HV
    clear hR hv
    obtain ⟨k, p, l, b, o⟩ := t
    simp only at HV hb1 hb2 hB ⊢
    go_enter Try.func21, Try.ntmps21
    go_wp2_with fail
    refine (HV.out _).mono ?_
    rintro e w1 ⟨rfl, hb⟩
    have c1 := (hb.block _ (blk_lt hb2)).trans hb2
    obtain ⟨d0, d1, d2, d3, d4, e0, e1, e2, e3, e4⟩ := blk5 c1
    have hB1 := hB.trans (hb.mono hB.size)
    clear hb1 hb2 hb hB c1
    go_wp2
    refine bodyPost_ret (v := tmV R) ?_ rfl ⟨rfl, ((((hB1.setCell (by simp) _).setCell (by simp) _).setCell (by simp) _).setCell (by simp) _).setCell (by simp) _⟩
    rw [HR.out]
    simp [results, Try.results21, go_sem, tmV, tzero, *]
  · rw [hv] at HV
    cases hi : inB dt 0 1000
    · have HR := Lib.hid (show R = tzero by rw [hR]; unfold tstepF; rw [hv, hi]; rfl)
      rw [hi] at HD
      clear hR hv hi
      obtain ⟨k, p, l, b, o⟩ := t
      simp only at HV hb1 hb2 hB ⊢
      go_enter Try.func21, Try.ntmps21
      go_wp2_with fail
      refine (HV.out _).mono ?_
      rintro e w1 ⟨rfl, hb⟩
      have c1 := (hb.block _ (blk_lt hb2)).trans hb2
      obtain ⟨d0, d1, d2, d3, d4, e0, e1, e2, e3, e4⟩ := blk5 c1
      have hB1 := hB.trans (hb.mono hB.size)
      clear hb1 hb2 hb hB c1
      go_wp2_with fail
      refine (HD.out _).mono ?_
      rintro e w2 ⟨rfl, rfl⟩
      go_wp2
      refine bodyPost_ret (v := tmV R) ?_ rfl ⟨rfl, ((((hB1.setCell (by simp) _).setCell (by simp) _).setCell (by simp) _).setCell (by simp) _).setCell (by simp) _⟩
      rw [HR.out]
      simp [results, Try.results21, go_sem, tmV, tzero, *]
    · rw [hi] at HD
      have HR := Lib.hid (show R = ⟨t.kind, t.pre, kEl t x (tmore t dt), x, kOut t x (tmore t dt)⟩ by rw [hR]; unfold tstepF; rw [hv, hi]; exact tstep_k t x dt)
      have hi2 : 0 ≤ dt ∧ dt ≤ 1000 := by unfold inB at hi; simp at hi; exact hi
      obtain ⟨hk, hp, hl⟩ := tvalid_parts hv
      have S1 := Lib.hid (fun (W : World) (h : t.kind = 1) => step1_any t x (tmore t dt) W h)
      have S2 := Lib.hid (fun (W : World) (h : t.kind = 2) => step2_any t x (tmore t dt) W h)
      have S3 := Lib.hid (fun (W : World) (h : t.kind = 3) => step3_any t x (tmore t dt) W h)
      have HK := Lib.hid (fun W : World => iTimerKindOf_any t.kind W)
      obtain ⟨u, hu⟩ : ∃ u, u = kEl t x (tmore t dt) := ⟨_, rfl⟩
      obtain ⟨z, hz⟩ : ∃ z, z = kOut t x (tmore t dt) := ⟨_, rfl⟩
      rw [← hu, ← hz] at HR S1 S2 S3
      clear hR hf hu hz hi hv
      unfold tmV at S1 S2 S3
      unfold tmore at S1 S2 S3
      obtain ⟨c, hc⟩ : ∃ c, c = kindV t.kind := ⟨_, rfl⟩
      rw [← hc] at HK
      have HC := Lib.hid hc
      clear hc
      obtain ⟨k, p, l, b, o⟩ := t
      simp only at HV HR S1 S2 S3 HK HC hk hp hl hb1 hb2 hB ⊢
      have hk3 : k = 1 ∨ k = 2 ∨ k = 3 := by omega
      clear hk
      go_enter Try.func21, Try.ntmps21
      go_wp2_with fail
      refine (HV.out _).mono ?_
      rintro e w1 ⟨rfl, hb⟩
      have c0 := (hb.block _ (blk_lt hb1)).trans hb1
      have c1 := (hb.block _ (blk_lt hb2)).trans hb2
      have hB1 := hB.trans (hb.mono hB.size)
      obtain ⟨f0, f1, f2, f3, f4, g0, g1, g2, g3, g4⟩ := blk5 c0
      clear hb1 hb2 hb hB
      go_wp2_with fail
      refine (HD.out _).mono ?_
      rintro e w2 ⟨rfl, rfl⟩
      go_wp2_with fail
      refine (HK.out _).mono ?_
      rintro e w2 ⟨rfl, rfl⟩
      go_upto_region 4 with fail
      clear HV HD HK
      rcases hk3 with rfl | rfl | rfl
      all_goals
        have hcv := HC.out
        first
        | rw [kindV1] at hcv
        | rw [kindV2] at hcv
        | rw [kindV3] at hcv
        subst hcv
        first
        | have S := Lib.hid (fun W : World => S1.out W rfl)
        | have S := Lib.hid (fun W : World => S2.out W rfl)
        | have S := Lib.hid (fun W : World => S3.out W rfl)
        clear S1 S2 S3 HC
        by_cases hm : p < l + dt
        all_goals
          first
          | (have em : (if l + dt < p then l + dt else p) = l + dt := by split <;> omega
             rw [em] at S
             clear em)
          | (have em : (if l + dt < p then l + dt else p) = p := by split <;> omega
             rw [em] at S
             clear em)
          go_wp2_with fail
          refine (S.out _).mono ?_
          rintro e w3 ⟨rfl, hb⟩
          have a0 := (hb.block _ (blk_lt c0)).trans c0
          have a1 := (hb.block _ (blk_lt c1)).trans c1
          have hB2 := hB1.trans (hb.mono hB1.size)
          clear hb hB1 c0 c1 f0 f1 f2 f3 f4 g0 g1 g2 g3 g4
          obtain ⟨f0, f1, f2, f3, f4, g0, g1, g2, g3, g4⟩ := blk5 a0
          obtain ⟨d0, d1, d2, d3, d4, e0, e1, e2, e3, e4⟩ := blk5 a1
          clear a0 a1
          go_wp2
          refine bodyPost_ret (v := tmV R) ?_ rfl ⟨rfl, ((((hB2.setCell (by simp) _).setCell (by simp) _).setCell (by simp) _).setCell (by simp) _).setCell (by simp) _⟩
          rw [HR.out]
          simp [results, Try.results21, go_sem, tmV, *]
theorem iTimerStep_ok (t : Tm) (x : Bool) (dt : Int) (w : World) (hv : tvalid t = true) (hd : 0 ≤ dt ∧ dt ≤ 1000) :
    Calls Try.prog 21 #[tmV t, .bool x, .int .i64 dt] w (TmPost (tstep t x dt) w) := by
  obtain ⟨hk, hp, hl⟩ := tvalid_parts hv
  have h := iTimerStep_any t x dt w (by unfold fitT; omega) (by omega)
  unfold tstepF at h
  rw [hv, show inB dt 0 1000 = true by unfold inB; simp; omega] at h
  exact h
set_option maxHeartbeats 4000000 in
theorem iTimerTrace_any (t : Tm) (v : Value) (l : List Bool) (dt : Int) (w : World) (_hf : fitT t) (h : BoolsR w w.heap.size v l) (_hd : -9223372036854775808 ≤ dt ∧ dt ≤ 9223372036854775807) :
    Calls Try.prog 25 #[tmV t, v, .int .i64 dt] w (OwnBP (traceL t l dt) w) := by
  obtain ⟨A, c, rfl, hr, hl⟩ := h
  have hb1 := boxT w t
  have hB := (Below.refl w.heap.size w).alloc (Nat.le_refl _) (.cells #[.int .i64 t.kind, .int .i64 t.pre, .int .i64 t.el, .bool t.bef, .bool t.out] 24)
  have HV := Lib.hid (fun W : World => iTimerValid_any t W)
  have HI := Lib.hid (fun W : World => iStepTimeValid_any dt W)
  have HS := Lib.hid (fun (W : World) (T : Tm) (x : Bool) (h1 : tvalid T = true) (h2 : 0 ≤ dt ∧ dt ≤ 1000) => iTimerStep_ok T x dt W h1 h2)
  obtain ⟨D, hD⟩ : ∃ D, D = traceL t l dt := ⟨_, rfl⟩
  rw [← hD]
  unfold tmV at HV HS ⊢
  by_cases h2 : 200 < l.length
  · have HD := Lib.hid (show D = [] by rw [hD]; unfold traceL traceOK; rw [decide_eq_false (by omega)]; cases tvalid t <;> cases inB dt 0 1000 <;> rfl)
    clear hD
    go_enter Try.func25, Try.ntmps25
    go_wp2
    go_ret
    exact ⟨_, rfl, by rw [HD.out]; exact World.ownsRow_nil _ _ _ _, hB⟩
  cases hv : tvalid t
  · have HD := Lib.hid (show D = [] by rw [hD]; unfold traceL traceOK; rw [hv]; rfl)
    clear hD
    go_enter Try.func25, Try.ntmps25
    go_wp2_with fail
    refine (HV.out _).mono ?_
    rw [hv]
    rintro e w1 ⟨rfl, hb⟩
    have hB1 := hB.trans (hb.mono hB.size)
    go_wp2
    go_ret
    exact ⟨_, rfl, by rw [HD.out]; exact World.ownsRow_nil _ _ _ _, hB1⟩
  cases hi : inB dt 0 1000
  · have HD := Lib.hid (show D = [] by rw [hD]; unfold traceL traceOK; rw [hv, hi]; rfl)
    clear hD
    go_enter Try.func25, Try.ntmps25
    go_wp2_with fail
    refine (HV.out _).mono ?_
    rw [hv]
    rintro e w1 ⟨rfl, hb⟩
    have hB1 := hB.trans (hb.mono hB.size)
    go_wp2_with fail
    refine (HI.out _).mono ?_
    rw [hi]
    rintro e w2 ⟨rfl, rfl⟩
    go_wp2
    go_ret
    exact ⟨_, rfl, by rw [HD.out]; exact World.ownsRow_nil _ _ _ _, hB1⟩
  have HD := Lib.hid (show D = traceTo t l dt l.length by rw [hD]; unfold traceL traceOK; rw [hv, hi, decide_eq_true (by omega)]; rfl)
  have hi2 : 0 ≤ dt ∧ dt ≤ 1000 := by unfold inB at hi; simp at hi; exact hi
  have HT := Lib.hid (fun k => tAt_valid l hv hi2.1 k)
  clear hD
  go_enter Try.func25, Try.ntmps25
  go_wp2_with fail
  refine (HV.out _).mono ?_
  rw [hv]
  rintro e w1 ⟨rfl, hb⟩
  have hB1 := hB.trans (hb.mono hB.size)
  have hblk : w1.heap[w.heap.size]? = some (.cells (tmC t) 24 (0, 0)) := (hb.block _ (blk_lt hb1)).trans hb1
  clear hB hb hb1 hv
  go_wp2_with fail
  refine (HI.out _).mono ?_
  rw [hi]
  rintro e w2 ⟨rfl, rfl⟩
  clear hi
  go_wp2_with (at_make; refine wpl_make rfl _ _ 35 rfl elB l.length rfl rfl ?c1 ?c2 ?_)
  case c1 => omega
  case c2 => omega
  intro w2 hown hb2
  rw [toList_madeCells_one] at hown
  have hB2 := hB1.trans (hb2.mono hB1.size)
  have hblk2 := (hb2.block _ (blk_lt hblk)).trans hblk
  have hlt1 := blk_lt hblk
  obtain ⟨g, hg⟩ : ∃ g, g = w1.heap.size := ⟨_, rfl⟩
  rw [← hg] at hown hlt1 ⊢
  clear hb2 hblk hB1 hg
  go_wp2
  go_loopw [28] (fun i wr => ∃ k : Nat, k ≤ l.length ∧ i = .int .i64 k ∧ wr.heap[w.heap.size]? = some (.cells (tmC (tAt t l dt k)) 24 (0, 0)) ∧ wr.ownsRow g 4 1 (.slice (some ⟨g, 0, none⟩) l.length l.length) l.length ((List.range k).map (fun i => Value.bool (tAt t l dt (i + 1)).out) ++ (List.replicate l.length (Value.bool false)).drop k) ∧ Below w.heap.size w wr) (fun i _ => l.length - (intOf i).toNat)
  case atStart => exact ⟨0, by omega, rfl, hblk2, by simpa using hown, hB2⟩
  case round =>
    obtain ⟨k, hk, rfl, hbk, hO, hbr⟩ := hrel
    clear hown hB2 hblk2
    by_cases hlt : k < l.length
    · obtain ⟨p, rfl, hpb, hc⟩ := cell_bool hr hlt
      have g1 := (hbr.cell (p := p.add k) (by rw [add_block]; exact hpb)).trans hc
      have HTv := Lib.hid (HT.out k)
      have HSu := Lib.hid (tAt_succ t l dt k hlt)
      obtain ⟨T, hT⟩ : ∃ T, T = tAt t l dt k := ⟨_, rfl⟩
      rw [← hT] at hbk HTv HSu
      clear hT
      obtain ⟨c0, c1', c2, c3, c4, z0, z1, z2, z3, z4⟩ := blkT hbk
      have i1 : (k : Int) < (l.length : Int) := by omega
      have hltd := blk_lt hbk
      clear hc
      go_wp2_with fail
      refine (HS.out _ T l[k] HTv.out hi2).mono ?_
      rw [← HSu.out]
      obtain ⟨T2, hT2⟩ : ∃ T2, T2 = tAt t l dt (k + 1) := ⟨_, rfl⟩
      rw [← hT2]
      have HT2 := Lib.hid hT2
      clear hT2
      rintro e w3 ⟨rfl, hb3⟩
      have hbk3 := (hb3.block _ hltd).trans hbk
      have hO3 := own_below hO hb3
      have hbr3 : Below w.heap.size w w3 := hbr.trans (hb3.mono hbr.size)
      clear c0 c1' c2 c3 c4 z0 z1 z2 z3 z4 hbk hO hbr hb3 hltd g1
      obtain ⟨c0, c1', c2, c3, c4, z0, z1, z2, z3, z4⟩ := blkT hbk3
      have hbk4 := five_set (u := T2) hbk3
      have hO4 := five_own (u := T2) hO3 hbk3 (by decide)
      have hbr4 := five_below (u := T2) hbr3 (Nat.le_refl w.heap.size)
      unfold tmV
      have HX := Lib.hid hbk4
      have HB := Lib.hid hbr4
      have HO := Lib.hid hO4
      clear hbk3 hO3 hbr3 hbk4 hO4 hbr4
      go_upto_region 8 with fail
      generalize (((((w3.setCell ⟨w.heap.size, 0, none⟩ (.int .i64 T2.kind)).setCell ⟨w.heap.size, 1, none⟩ (.int .i64 T2.pre)).setCell ⟨w.heap.size, 2, none⟩ (.int .i64 T2.el)).setCell ⟨w.heap.size, 3, none⟩ (.bool T2.bef)).setCell ⟨w.heap.size, 4, none⟩ (.bool T2.out)) = w4 at HX HB HO ⊢
      clear c0 c1' c2 c3 c4 z0 z1 z2 z3 z4
      obtain ⟨-, -, -, -, c4, -⟩ := blkT HX.out
      have hO' := HO.out
      have hst := hO'.stored k (Value.bool (tAt t l dt (k + 1)).out)
      rw [mark_step (fun i => Value.bool (tAt t l dt (i + 1)).out) _ k (by simpa using hlt)] at hst
      have hc' := hO'.cellAt k (by omega)
      have hz := hO'.frozenAt k
      obtain ⟨y, hy⟩ : ∃ y, ((List.range k).map (fun i => Value.bool (tAt t l dt (i + 1)).out) ++ (List.replicate l.length (Value.bool false)).drop k)[k]? = some y := ⟨_, List.getElem?_eq_getElem (by simp; omega)⟩
      rw [hy] at hc'
      rw [← HT2.out] at hst
      have hbk5 : (w4.setCell ⟨g, k, none⟩ (Value.bool T2.out)).heap[w.heap.size]? = some (.cells (tmC T2) 24 (0, 0)) := (Below.heap_setCell _ _ _ _ (by simp; omega)).trans HX.out
      have H := Lib.hid hst
      have HX5 := Lib.hid hbk5
      clear hst hy hbk5 HX hO' HO
      go_wp2
      go_roundw
      case rel => exact ⟨k + 1, by omega, by go_num, by rw [← HT2.out]; exact HX5.out, H.out.1, HB.out.setCell (by simp; omega) _⟩
      case measure => simp [intOf]; omega
    · go_wp2
      go_ret
      obtain rfl : k = l.length := by omega
      refine ⟨_, rfl, ?_, hbr⟩
      rw [HD.out]
      unfold OwnB traceTo
      rw [List.length_map, List.length_range, List.map_map]
      refine mono_own ?_ (Nat.le_of_lt hlt1)
      simpa [Function.comp_def] using hO
end Go.Proofs.Ytikebldmbabmiaa
