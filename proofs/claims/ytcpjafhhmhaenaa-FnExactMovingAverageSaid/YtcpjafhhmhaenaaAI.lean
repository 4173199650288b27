/- Arithmetic with words: the program's functions on numbers. -/
import Derived.Test.YtcpjafhhmhaenaaAW
import Derived.Test.YtcpjafhhmhaenaaB
import Derived.Test.YtcpjafhhmhaenaaLA
namespace Go.Proofs.Ytcpjafhhmhaenaa
open Go.RowKit
attribute [local go_sem ↓] Go.wp_at_zero Go.wp_at_succ

theorem lim_clip (n lo hi : Int) : limI n lo hi = clipI n lo hi := by
  unfold limI maxI minI clipI
  repeat' split
  all_goals omega
theorem clipW_clip (n : Int) : clipW n = clipI n (-32768) 32767 := by rw [← lim_clipW, lim_clip]
theorem clipI_word (n : Int) : -32768 ≤ clipI n (-32768) 32767 ∧ clipI n (-32768) 32767 ≤ 32767 := clip_bd _ _ _ (by omega)
theorem lit_ints (l : List Int) (w : World) (hl : l.length ≤ 100) (hb : ∀ x ∈ l, fitI x) : IntsR (w.alloc (.cells (l.map (.int .i64)).toArray 3)) (w.alloc (.cells (l.map (.int .i64)).toArray 3)).heap.size (.slice (some ⟨w.heap.size, 0, none⟩) l.length l.length) l := by
  have := World.ownsRow_lit (e := 3) (size := 1) w (l.map (.int .i64)).toArray l.length (Nat.le_refl w.heap.size) (by simp [maxLen]; omega) (by simp)
  exact OwnI.read (b := w.heap.size) (by unfold OwnI; simpa using this) (by omega) hb
theorem below_lit (o : Obj) (w : World) : Below w.heap.size w (w.alloc o) := (Below.refl _ _).alloc (Nat.le_refl _) _
theorem lit2 {a b : Int} (ha : fitI a) (hb : fitI b) (w : World) : IntsR (w.alloc (.cells #[.int .i64 a, .int .i64 b] 3)) (w.alloc (.cells #[.int .i64 a, .int .i64 b] 3)).heap.size (.slice (some ⟨w.heap.size, 0, none⟩) 2 2) [a, b] :=
  lit_ints [a, b] w (by simp) (by simp [ha, hb])
theorem lit5 {a b c d e : Int} (ha : fitI a) (hb : fitI b) (hc : fitI c) (hd : fitI d) (he : fitI e) (w : World) : IntsR (w.alloc (.cells #[.int .i64 a, .int .i64 b, .int .i64 c, .int .i64 d, .int .i64 e] 3)) (w.alloc (.cells #[.int .i64 a, .int .i64 b, .int .i64 c, .int .i64 d, .int .i64 e] 3)).heap.size (.slice (some ⟨w.heap.size, 0, none⟩) 5 5) [a, b, c, d, e] :=
  lit_ints [a, b, c, d, e] w (by simp) (by simp [ha, hb, hc, hd, he])
theorem ok2 (a b : Int) : wordsOK [a, b] = (inW a && inW b) := by unfold wordsOK inW; simp
theorem ok5 (r a b lo hi : Int) : wordsOK [r, a, b, lo, hi] = (inW r && (inW a && (inW b && (inW lo && inW hi)))) := by unfold wordsOK inW; simp
theorem and_parts {x y : Bool} (h : (x && y) = true) : x = true ∧ y = true := by simpa using h
/-- a word moved towards another one by at most d -/
theorem towards_eq {n t d : Int} (hn : -32768 ≤ n ∧ n ≤ 32767) (ht : -32768 ≤ t ∧ t ≤ 32767) (hd : 0 ≤ d ∧ d ≤ 32767) : clipI (n + clipI (clipI (t - n) (-32768) 32767) (-d) d) (-32768) 32767 = clipI t (n - d) (n + d) := by
  have h1 : (t - n < -32768 ∧ clipI (t - n) (-32768) 32767 = -32768) ∨ (32767 < t - n ∧ clipI (t - n) (-32768) 32767 = 32767) ∨ clipI (t - n) (-32768) 32767 = t - n := by
    unfold clipI
    repeat' split
    all_goals omega
  have h2 : ∀ x, (x < -d ∧ clipI x (-d) d = -d) ∨ (d < x ∧ clipI x (-d) d = d) ∨ ((-d ≤ x ∧ x ≤ d) ∧ clipI x (-d) d = x) := by
    intro x
    unfold clipI
    repeat' split
    all_goals omega
  have h3 : ∀ x, -32768 ≤ x ∧ x ≤ 32767 → clipI x (-32768) 32767 = x := by
    intro x hx
    unfold clipI
    repeat' split
    all_goals omega
  have h4 : (t < n - d ∧ clipI t (n - d) (n + d) = n - d) ∨ (n + d < t ∧ clipI t (n - d) (n + d) = n + d) ∨ ((n - d ≤ t ∧ t ≤ n + d) ∧ clipI t (n - d) (n + d) = t) := by
    unfold clipI
    repeat' split
    all_goals omega
  have h5 := h2 (clipI (t - n) (-32768) 32767)
  rw [h3 _ (by omega)]
  omega
theorem dead_eq {x k : Int} (h0 : inW x = true) (hk : inB k 0 32767 = true) : clipI 0 (x - k) (x + k) = deadS x k := by
  have hx := inW_bd h0; have hk' := inB_bd hk
  unfold deadS absI clipI
  rw [h0, hk]
  simp only [Bool.true_and, decide_eq_true_eq]
  repeat' split
  all_goals omega
theorem ramp_eq {n t r : Int} (h1 : inW n = true) (h2 : inW t = true) (h3 : inB r 0 32767 = true) : rampS n t r = clipI t (n - r) (n + r) := by unfold rampS; rw [h1, h2, h3]; rfl
theorem wlesser_any (a b : Int) (w : World) :
    Calls Try.prog 80 #[.int .i64 a, .int .i64 b] w (IntIs (minI a b) w) := by
  by_cases h : b < a
  all_goals
    go_enter Try.func80, Try.ntmps80
    go_wp2
    go_ret
    exact int_is (by unfold minI; split <;> omega)
theorem wgreater_any (a b : Int) (w : World) :
    Calls Try.prog 79 #[.int .i64 a, .int .i64 b] w (IntIs (maxI a b) w) := by
  by_cases h : a < b
  all_goals
    go_enter Try.func79, Try.ntmps79
    go_wp2
    go_ret
    exact int_is (by unfold maxI; split <;> omega)
theorem wlimited_any (n lo hi : Int) (w : World) :
    Calls Try.prog 73 #[.int .i64 n, .int .i64 lo, .int .i64 hi] w (IntIs (clipI n lo hi) w) := by
  have hE := Lib.hid (lim_clip n lo hi)
  go_enter Try.func73, Try.ntmps73
  go_wp2_with fail
  refine (wlesser_any n hi _).mono ?_
  rintro e w' ⟨rfl, rfl⟩
  go_wp2_with fail
  refine (wgreater_any lo _ _).mono ?_
  rintro e w' ⟨rfl, rfl⟩
  go_wp2
  go_ret
  exact int_is hE.out
theorem wplus_any (a b : Int) (w : World) (ha : -65536 ≤ a ∧ a ≤ 65536) (hb : -65536 ≤ b ∧ b ≤ 65536) :
    Calls Try.prog 51 #[.int .i64 a, .int .i64 b] w (IntIs (clipI (a + b) (-32768) 32767) w) := by
  have hE := Lib.hid (clipW_clip (a + b))
  go_enter Try.func51, Try.ntmps51
  go_wp2_with fail
  refine (nearest_any (a + b) _).mono ?_
  rintro e w' ⟨rfl, rfl⟩
  go_wp2
  go_ret
  exact int_is hE.out
theorem wminus_any (a b : Int) (w : World) (ha : -65536 ≤ a ∧ a ≤ 65536) (hb : -65536 ≤ b ∧ b ≤ 65536) :
    Calls Try.prog 74 #[.int .i64 a, .int .i64 b] w (IntIs (clipI (a - b) (-32768) 32767) w) := by
  have hE := Lib.hid (clipW_clip (a - b))
  go_enter Try.func74, Try.ntmps74
  go_wp2_with fail
  refine (nearest_any (a - b) _).mono ?_
  rintro e w' ⟨rfl, rfl⟩
  go_wp2
  go_ret
  exact int_is hE.out
set_option maxHeartbeats 400000 in
theorem wtowards_any (n t d : Int) (w : World) (hn : -32768 ≤ n ∧ n ≤ 32767) (ht : -32768 ≤ t ∧ t ≤ 32767) (hd : 0 ≤ d ∧ d ≤ 32767) :
    Calls Try.prog 60 #[.int .i64 n, .int .i64 t, .int .i64 d] w (IntIs (clipI t (n - d) (n + d)) w) := by
  have hE := Lib.hid (towards_eq hn ht hd)
  have hM := Lib.hid (fun W => wminus_any t n W (by omega) (by omega))
  have hc := clip_bd (clipI (t - n) (-32768) 32767) (-d) d (by omega)
  obtain ⟨x, hx⟩ : ∃ x, x = clipI (t - n) (-32768) 32767 := ⟨_, rfl⟩
  rw [← hx] at hM hE hc
  obtain ⟨y, hy⟩ : ∃ y, y = clipI x (-d) d := ⟨_, rfl⟩
  have hLm := Lib.hid (fun W => wlimited_any x (-d) d W)
  rw [← hy] at hE hc hLm
  have hP := Lib.hid (fun W => wplus_any n y W (by omega) (by omega))
  clear hx hy
  go_enter Try.func60, Try.ntmps60
  go_wp2_with fail
  refine (hM.out _).mono ?_
  rintro e w' ⟨rfl, rfl⟩
  go_wp2_with fail
  refine (hLm.out _).mono ?_
  rintro e w' ⟨rfl, rfl⟩
  go_wp2_with fail
  refine (hP.out _).mono ?_
  rintro e w' ⟨rfl, rfl⟩
  go_wp2
  go_ret
  exact int_is hE.out
theorem distValid_any (n : Int) (w : World) :
    Calls Try.prog 59 #[.int .i64 n] w (BoolIs (inB n 0 32767) w) := by
  by_cases h : 0 ≤ n
  all_goals
    go_enter Try.func59, Try.ntmps59
    go_wp2
    go_ret
    exact bool_is (by unfold inB; simp [h] <;> omega)
theorem quotDown_any (n d : Int) (w : World) (hd : 0 < d ∧ d ≤ 4611686018427387904) (hn : -4611686018427387904 ≤ n ∧ n ≤ 4611686018427387904) :
    Calls Try.prog 57 #[.int .i64 n, .int .i64 d] w (IntIs (n / d) w) := by
  have hz := tdiv_bd hd.1 hn
  rw [← floor_eq n d hd.1]
  have hd0 : ¬ d = 0 := by omega
  have hd1 : (d == 0) = false := by simpa using hd0
  by_cases h : n.tmod d < 0
  all_goals
    go_enter Try.func57, Try.ntmps57
    go_wp2
    go_ret
    exact int_is (by simp)
set_option maxHeartbeats 1000000 in
theorem iAddSaturated_any (a b : Int) (w : World) (ha : fitI a) (hb : fitI b) : Calls Try.prog 19 #[.int .i64 a, .int .i64 b] w (IntP (addS a b) w) := by
  have hL := Lib.hid (lit2 ha hb w)
  have hB := Lib.hid (below_lit (.cells #[.int .i64 a, .int .i64 b] 3) w)
  cases h : (inW a && inW b)
  · have hO := Lib.hid ((ok2 a b).trans h)
    have hE := Lib.hid (show (0 : Int) = addS a b by unfold addS; rw [h]; rfl)
    clear h
    go_enter Try.func19, Try.ntmps19
    go_wp2_with fail
    refine (areWords_any _ [a, b] _ hL.out).mono ?_
    rw [hO.out]
    rintro e w' ⟨rfl, rfl⟩
    go_wp2
    go_ret
    exact ⟨ret_int hE.out, hB.out⟩
  · have hO := Lib.hid ((ok2 a b).trans h)
    obtain ⟨h1, h2⟩ := and_parts h
    have hE := Lib.hid (show clipI (a + b) (-32768) 32767 = addS a b by unfold addS; rw [h]; rfl)
    have hP := Lib.hid (fun W => wplus_any a b W (by have := inW_bd h1; omega) (by have := inW_bd h2; omega))
    clear h h1 h2
    go_enter Try.func19, Try.ntmps19
    go_wp2_with fail
    refine (areWords_any _ [a, b] _ hL.out).mono ?_
    rw [hO.out]
    rintro e w' ⟨rfl, rfl⟩
    go_wp2_with fail
    refine (hP.out _).mono ?_
    rintro e w' ⟨rfl, rfl⟩
    go_wp2
    go_ret
    exact ⟨ret_int hE.out, hB.out⟩
set_option maxHeartbeats 1000000 in
theorem iRampStep_any (n t r : Int) (w : World) (hn : fitI n) (ht : fitI t) (_hr : fitI r) : Calls Try.prog 30 #[.int .i64 n, .int .i64 t, .int .i64 r] w (IntP (rampS n t r) w) := by
  have hL := Lib.hid (lit2 hn ht w)
  have hB := Lib.hid (below_lit (.cells #[.int .i64 n, .int .i64 t] 3) w)
  have hA := Lib.hid (ok2 n t)
  cases h : (inW n && inW t)
  · have hE := Lib.hid (show (0 : Int) = rampS n t r by unfold rampS; rw [← Bool.and_assoc, h]; rfl)
    go_enter Try.func30, Try.ntmps30
    go_wp2_with fail
    refine (areWords_any _ [n, t] _ hL.out).mono ?_
    rw [hA.out, h]
    rintro e w' ⟨rfl, rfl⟩
    clear h
    go_wp2
    go_ret
    exact ⟨ret_int hE.out, hB.out⟩
  · obtain ⟨h1, h2⟩ := and_parts h
    have hD := Lib.hid (fun W => distValid_any r W)
    cases h3 : inB r 0 32767
    · have hE := Lib.hid (show (0 : Int) = rampS n t r by unfold rampS; rw [h3]; simp)
      go_enter Try.func30, Try.ntmps30
      go_wp2_with fail
      refine (areWords_any _ [n, t] _ hL.out).mono ?_
      rw [hA.out, h]
      rintro e w' ⟨rfl, rfl⟩
      clear h h1 h2
      go_wp2_with fail
      refine (hD.out _).mono ?_
      rw [h3]
      rintro e w' ⟨rfl, rfl⟩
      clear h3
      go_wp2
      go_ret
      exact ⟨ret_int hE.out, hB.out⟩
    · have hE := Lib.hid (ramp_eq h1 h2 h3)
      have hT := Lib.hid (fun W => wtowards_any n t r W (inW_bd h1) (inW_bd h2) (inB_bd h3))
      go_enter Try.func30, Try.ntmps30
      go_wp2_with fail
      refine (areWords_any _ [n, t] _ hL.out).mono ?_
      rw [hA.out, h]
      rintro e w' ⟨rfl, rfl⟩
      clear h h1 h2
      go_wp2_with fail
      refine (hD.out _).mono ?_
      rw [h3]
      rintro e w' ⟨rfl, rfl⟩
      clear h3
      go_wp2_with fail
      refine (hT.out _).mono ?_
      rintro e w' ⟨rfl, rfl⟩
      go_wp2
      go_ret
      exact ⟨ret_int hE.out.symm, hB.out⟩
set_option maxHeartbeats 1000000 in
theorem iDeadBand_any (x k : Int) (w : World) (_hx : fitI x) (_hk : fitI k) : Calls Try.prog 34 #[.int .i64 x, .int .i64 k] w (IntP (deadS x k) w) := by
  have hB := Lib.hid (Below.refl w.heap.size w)
  have hI := Lib.hid (fun W => isWord_any x W)
  have hD := Lib.hid (fun W => distValid_any k W)
  cases h1 : inB x (-32768) 32767
  · have hE := Lib.hid (show (0 : Int) = deadS x k by unfold deadS inW; rw [h1]; rfl)
    go_enter Try.func34, Try.ntmps34
    go_wp2_with fail
    refine (hI.out _).mono ?_
    rw [h1]
    rintro e w' ⟨rfl, rfl⟩
    clear h1
    go_wp2
    go_ret
    exact ⟨ret_int hE.out, hB.out⟩
  · cases h2 : inB k 0 32767
    · have hE := Lib.hid (show (0 : Int) = deadS x k by unfold deadS; rw [h2]; simp)
      go_enter Try.func34, Try.ntmps34
      go_wp2_with fail
      refine (hI.out _).mono ?_
      rw [h1]
      rintro e w' ⟨rfl, rfl⟩
      clear h1
      go_wp2_with fail
      refine (hD.out _).mono ?_
      rw [h2]
      rintro e w' ⟨rfl, rfl⟩
      clear h2
      go_wp2
      go_ret
      exact ⟨ret_int hE.out, hB.out⟩
    · have hE := Lib.hid (dead_eq h1 h2)
      have hT := Lib.hid (fun W => wtowards_any x 0 k W (inB_bd h1) (by omega) (inB_bd h2))
      go_enter Try.func34, Try.ntmps34
      go_wp2_with fail
      refine (hI.out _).mono ?_
      rw [h1]
      rintro e w' ⟨rfl, rfl⟩
      clear h1
      go_wp2_with fail
      refine (hD.out _).mono ?_
      rw [h2]
      rintro e w' ⟨rfl, rfl⟩
      clear h2
      go_wp2_with fail
      refine (hT.out _).mono ?_
      rintro e w' ⟨rfl, rfl⟩
      go_wp2
      go_ret
      exact ⟨ret_int hE.out, hB.out⟩
set_option maxHeartbeats 1000000 in
theorem iHysteresis_any (s : Bool) (x lo hi : Int) (w : World) (_hx : fitI x) (_hl : fitI lo) (_hh : fitI hi) : Calls Try.prog 27 #[.bool s, .int .i64 x, .int .i64 lo, .int .i64 hi] w (BoolP (hystS s x lo hi) w) := by
  have hB := Lib.hid (Below.refl w.heap.size w)
  have hS := Lib.hid (fun W => iSetDominant_any s (decide (hi ≤ x)) (decide (x ≤ lo)) W)
  by_cases h1 : hi ≤ lo
  · have hE := Lib.hid (show s = hystS s x lo hi by unfold hystS; rw [if_pos h1])
    go_enter Try.func27, Try.ntmps27
    go_wp2
    go_ret
    exact ⟨ret_bool hE.out, hB.out⟩
  · have hE := Lib.hid (show setD s (decide (hi ≤ x)) (decide (x ≤ lo)) = hystS s x lo hi by unfold hystS; rw [if_neg h1]; unfold setD; rw [show decide (x ≤ lo) = !decide (lo < x) by by_cases q : x ≤ lo <;> simp [q] <;> omega]; cases s <;> simp)
    go_enter Try.func27, Try.ntmps27
    go_wp2_with fail
    refine (hS.out _).mono ?_
    rintro e w' ⟨rfl, rfl⟩
    go_wp2
    go_ret
    exact ⟨ret_bool hE.out, hB.out⟩
set_option maxHeartbeats 2000000 in
theorem iScaleWord_any (r a b lo hi : Int) (w : World) (hr : fitI r) (ha : fitI a) (hb : fitI b) (hlo : fitI lo) (hhi : fitI hi) : Calls Try.prog 24 #[.int .i64 r, .int .i64 a, .int .i64 b, .int .i64 lo, .int .i64 hi] w (IntP (scaleS r a b lo hi) w) := by
  have hL := Lib.hid (lit5 hr ha hb hlo hhi w)
  have hB := Lib.hid (below_lit (.cells #[.int .i64 r, .int .i64 a, .int .i64 b, .int .i64 lo, .int .i64 hi] 3) w)
  have hA := Lib.hid (ok5 r a b lo hi)
  cases h : (inW r && (inW a && (inW b && (inW lo && inW hi))))
  · have hE := Lib.hid (show (0 : Int) = scaleS r a b lo hi by rw [scale_no]; unfold scaleOK; simp at h ⊢; grind)
    go_enter Try.func24, Try.ntmps24
    go_wp2_with fail
    refine (areWords_any _ [r, a, b, lo, hi] _ hL.out).mono ?_
    rw [hA.out, h]
    rintro e w' ⟨rfl, rfl⟩
    clear h
    go_wp2
    go_ret
    exact ⟨ret_int hE.out, hB.out⟩
  · by_cases h5 : a < b
    · obtain ⟨h0, hq⟩ := and_parts h
      obtain ⟨h1, hq⟩ := and_parts hq
      obtain ⟨h2, hq⟩ := and_parts hq
      obtain ⟨h3, h4⟩ := and_parts hq
      clear hq
      have h0b := inW_bd h0; have h1b := inW_bd h1; have h2b := inW_bd h2; have h3b := inW_bd h3; have h4b := inW_bd h4
      have hc := clip_bd r a b (Int.le_of_lt h5)
      have hm := word_mul (x := clipI r a b - a) (y := hi - lo) (by omega) (by omega)
      have hq := div_bd (n := (clipI r a b - a) * (hi - lo)) (d := b - a) (by omega) hm
      have hr := Lib.hid (scale_eq (scale_ok h0 h1 h2 h3 h4 h5))
      have hLm := Lib.hid (fun W => limited_any r a b W)
      rw [lim_clip] at hLm
      clear h0 h1 h2 h3 h4
      have h5' : ¬ b ≤ a := by omega
      go_enter Try.func24, Try.ntmps24
      go_wp2_with fail
      refine (areWords_any _ [r, a, b, lo, hi] _ hL.out).mono ?_
      rw [hA.out, h]
      rintro e w' ⟨rfl, rfl⟩
      clear h
      go_wp2_with fail
      refine (hLm.out _).mono ?_
      rintro e w' ⟨rfl, rfl⟩
      go_wp2_with fail
      refine (quotDown_any _ _ _ (by omega) (by omega)).mono ?_
      rintro e w' ⟨rfl, rfl⟩
      go_wp2
      go_ret
      exact ⟨ret_int hr.out.symm, hB.out⟩
    · have hE := Lib.hid (show (0 : Int) = scaleS r a b lo hi by rw [scale_no]; unfold scaleOK; rw [decide_eq_false h5]; simp)
      have h5' : b ≤ a := by omega
      go_enter Try.func24, Try.ntmps24
      go_wp2_with fail
      refine (areWords_any _ [r, a, b, lo, hi] _ hL.out).mono ?_
      rw [hA.out, h]
      rintro e w' ⟨rfl, rfl⟩
      clear h
      go_wp2
      go_ret
      exact ⟨ret_int hE.out, hB.out⟩
end Go.Proofs.Ytcpjafhhmhaenaa
