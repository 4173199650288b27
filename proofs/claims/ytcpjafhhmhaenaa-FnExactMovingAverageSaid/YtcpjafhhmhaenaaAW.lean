/- Arithmetic with words: plain facts; the specification's functions on numbers. -/
import Derived.Test.YtcpjafhhmhaenaaE
namespace Go.Proofs.Ytcpjafhhmhaenaa
open Go.RowKit
attribute [local go_sem ↓] Go.wp_at_zero Go.wp_at_succ

def inW (n : Int) : Bool := inB n (-32768) 32767
theorem inB_bd {n lo hi : Int} (h : inB n lo hi = true) : lo ≤ n ∧ n ≤ hi := by unfold inB at h; simpa using h
theorem inW_bd {n : Int} (h : inW n = true) : -32768 ≤ n ∧ n ≤ 32767 := inB_bd h
theorem inW_of {n : Int} (h : -32768 ≤ n ∧ n ≤ 32767) : inW n = true := by unfold inW inB; simpa using h
def clipI (n lo hi : Int) : Int := if n < hi then (if lo < n then n else lo) else if lo < hi then hi else lo
def IntIs (a : Int) (w : World) (e : Ending) (w' : World) : Prop := e = .returned (.int .i64 a) ∧ w = w'
def BoolIs (a : Bool) (w : World) (e : Ending) (w' : World) : Prop := e = .returned (.bool a) ∧ w = w'
def IntP (a : Int) (w : World) (e : Ending) (w' : World) : Prop := e = .returned (.int .i64 a) ∧ Below w.heap.size w w'
def BoolP (a : Bool) (w : World) (e : Ending) (w' : World) : Prop := e = .returned (.bool a) ∧ Below w.heap.size w w'
def fitI (n : Int) : Prop := -9223372036854775808 ≤ n ∧ n ≤ 9223372036854775807
theorem int_is {a b : Int} {w : World} (h : b = a) : IntIs a w (.returned (.int .i64 b)) w := ⟨by rw [h], rfl⟩
theorem bool_is {a b : Bool} {w : World} (h : b = a) : BoolIs a w (.returned (.bool b)) w := ⟨by rw [h], rfl⟩
theorem mul_bd {x y : Int} {m n : Nat} (hx : x.natAbs ≤ m) (hy : y.natAbs ≤ n) : (x * y).natAbs ≤ m * n := by
  rw [Int.natAbs_mul]; exact Nat.mul_le_mul hx hy
theorem word_mul {x y : Int} (hx : -65535 ≤ x ∧ x ≤ 65535) (hy : -65535 ≤ y ∧ y ≤ 65535) : -4294836225 ≤ x * y ∧ x * y ≤ 4294836225 := by
  have := mul_bd (x := x) (y := y) (m := 65535) (n := 65535) (by omega) (by omega)
  omega
theorem floor_eq (n d : Int) (hd : 0 < d) : (if n.tmod d < 0 then n.tdiv d - 1 else n.tdiv d) = n / d := by
  have h1 := Int.mul_tdiv_add_tmod n d
  have h6 : -d < n.tmod d := by
    have := Int.tmod_lt_of_pos (-n) hd
    rw [Int.neg_tmod] at this; omega
  have h7 : n.tmod d < d := Int.tmod_lt_of_pos n hd
  have e : d * n.tdiv d = n.tdiv d * d := Int.mul_comm _ _
  symm
  split
  · rw [Int.ediv_eq_iff_of_pos hd]
    have e2 : (n.tdiv d - 1) * d = n.tdiv d * d - d := by rw [Int.sub_mul, Int.one_mul]
    have e3 : (n.tdiv d - 1 + 1) * d = n.tdiv d * d := by rw [Int.sub_add_cancel]
    omega
  · rw [Int.ediv_eq_iff_of_pos hd]
    have e3 : (n.tdiv d + 1) * d = n.tdiv d * d + d := by rw [Int.add_mul, Int.one_mul]
    omega
theorem tdiv_bd {n d : Int} (_hd : 0 < d) (hn : -4611686018427387904 ≤ n ∧ n ≤ 4611686018427387904) : -4611686018427387904 ≤ n.tdiv d ∧ n.tdiv d ≤ 4611686018427387904 := by
  have h : (n.tdiv d).natAbs = n.natAbs / d.natAbs := Int.natAbs_tdiv n d
  have h2 : n.natAbs / d.natAbs ≤ n.natAbs := Nat.div_le_self _ _
  omega
theorem wrap64_id {p : Int} (h : -9223372036854775808 ≤ p ∧ p ≤ 9223372036854775807) : wrap64 p = p := by unfold wrap64; omega
def addS (a b : Int) : Int := if inW a && inW b then clipI (a + b) (-32768) 32767 else 0
def scaleOK (r a b lo hi : Int) : Bool := inW r && (inW a && (inW b && (inW lo && (inW hi && decide (a < b)))))
def scaleS (r a b lo hi : Int) : Int := if scaleOK r a b lo hi then lo + ((clipI r a b - a) * (hi - lo)) / (b - a) else 0
def hystS (s : Bool) (x lo hi : Int) : Bool := if hi ≤ lo then s else decide (hi ≤ x) || (s && decide (lo < x))
def rampS (n t r : Int) : Int := if inW n && (inW t && inB r 0 32767) then clipI t (n - r) (n + r) else 0
def absI (x : Int) : Int := if x < -x then -x else x
def deadS (x k : Int) : Int := if inW x && (inB k 0 32767 && decide (k < absI x)) then (if 0 < x then x - k else x + k) else 0
theorem clip_bd (n lo hi : Int) (h : lo ≤ hi) : lo ≤ clipI n lo hi ∧ clipI n lo hi ≤ hi := by
  unfold clipI; split
  · split <;> omega
  · split <;> omega
theorem addS_comm (a b : Int) : addS a b = addS b a := by
  unfold addS; rw [Int.add_comm a b, Bool.and_comm]
theorem addS_word (a b : Int) : inW (addS a b) = true := by
  apply inW_of; unfold addS; split
  · exact clip_bd _ _ _ (by omega)
  · omega
theorem addS_left {a b : Int} (h : inW a = false) : addS a b = 0 := by unfold addS; rw [h]; rfl
theorem addS_right {a b : Int} (h : inW b = false) : addS a b = 0 := by unfold addS; rw [h, Bool.and_false]; rfl
theorem addS_zero {a : Int} (h : inW a = true) : addS a 0 = a := by
  have := inW_bd h
  unfold addS; rw [h, show inW 0 = true from rfl, Int.add_zero]; unfold clipI; simp; omega
theorem addS_cases {a b : Int} (ha : inW a = true) (hb : inW b = true) : (a + b < -32768 ∧ addS a b = -32768) ∨ (32767 < a + b ∧ addS a b = 32767) ∨ ((-32768 ≤ a + b ∧ a + b ≤ 32767) ∧ addS a b = a + b) := by
  unfold addS; rw [ha, hb]; unfold clipI; simp; omega
theorem scale_no {r a b lo hi : Int} (h : scaleOK r a b lo hi = false) : scaleS r a b lo hi = 0 := by unfold scaleS; rw [h]; rfl
theorem scale_eq {r a b lo hi : Int} (h : scaleOK r a b lo hi = true) : scaleS r a b lo hi = lo + ((clipI r a b - a) * (hi - lo)) / (b - a) := by unfold scaleS; rw [h]; rfl
theorem scale_parts {r a b lo hi : Int} (h : scaleOK r a b lo hi = true) : inW r = true ∧ inW a = true ∧ inW b = true ∧ inW lo = true ∧ inW hi = true ∧ a < b := by
  unfold scaleOK at h; simp at h; exact h
theorem scale_ok {r a b lo hi : Int} (h0 : inW r = true) (h1 : inW a = true) (h2 : inW b = true) (h3 : inW lo = true) (h4 : inW hi = true) (h5 : a < b) : scaleOK r a b lo hi = true := by
  unfold scaleOK; simp [*]
theorem scale_a {r a b lo hi : Int} (h : scaleOK r a b lo hi = true) : scaleS a a b lo hi = lo := by
  obtain ⟨h0, h1, h2, h3, h4, h5⟩ := scale_parts h
  rw [scale_eq (scale_ok h1 h1 h2 h3 h4 h5)]
  have e : clipI a a b = a := by unfold clipI; split <;> (try split) <;> omega
  rw [e]; simp
theorem scale_b {r a b lo hi : Int} (h : scaleOK r a b lo hi = true) : scaleS b a b lo hi = hi := by
  obtain ⟨h0, h1, h2, h3, h4, h5⟩ := scale_parts h
  rw [scale_eq (scale_ok h2 h1 h2 h3 h4 h5)]
  have e : clipI b a b = b := by unfold clipI; split <;> (try split) <;> omega
  rw [e, Int.mul_ediv_cancel_left _ (by omega)]; omega
theorem scale_up {r a b lo hi : Int} (h : scaleOK r a b lo hi = true) (hl : lo ≤ hi) : lo ≤ scaleS r a b lo hi ∧ scaleS r a b lo hi ≤ hi := by
  obtain ⟨h0, h1, h2, h3, h4, h5⟩ := scale_parts h
  rw [scale_eq h]
  obtain ⟨c1, c2⟩ := clip_bd r a b (by omega)
  have p0 : 0 ≤ (clipI r a b - a) * (hi - lo) := Int.mul_nonneg (by omega) (by omega)
  have p1 : (clipI r a b - a) * (hi - lo) ≤ (b - a) * (hi - lo) := Int.mul_le_mul_of_nonneg_right (by omega) (by omega)
  have q0 := Int.ediv_le_ediv (show 0 < b - a by omega) p0
  have q1 := Int.ediv_le_ediv (show 0 < b - a by omega) p1
  rw [Int.mul_ediv_cancel_left _ (by omega)] at q1
  rw [Int.zero_ediv] at q0
  omega
theorem scale_down {r a b lo hi : Int} (h : scaleOK r a b lo hi = true) (hl : hi ≤ lo) : hi ≤ scaleS r a b lo hi ∧ scaleS r a b lo hi ≤ lo := by
  obtain ⟨h0, h1, h2, h3, h4, h5⟩ := scale_parts h
  rw [scale_eq h]
  obtain ⟨c1, c2⟩ := clip_bd r a b (by omega)
  have p0 : (clipI r a b - a) * (hi - lo) ≤ 0 := Int.mul_nonpos_of_nonneg_of_nonpos (by omega) (by omega)
  have p1 : (b - a) * (hi - lo) ≤ (clipI r a b - a) * (hi - lo) := Int.mul_le_mul_of_nonpos_right (by omega) (by omega)
  have q0 := Int.ediv_le_ediv (show 0 < b - a by omega) p0
  have q1 := Int.ediv_le_ediv (show 0 < b - a by omega) p1
  rw [Int.mul_ediv_cancel_left _ (by omega)] at q1
  rw [Int.zero_ediv] at q0
  omega
theorem clip_mono {n m lo hi : Int} (hm : n ≤ m) : clipI n lo hi ≤ clipI m lo hi := by
  unfold clipI; repeat' split
  all_goals omega
theorem scale_mono_up {r s a b lo hi : Int} (h : scaleOK r a b lo hi = true) (h' : scaleOK s a b lo hi = true) (hs : r ≤ s) (hl : lo ≤ hi) : scaleS r a b lo hi ≤ scaleS s a b lo hi := by
  obtain ⟨h0, h1, h2, h3, h4, h5⟩ := scale_parts h
  rw [scale_eq h, scale_eq h']
  have c := clip_mono (lo := a) (hi := b) hs
  have p1 : (clipI r a b - a) * (hi - lo) ≤ (clipI s a b - a) * (hi - lo) := Int.mul_le_mul_of_nonneg_right (by omega) (by omega)
  have q1 := Int.ediv_le_ediv (show 0 < b - a by omega) p1
  omega
theorem scale_mono_down {r s a b lo hi : Int} (h : scaleOK r a b lo hi = true) (h' : scaleOK s a b lo hi = true) (hs : r ≤ s) (hl : hi ≤ lo) : scaleS s a b lo hi ≤ scaleS r a b lo hi := by
  obtain ⟨h0, h1, h2, h3, h4, h5⟩ := scale_parts h
  rw [scale_eq h, scale_eq h']
  have c := clip_mono (lo := a) (hi := b) hs
  have p1 : (clipI s a b - a) * (hi - lo) ≤ (clipI r a b - a) * (hi - lo) := Int.mul_le_mul_of_nonpos_right (by omega) (by omega)
  have q1 := Int.ediv_le_ediv (show 0 < b - a by omega) p1
  omega
theorem scale_word {r a b lo hi : Int} : inW (scaleS r a b lo hi) = true := by
  cases h : scaleOK r a b lo hi
  · rw [scale_no h]; rfl
  · obtain ⟨h0, h1, h2, h3, h4, h5⟩ := scale_parts h
    have := inW_bd h3; have := inW_bd h4
    apply inW_of
    by_cases hl : lo ≤ hi
    · have := scale_up h hl; omega
    · have := scale_down h (by omega); omega
-- medians
def medOK (l : List Int) : Bool := decide (l.length % 2 = 1) && (decide (l.length ≤ 15) && l.all inW)
def IsMed (l : List Int) (v : Int) : Prop := v ∈ l ∧ l.countP (fun x => decide (x < v)) ≤ l.length / 2 ∧ l.length / 2 < l.countP (fun x => decide (x ≤ v))
def MedOf (l : List Int) (n : Int) : Prop := if medOK l = true then IsMed l n else n = 0
theorem med_unique {l : List Int} {u v : Int} (hu : IsMed l u) (hv : IsMed l v) : u = v := by
  have key : ∀ {a b : Int}, IsMed l a → IsMed l b → ¬ a < b := by
    intro a b ha hb hab
    have h1 : l.countP (fun x => decide (x ≤ a)) ≤ l.countP (fun x => decide (x < b)) := List.countP_mono_left fun x _ hx => by simp at hx ⊢; omega
    have := ha.2.2; have := hb.2.1; omega
  have h1 := key hu hv; have h2 := key hv hu; omega
theorem medOf_unique {l : List Int} {u v : Int} (hu : MedOf l u) (hv : MedOf l v) : u = v := by
  unfold MedOf at hu hv; split at hu
  · rename_i h; rw [if_pos h] at hv; exact med_unique hu hv
  · rename_i h; rw [if_neg h] at hv; rw [hu, hv]
theorem isMed_perm {l m : List Int} (h : l.Perm m) {v : Int} (hv : IsMed l v) : IsMed m v := by
  obtain ⟨h1, h2, h3⟩ := hv
  refine ⟨h.mem_iff.1 h1, ?_, ?_⟩
  · rw [← h.countP_eq, ← h.length_eq]; exact h2
  · rw [← h.countP_eq, ← h.length_eq]; exact h3
theorem isMed_sorted {s : List Int} (hs : s.Pairwise (· ≤ ·)) (k : Nat) (hk : k = s.length / 2) (hl : k < s.length) : IsMed s s[k] := by
  have hle : ∀ i (hi : i < s.length) j (hj : j < s.length), i ≤ j → s[i] ≤ s[j] := by
    intro i hi j hj hij
    rcases Nat.lt_or_ge i j with h | h
    · exact List.pairwise_iff_getElem.1 hs i j hi hj h
    · have : i = j := by omega
      subst this; omega
  refine ⟨List.getElem_mem hl, ?_, ?_⟩
  · have e : s.countP (fun x => decide (x < s[k])) = (s.take k).countP (fun x => decide (x < s[k])) + (s.drop k).countP (fun x => decide (x < s[k])) := by
      rw [← List.countP_append, List.take_append_drop]
    have z : (s.drop k).countP (fun x => decide (x < s[k])) = 0 := by
      rw [List.countP_eq_zero]
      intro x hx
      obtain ⟨i, hi, rfl⟩ := List.getElem_of_mem hx
      rw [List.getElem_drop]
      have := hle k hl (k + i) (by simp at hi; omega) (by omega)
      simp; omega
    have t := List.countP_le_length (p := fun x => decide (x < s[k])) (l := s.take k)
    rw [List.length_take] at t
    omega
  · have e : s.countP (fun x => decide (x ≤ s[k])) = (s.take (k + 1)).countP (fun x => decide (x ≤ s[k])) + (s.drop (k + 1)).countP (fun x => decide (x ≤ s[k])) := by
      rw [← List.countP_append, List.take_append_drop]
    have z : (s.take (k + 1)).countP (fun x => decide (x ≤ s[k])) = (s.take (k + 1)).length := by
      rw [List.countP_eq_length]
      intro x hx
      obtain ⟨i, hi, rfl⟩ := List.getElem_of_mem hx
      rw [List.getElem_take]
      simp at hi
      have := hle i (by omega) k hl (by omega)
      simpa using this
    rw [List.length_take] at z
    omega
theorem med_exists {l : List Int} (h : medOK l = true) : ∃ v, IsMed l v := by
  unfold medOK at h; simp at h
  let s := l.mergeSort (fun a b => decide (a ≤ b))
  have hp : s.Perm l := List.mergeSort_perm l _
  have hs : s.Pairwise (fun a b => a ≤ b) := by
    have := List.pairwise_mergeSort (le := fun (a b : Int) => decide (a ≤ b)) (by intro a b c; simp; omega) (by intro a b; simp; omega) l
    simpa using this
  have hl : s.length / 2 < s.length := by rw [hp.length_eq]; omega
  exact ⟨_, isMed_perm hp (isMed_sorted hs _ rfl hl)⟩
theorem medOK_reverse (l : List Int) : medOK l.reverse = medOK l := by unfold medOK; simp
theorem medOf_reverse {l : List Int} {n : Int} (h : MedOf l n) : MedOf l.reverse n := by
  unfold MedOf at h ⊢; rw [medOK_reverse]
  split
  · rename_i hk; rw [if_pos hk] at h; exact isMed_perm (List.reverse_perm l).symm h
  · rename_i hk; rw [if_neg hk] at h; exact h
theorem med_more {l : List Int} {v : Int} (h : IsMed l v) : l.countP (fun x => decide (v < x)) ≤ l.length / 2 ∨ l.length % 2 = 0 := by
  have e : l.length = l.countP (fun x => decide (x ≤ v)) + l.countP (fun x => decide (v < x)) := by
    rw [List.length_eq_countP_add_countP (fun x => decide (x ≤ v))]
    congr 1
    apply List.countP_congr
    intro x _; simp
  have := h.2.2
  omega
-- moving averages
def winSum (l : List Int) (k : Nat) : Nat → Int
  | 0 => 0
  | m + 1 => winSum l k m + l.getD (k - m) 0
def avgAt (l : List Int) (win k : Nat) : Int := winSum l k (min win (k + 1)) / (min win (k + 1) : Nat)
def avgOK (l : List Int) (win : Int) : Bool := decide (l.length ≤ 200) && (inB win 1 50 && l.all inW)
def avgL (l : List Int) (win : Int) : List Int := if avgOK l win then (List.range l.length).map (avgAt l win.toNat) else []
theorem winSum_bd {l : List Int} {k : Nat} {lo hi : Int} (m : Nat) (h : ∀ j, j < m → lo ≤ l.getD (k - j) 0 ∧ l.getD (k - j) 0 ≤ hi) : m * lo ≤ winSum l k m ∧ winSum l k m ≤ m * hi := by
  induction m with
  | zero => simp [winSum]
  | succ m ih =>
    have h1 := ih fun j hj => h j (by omega)
    have h2 := h m (by omega)
    have e1 : ((m + 1 : Nat) : Int) * lo = m * lo + lo := by rw [Int.natCast_add, Int.add_mul]; omega
    have e2 : ((m + 1 : Nat) : Int) * hi = m * hi + hi := by rw [Int.natCast_add, Int.add_mul]; omega
    rw [e1, e2]
    unfold winSum
    omega
theorem avg_bd {l : List Int} {win k : Nat} {lo hi : Int} (hw : 0 < win) (h : ∀ j, j < min win (k + 1) → lo ≤ l.getD (k - j) 0 ∧ l.getD (k - j) 0 ≤ hi) : lo ≤ avgAt l win k ∧ avgAt l win k ≤ hi := by
  obtain ⟨h1, h2⟩ := winSum_bd (min win (k + 1)) h
  have hp : (0 : Int) < (min win (k + 1) : Nat) := by omega
  unfold avgAt
  have q0 := Int.ediv_le_ediv hp h1
  have q1 := Int.ediv_le_ediv hp h2
  rw [Int.mul_ediv_cancel_left _ (by omega)] at q0 q1
  exact ⟨q0, q1⟩
theorem avg_one (l : List Int) (k : Nat) : avgAt l 1 k = l.getD k 0 := by
  unfold avgAt
  rw [show min 1 (k + 1) = 1 by omega]
  simp [winSum]
theorem l7Word_any (n : Int) (w : World) : Calls Try.prog 52 #[.int .i64 n] w (BoolIs (inW n) w) := by
  go_enter Try.func52, Try.ntmps52
  go_wp2_with fail
  refine (l1In_any _ _ _ _).mono ?_
  rintro e w1 ⟨rfl, rfl⟩
  go_wp2
  go_ret
  exact ⟨rfl, rfl⟩
set_option maxHeartbeats 400000 in
theorem l1ClipG_any (n lo hi : Int) (w : World) : Calls Try.prog 53 #[.int .i64 n, .int .i64 lo, .int .i64 hi] w (IntIs (clipI n lo hi) w) := by
  unfold clipI
  by_cases h1 : n < hi
  · by_cases h2 : lo < n
    all_goals
      go_enter Try.func53, Try.ntmps53
      go_wp2
      go_ret
      exact int_is (by simp)
  · by_cases h2 : lo < hi
    all_goals
      go_enter Try.func53, Try.ntmps53
      go_wp2
      go_ret
      exact int_is (by simp)
theorem l7Floor_any (n d : Int) (w : World) (hd : 0 < d ∧ d ≤ 4611686018427387904) (hn : -4611686018427387904 ≤ n ∧ n ≤ 4611686018427387904) :
    Calls Try.prog 58 #[.int .i64 n, .int .i64 d] w (IntIs (n / d) w) := by
  have hz := tdiv_bd hd.1 hn
  rw [← floor_eq n d hd.1]
  have hd0 : ¬ d = 0 := by omega
  have hd1 : (d == 0) = false := by simpa using hd0
  by_cases h : n.tmod d < 0
  all_goals
    go_enter Try.func58, Try.ntmps58
    go_wp2
    go_ret
    exact int_is (by simp)
set_option maxHeartbeats 4000000 in
theorem sAddSaturated_any (a b : Int) (w : World) : Calls Try.prog 20 #[.int .i64 a, .int .i64 b] w (IntIs (addS a b) w) := by
  go_enter Try.func20, Try.ntmps20
  go_wp2_with fail
  refine (l7Word_any a _).mono ?_
  rintro e w0 ⟨rfl, rfl⟩
  cases h1 : inW a
  · go_wp2
    go_ret
    exact int_is (by simp [addS, h1])
  · have h1b := inW_bd h1
    go_wp2_with fail
    refine (l7Word_any b _).mono ?_
    rintro e w1 ⟨rfl, rfl⟩
    cases h2 : inW b
    · go_wp2
      go_ret
      exact int_is (by simp [addS, h1, h2])
    · have h2b := inW_bd h2
      go_wp2_with fail
      refine (l1ClipG_any (a + b) (-32768) 32767 _).mono ?_
      rintro e w3 ⟨rfl, rfl⟩
      go_wp2
      go_ret
      exact int_is (by simp [addS, h1, h2])
set_option maxHeartbeats 1000000 in
theorem sHysteresis_any (s : Bool) (x lo hi : Int) (w : World) : Calls Try.prog 28 #[.bool s, .int .i64 x, .int .i64 lo, .int .i64 hi] w (BoolIs (hystS s x lo hi) w) := by
  unfold hystS
  by_cases h1 : hi ≤ lo
  · go_enter Try.func28, Try.ntmps28
    go_wp2
    go_ret
    exact ⟨rfl, rfl⟩
  · by_cases h2 : hi ≤ x
    · go_enter Try.func28, Try.ntmps28
      go_wp2
      go_ret
      first
      | exact ⟨rfl, rfl⟩
      | exact bool_is (by simp [h1])
    · cases s
      all_goals
        go_enter Try.func28, Try.ntmps28
        go_wp2
        go_ret
        first
        | exact ⟨rfl, rfl⟩
        | exact bool_is (by rw [decide_eq_false (show ¬ hi ≤ lo by omega), decide_eq_false (show ¬ hi ≤ x by omega)]; simp)
set_option maxHeartbeats 4000000 in
theorem sRampStep_any (n t r : Int) (w : World) : Calls Try.prog 31 #[.int .i64 n, .int .i64 t, .int .i64 r] w (IntIs (rampS n t r) w) := by
  go_enter Try.func31, Try.ntmps31
  go_wp2_with fail
  refine (l7Word_any n _).mono ?_
  rintro e w0 ⟨rfl, rfl⟩
  cases h1 : inW n
  · go_wp2
    go_ret
    exact int_is (by simp [rampS, h1])
  · have h1b := inW_bd h1
    go_wp2_with fail
    refine (l7Word_any t _).mono ?_
    rintro e w1 ⟨rfl, rfl⟩
    cases h2 : inW t
    · go_wp2
      go_ret
      exact int_is (by simp [rampS, h1, h2])
    · have h2b := inW_bd h2
      go_wp2_with fail
      refine (l1In_any r 0 32767 _).mono ?_
      rintro e w2 ⟨rfl, rfl⟩
      cases h3 : inB r 0 32767
      · go_wp2
        go_ret
        exact int_is (by simp [rampS, h1, h2, h3])
      · have h3b := inB_bd h3
        go_wp2_with fail
        refine (l1ClipG_any t (n - r) (n + r) _).mono ?_
        rintro e w3 ⟨rfl, rfl⟩
        go_wp2
        go_ret
        exact int_is (by simp [rampS, h1, h2, h3])
theorem deadS_val {x k : Int} (h1 : inW x = true) (h2 : inB k 0 32767 = true) : deadS x k = if x < 0 then (if k < -x then x + k else 0) else if k < x then x - k else 0 := by
  have := inB_bd h2
  unfold deadS absI; rw [h1, h2]
  simp only [Bool.true_and, decide_eq_true_eq]
  repeat' split
  all_goals omega
set_option maxHeartbeats 4000000 in
theorem sDeadBand_any (x k : Int) (w : World) : Calls Try.prog 35 #[.int .i64 x, .int .i64 k] w (IntIs (deadS x k) w) := by
  go_enter Try.func35, Try.ntmps35
  go_wp2_with fail
  refine (l7Word_any x _).mono ?_
  rintro e w0 ⟨rfl, rfl⟩
  cases h1 : inW x
  · go_wp2
    go_ret
    exact int_is (by simp [deadS, h1])
  · have h1b := inW_bd h1
    go_wp2_with fail
    refine (l1In_any k 0 32767 _).mono ?_
    rintro e w1 ⟨rfl, rfl⟩
    cases h2 : inB k 0 32767
    · go_wp2
      go_ret
      exact int_is (by simp [deadS, h1, h2])
    · have h2b := inB_bd h2
      have hv := Lib.hid (deadS_val h1 h2)
      rcases (show x < 0 ∨ x = 0 ∨ 0 < x by omega) with hx | hx | hx
      · have g1 : x < -x := by omega
        have g2 : ¬ 0 < x := by omega
        by_cases h4 : k < -x
        · go_wp2
          go_ret
          exact int_is (by rw [hv.out, if_pos hx, if_pos h4])
        · go_wp2
          go_ret
          exact int_is (by rw [hv.out, if_pos hx, if_neg (by omega)])
      · subst hx
        go_wp2
        go_ret
        exact int_is (by rw [hv.out, if_neg (by omega), if_neg (by omega)])
      · have g1 : ¬ x < -x := by omega
        by_cases h4 : k < x
        · go_wp2
          go_ret
          exact int_is (by rw [hv.out, if_neg (by omega), if_pos h4])
        · go_wp2
          go_ret
          exact int_is (by rw [hv.out, if_neg (by omega), if_neg (by omega)])
theorem div_bd {n d : Int} (hd : 0 < d) (hn : -4294836225 ≤ n ∧ n ≤ 4294836225) : -4294836225 ≤ n / d ∧ n / d ≤ 4294836225 := by
  have h1 : n / d ≤ 4294836225 / d := Int.ediv_le_ediv hd hn.2
  have h2 : (-4294836225) / d ≤ n / d := Int.ediv_le_ediv hd hn.1
  have h3 : (4294836225 : Int) / d ≤ 4294836225 := Int.ediv_le_self _ (by omega)
  have h4 : (-4294836225 : Int) ≤ (-4294836225) / d := by
    rw [Int.le_ediv_iff_mul_le hd]
    have : (4294836225 : Int) * 1 ≤ 4294836225 * d := Int.mul_le_mul_of_nonneg_left (by omega) (by omega)
    omega
  omega
set_option maxHeartbeats 4000000 in
theorem sScaleWord_any (r a b lo hi : Int) (w : World) : Calls Try.prog 25 #[.int .i64 r, .int .i64 a, .int .i64 b, .int .i64 lo, .int .i64 hi] w (IntIs (scaleS r a b lo hi) w) := by
  go_enter Try.func25, Try.ntmps25
  go_wp2_with fail
  refine (l7Word_any r _).mono ?_
  rintro e w0 ⟨rfl, rfl⟩
  cases h0 : inW r
  · go_wp2
    go_ret
    exact int_is (by simp [scaleS, scaleOK, h0])
  · have h0b := inW_bd h0
    go_wp2_with fail
    refine (l7Word_any a _).mono ?_
    rintro e w1 ⟨rfl, rfl⟩
    cases h1 : inW a
    · go_wp2
      go_ret
      exact int_is (by simp [scaleS, scaleOK, h0, h1])
    · have h1b := inW_bd h1
      go_wp2_with fail
      refine (l7Word_any b _).mono ?_
      rintro e w2 ⟨rfl, rfl⟩
      cases h2 : inW b
      · go_wp2
        go_ret
        exact int_is (by simp [scaleS, scaleOK, h0, h1, h2])
      · have h2b := inW_bd h2
        go_wp2_with fail
        refine (l7Word_any lo _).mono ?_
        rintro e w3 ⟨rfl, rfl⟩
        cases h3 : inW lo
        · go_wp2
          go_ret
          exact int_is (by simp [scaleS, scaleOK, h0, h1, h2, h3])
        · have h3b := inW_bd h3
          go_wp2_with fail
          refine (l7Word_any hi _).mono ?_
          rintro e w4 ⟨rfl, rfl⟩
          cases h4 : inW hi
          · go_wp2
            go_ret
            exact int_is (by simp [scaleS, scaleOK, h0, h1, h2, h3, h4])
          · have h4b := inW_bd h4
            by_cases h5 : a < b
            · have hc := clip_bd r a b (Int.le_of_lt h5)
              have hm := word_mul (x := clipI r a b - a) (y := hi - lo) (by omega) (by omega)
              have hq := div_bd (n := (clipI r a b - a) * (hi - lo)) (d := b - a) (by omega) hm
              have hr := Lib.hid (scale_eq (scale_ok h0 h1 h2 h3 h4 h5))
              go_wp2_with fail
              refine (l1ClipG_any r a b _).mono ?_
              rintro e w6 ⟨rfl, rfl⟩
              go_wp2_with fail
              refine (l7Floor_any _ _ _ (by omega) (by omega)).mono ?_
              rintro e w7 ⟨rfl, rfl⟩
              go_wp2
              go_ret
              exact int_is hr.out.symm
            · have hr := Lib.hid (scale_no (show scaleOK r a b lo hi = false by unfold scaleOK; rw [decide_eq_false h5]; simp))
              go_wp2
              go_ret
              exact int_is hr.out.symm
end Go.Proofs.Ytcpjafhhmhaenaa
