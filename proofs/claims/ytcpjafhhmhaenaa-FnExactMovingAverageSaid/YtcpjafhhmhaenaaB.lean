/- Contracts of chapter 1's bit sets and word lists. -/
import Derived.Test.YtcpjafhhmhaenaaA
import Derived.Test.YtcpjafhhmhaenaaBits
import Derived.Test.YtcpjafhhmhaenaaLaws
namespace Go.Proofs.Ytcpjafhhmhaenaa
open Go.RowKit

/-- Rows of the call's own: bools, ints. -/
def OwnB (w : World) (base : Nat) (v : Value) (l : List Bool) : Prop := w.ownsRow base 4 1 v l.length (l.map .bool)
def OwnI (w : World) (base : Nat) (v : Value) (l : List Int) : Prop := w.ownsRow base 3 1 v l.length (l.map (.int .i64))
theorem elB : Elem Try.prog 60 4 (.bool false) 1 1 := ⟨Try.underlying60, by kernel_rfl, rfl, by decide⟩
theorem elI : Elem Try.prog 39 3 (.int .i64 0) 1 8 := ⟨Try.underlying39, by kernel_rfl, rfl, by decide⟩
theorem elW : Elem Try.prog 78 3 (.int .i64 0) 1 8 := ⟨Try.underlying78, by kernel_rfl, rfl, by decide⟩
theorem OwnB.read {w : World} {b : Nat} {v : Value} {l : List Bool} (h : OwnB w b v l) (hl : l.length ≤ 140737488355328) : BoolsR w w.heap.size v l := by
  obtain ⟨A, c, rfl, _, hr⟩ := own_form h; exact ⟨A, c, rfl, hr, hl⟩
theorem OwnI.read {w : World} {b : Nat} {v : Value} {l : List Int} (h : OwnI w b v l) (hl : l.length ≤ 17592186044416) (hb : ∀ x ∈ l, -9223372036854775808 ≤ x ∧ x ≤ 9223372036854775807) : IntsR w w.heap.size v l := by
  obtain ⟨A, c, rfl, _, hr⟩ := own_form h; exact ⟨A, c, rfl, hr, hl, hb⟩
theorem one_i (l : List Int) : ∀ u ∈ l.map (Value.int .i64), u.oneCell' = true := by intro u hu; obtain ⟨_, _, rfl⟩ := List.mem_map.1 hu; rfl
theorem one_b (l : List Bool) : ∀ u ∈ l.map Value.bool, u.oneCell' = true := by intro u hu; obtain ⟨_, _, rfl⟩ := List.mem_map.1 hu; rfl

def hasN (s : Nat) (n : Int) : Bool := decide (n.toNat < 16) && s.testBit n.toNat
theorem has_in (s : Nat) (n : Int) (w : World) (hs : s < 65536) (h1 : 0 ≤ n) (h2 : n < 16) :
    Calls Try.prog 78 #[.int .u16 s, .int .i64 n] w fun e w' => e = .returned (.bool (hasN s n)) ∧ w = w' := by
  go_enter Try.func78, Try.ntmps78
  go_wp2
  go_ret
  exact ⟨ret_bool ((and_bit16 s n.toNat hs (by omega)).trans (by unfold hasN; rw [decide_eq_true (show n.toNat < 16 by omega), Bool.true_and])), rfl⟩
theorem has_out (s : Nat) (n : Int) (w : World) (h2 : 16 ≤ n) :
    Calls Try.prog 78 #[.int .u16 s, .int .i64 n] w fun e w' => e = .returned (.bool (hasN s n)) ∧ w = w' := by
  go_enter Try.func78, Try.ntmps78
  go_wp2
  go_ret
  exact ⟨ret_bool (by unfold hasN; rw [decide_eq_false (show ¬ n.toNat < 16 by omega), Bool.false_and]), rfl⟩
/-- has, at a number that is not negative. -/
theorem has_any (s : Nat) (n : Int) (w : World) (hs : s < 65536) (h1 : 0 ≤ n) :
    Calls Try.prog 78 #[.int .u16 s, .int .i64 n] w fun e w' => e = .returned (.bool (hasN s n)) ∧ w = w' := by
  by_cases h : n < 16
  · exact has_in s n w hs h1 h
  · exact has_out s n w (by omega)
theorem u16_ret {a b : Int} (h : a = b) : Ending.returned (.int .u16 a) = .returned (.int .u16 b) := by rw [h]
def withN (s : Nat) (n : Int) (b : Bool) : Nat := if 0 ≤ n ∧ n < 16 then bset s n.toNat b else s
theorem withN_lt (s : Nat) (n : Int) (b : Bool) (hs : s < 65536) : withN s n b < 65536 := by
  unfold withN; split
  · exact bset_lt _ _ _ hs (by omega)
  · exact hs
theorem setTo_with (l : List Bool) (k : Nat) (h : k < l.length) : withN (setTo l k) k l[k] = setTo l (k + 1) := by
  rw [setTo_succ]; unfold withN
  by_cases h16 : k < 16
  · rw [if_pos (by omega), if_pos h16]; simp [h]
  · rw [if_neg (by omega), if_neg h16]
theorem map_set_step (n k : Nat) (f : Nat → Bool) (_h : k < n) :
    (((List.range n).map fun j => decide (j < k) && f j).map Value.bool).set k (.bool (f k)) = ((List.range n).map fun j => decide (j < k + 1) && f j).map Value.bool := by
  apply List.ext_getElem
  · simp
  · intro i h1 h2
    rw [List.getElem_set]
    simp only [List.getElem_map, List.getElem_range]
    by_cases e : k = i
    · subst e; simp
    · rw [if_neg e, decide_eq_decide.2 (show i < k ↔ i < k + 1 by omega)]
theorem madeB (n : Nat) (f : Nat → Bool) : (madeCells #[Value.bool false] n).toList = ((List.range n).map fun j => decide (j < 0) && f j).map Value.bool := by
  refine (toList_madeCells_one _ _).trans ?_
  apply List.ext_getElem
  · simp
  · intro i h1 h2; simp
set_option maxHeartbeats 400000 in
theorem bools_any (s : Nat) (n : Nat) (w : World) (hs : s < 65536) (hn : n ≤ 1000) :
    Calls Try.prog 71 #[.int .u16 s, .int .i64 n] w fun e w' => ∃ v, e = .returned v ∧ OwnB w' w.heap.size v (boolsOf s n) ∧ Below w.heap.size w w' := by
  go_enter Try.func71, Try.ntmps71
  go_wp2_with (at_make; refine wpl_make rfl _ _ 60 rfl elB n rfl rfl ?c1 ?c2 ?_)
  case c1 => omega
  case c2 => omega
  intro w1 hown hb1
  rw [madeB n (fun j => decide (j < 16) && s.testBit j)] at hown
  have hsz := hb1.size
  go_wp2
  go_loopw [11] (fun i wr => ∃ k : Nat, k ≤ n ∧ i = .int .i64 k ∧ wr.ownsRow w.heap.size 4 1 (.slice (some ⟨w.heap.size, 0, none⟩) n n) n (((List.range n).map fun j => decide (j < k) && (decide (j < 16) && s.testBit j)).map Value.bool) ∧ Below w.heap.size w wr) (fun i _ => n - (intOf i).toNat)
  case atStart => exact ⟨0, by omega, rfl, hown, hb1⟩
  case round =>
    obtain ⟨k, hk, rfl, hown', hbr⟩ := hrel
    by_cases hlt : k < n
    · have hc := hown'.cellAt k (by omega)
      have hz := hown'.frozenAt k
      have hst := hown'.stored k (.bool (decide (k < 16) && s.testBit k))
      rw [map_set_step n k (fun j => decide (j < 16) && s.testBit j) hlt] at hst
      obtain ⟨u, hu⟩ : ∃ u, (((List.range n).map fun j => decide (j < k) && (decide (j < 16) && s.testBit j)).map Value.bool)[k]? = some u := ⟨_, List.getElem?_eq_getElem (by simp; omega)⟩
      rw [hu] at hc
      have H := Lib.hid hst
      clear hst hu hown' hown
      go_wp2_with (go_at_call 78; refine (has_any s _ _ hs (by omega)).mono ?_; rintro e w' ⟨rfl, rfl⟩)
      go_roundw
      case rel => exact ⟨k + 1, by omega, by go_num, H.out.1, hbr.setCell (by simp) _⟩
      case measure => simp [intOf]; omega
    · go_wp2
      go_ret
      obtain rfl : k = n := by omega
      refine ⟨_, rfl, ?_, hbr⟩
      unfold OwnB boolsOf
      have e : ((List.range k).map fun j => decide (j < k) && (decide (j < 16) && s.testBit j)) = (List.range k).map fun j => decide (j < 16) && s.testBit j := by
        apply List.map_congr_left
        intro j hj
        rw [decide_eq_true (List.mem_range.1 hj), Bool.true_and]
      rw [← e]
      simpa using hown'
/-- what SetWord and l1Clip make of a number -/
def clipW (n : Int) : Int := min (max n (-32768)) 32767
def minI (a b : Int) : Int := if b < a then b else a
def maxI (a b : Int) : Int := if a < b then b else a
theorem lesser_any (a b : Int) (w : World) :
    Calls Try.prog 64 #[.int .i64 a, .int .i64 b] w fun e w' => e = .returned (.int .i64 (minI a b)) ∧ w = w' := by
  by_cases h : b < a
  all_goals
    go_enter Try.func64, Try.ntmps64
    go_wp2
    go_ret
    exact ⟨ret_int (by unfold minI; split <;> omega), rfl⟩
theorem greater_any (a b : Int) (w : World) :
    Calls Try.prog 72 #[.int .i64 a, .int .i64 b] w fun e w' => e = .returned (.int .i64 (maxI a b)) ∧ w = w' := by
  by_cases h : a < b
  all_goals
    go_enter Try.func72, Try.ntmps72
    go_wp2
    go_ret
    exact ⟨ret_int (by unfold maxI; split <;> omega), rfl⟩
/-- low and high, and the number between them -/
def limI (n lo hi : Int) : Int := maxI lo (minI n hi)
theorem limited_any (n lo hi : Int) (w : World) :
    Calls Try.prog 56 #[.int .i64 n, .int .i64 lo, .int .i64 hi] w fun e w' => e = .returned (.int .i64 (limI n lo hi)) ∧ w = w' := by
  go_enter Try.func56, Try.ntmps56
  go_wp2_with fail
  refine (lesser_any n hi _).mono ?_
  rintro e w' ⟨rfl, rfl⟩
  go_wp2_with fail
  refine (greater_any lo _ _).mono ?_
  rintro e w' ⟨rfl, rfl⟩
  go_wp2
  go_ret
  exact ⟨rfl, rfl⟩
theorem lim_clipW (n : Int) : limI n (-32768) 32767 = clipW n := by
  unfold limI maxI minI clipW
  repeat' split
  all_goals omega
theorem nearest_any (n : Int) (w : World) :
    Calls Try.prog 70 #[.int .i64 n] w fun e w' => e = .returned (.int .i64 (clipW n)) ∧ w = w' := by
  have hL := Lib.hid (limited_any n (-32768) 32767)
  have hE := Lib.hid (lim_clipW n)
  go_enter Try.func70, Try.ntmps70
  go_wp2_with fail
  refine (hL.out _).mono ?_
  rintro e w' ⟨rfl, rfl⟩
  go_wp2
  go_ret
  exact ⟨ret_int hE.out, rfl⟩
def setW (l : List Int) (n x : Int) : List Int := if 0 ≤ n ∧ n < l.length then l.set n.toNat (clipW x) else l
end Go.Proofs.Ytcpjafhhmhaenaa
