/- Contracts of chapter 1's bit sets and word lists. -/
import Derived.Test.YtoagnajljdbobabA
import Derived.Test.YtoagnajljdbobabBits
import Derived.Test.YtoagnajljdbobabLaws
namespace Go.Proofs.Ytoagnajljdbobab
open Go.RowKit

/-- Rows of the call's own: bools, ints. -/
def OwnB (w : World) (base : Nat) (v : Value) (l : List Bool) : Prop := w.ownsRow base 4 1 v l.length (l.map .bool)
def OwnI (w : World) (base : Nat) (v : Value) (l : List Int) : Prop := w.ownsRow base 3 1 v l.length (l.map (.int .i64))
theorem elB : Elem Try.prog 22 4 (.bool false) 1 1 := ⟨Try.underlying22, by kernel_rfl, rfl, by decide⟩
theorem elI : Elem Try.prog 23 3 (.int .i64 0) 1 8 := ⟨Try.underlying23, by kernel_rfl, rfl, by decide⟩
theorem elW : Elem Try.prog 57 3 (.int .i64 0) 1 8 := ⟨Try.underlying57, by kernel_rfl, rfl, by decide⟩
theorem OwnB.read {w : World} {b : Nat} {v : Value} {l : List Bool} (h : OwnB w b v l) (hl : l.length ≤ 140737488355328) : BoolsR w w.heap.size v l := by
  obtain ⟨A, c, rfl, _, hr⟩ := own_form h; exact ⟨A, c, rfl, hr, hl⟩
theorem OwnI.read {w : World} {b : Nat} {v : Value} {l : List Int} (h : OwnI w b v l) (hl : l.length ≤ 17592186044416) (hb : ∀ x ∈ l, -9223372036854775808 ≤ x ∧ x ≤ 9223372036854775807) : IntsR w w.heap.size v l := by
  obtain ⟨A, c, rfl, _, hr⟩ := own_form h; exact ⟨A, c, rfl, hr, hl, hb⟩
theorem one_i (l : List Int) : ∀ u ∈ l.map (Value.int .i64), u.oneCell' = true := by intro u hu; obtain ⟨_, _, rfl⟩ := List.mem_map.1 hu; rfl
theorem one_b (l : List Bool) : ∀ u ∈ l.map Value.bool, u.oneCell' = true := by intro u hu; obtain ⟨_, _, rfl⟩ := List.mem_map.1 hu; rfl

def hasN (s : Nat) (n : Int) : Bool := decide (n.toNat < 16) && s.testBit n.toNat
theorem has_in (s : Nat) (n : Int) (w : World) (hs : s < 65536) (h1 : 0 ≤ n) (h2 : n < 16) :
    Calls Try.prog 37 #[.int .u16 s, .int .i64 n] w fun e w' => e = .returned (.bool (hasN s n)) ∧ w = w' := by
  go_enter Try.func37, Try.ntmps37
  go_wp2
  go_ret
  exact ⟨ret_bool ((and_bit16 s n.toNat hs (by omega)).trans (by unfold hasN; rw [decide_eq_true (show n.toNat < 16 by omega), Bool.true_and])), rfl⟩
theorem has_out (s : Nat) (n : Int) (w : World) (h2 : 16 ≤ n) :
    Calls Try.prog 37 #[.int .u16 s, .int .i64 n] w fun e w' => e = .returned (.bool (hasN s n)) ∧ w = w' := by
  go_enter Try.func37, Try.ntmps37
  go_wp2
  go_ret
  exact ⟨ret_bool (by unfold hasN; rw [decide_eq_false (show ¬ n.toNat < 16 by omega), Bool.false_and]), rfl⟩
/-- has, at a number that is not negative. -/
theorem has_any (s : Nat) (n : Int) (w : World) (hs : s < 65536) (h1 : 0 ≤ n) :
    Calls Try.prog 37 #[.int .u16 s, .int .i64 n] w fun e w' => e = .returned (.bool (hasN s n)) ∧ w = w' := by
  by_cases h : n < 16
  · exact has_in s n w hs h1 h
  · exact has_out s n w (by omega)
theorem u16_ret {a b : Int} (h : a = b) : Ending.returned (.int .u16 a) = .returned (.int .u16 b) := by rw [h]
def withN (s : Nat) (n : Int) (b : Bool) : Nat := if 0 ≤ n ∧ n < 16 then bset s n.toNat b else s
theorem withN_lt (s : Nat) (n : Int) (b : Bool) (hs : s < 65536) : withN s n b < 65536 := by
  unfold withN; split
  · exact bset_lt _ _ _ hs (by omega)
  · exact hs
theorem with_any (s : Nat) (n : Int) (b : Bool) (w : World) (hs : s < 65536) :
    Calls Try.prog 35 #[.int .u16 s, .int .i64 n, .bool b] w fun e w' => e = .returned (.int .u16 (withN s n b)) ∧ w = w' := by
  by_cases h1 : n < 0
  · go_enter Try.func35, Try.ntmps35
    go_wp2
    go_ret
    exact ⟨u16_ret (by unfold withN; rw [if_neg (by omega)]), rfl⟩
  · by_cases h2 : n < 16
    · cases b
      · go_enter Try.func35, Try.ntmps35
        go_wp2
        go_ret
        exact ⟨u16_ret (by unfold withN; rw [if_pos (by omega)]; exact andNot_bit16 s n.toNat hs (by omega)), rfl⟩
      · go_enter Try.func35, Try.ntmps35
        go_wp2
        go_ret
        exact ⟨u16_ret (by unfold withN; rw [if_pos (by omega)]; exact or_bit16 s n.toNat hs (by omega)), rfl⟩
    · go_enter Try.func35, Try.ntmps35
      go_wp2
      go_ret
      exact ⟨u16_ret (by unfold withN; rw [if_neg (by omega)]), rfl⟩

theorem setTo_with (l : List Bool) (k : Nat) (h : k < l.length) : withN (setTo l k) k l[k] = setTo l (k + 1) := by
  rw [setTo_succ]; unfold withN
  by_cases h16 : k < 16
  · rw [if_pos (by omega), if_pos h16]; simp [h]
  · rw [if_neg (by omega), if_neg h16]
set_option maxHeartbeats 400000 in
theorem bitSetOf_any (v : Value) (l : List Bool) (w : World) (h : BoolsR w w.heap.size v l) :
    Calls Try.prog 23 #[v] w fun e w' => e = .returned (.int .u16 (setTo l l.length)) ∧ w = w' := by
  obtain ⟨A, c, rfl, hr, hl⟩ := h
  go_enter Try.func23, Try.ntmps23
  go_wp2
  go_loop [3, 8] (fun s i => ∃ k : Nat, k ≤ l.length ∧ i = .int .i64 k ∧ s = .int .u16 (setTo l k)) (fun _ i => l.length - (intOf i).toNat)
  case atStart => exact ⟨0, by omega, rfl, rfl⟩
  case round =>
    obtain ⟨k, hk, rfl, rfl⟩ := hrel
    by_cases hlt : k < l.length
    · obtain ⟨p, u, rfl, hpb, hu, hc⟩ := hr.one hlt
      have hx : u = .bool l[k] := by rw [List.getElem?_map, List.getElem?_eq_getElem hlt] at hu; simpa using hu.symm
      subst hx
      clear hu
      have hs := setTo_lt l k
      go_wp2_with (go_at_call 35; refine (with_any _ _ _ _ hs).mono ?_; rintro e w' ⟨rfl, rfl⟩)
      go_round
      case rel => exact ⟨k + 1, by omega, by go_num, by rw [← setTo_with l k hlt]⟩
      case measure => simp [intOf]; omega
    · go_wp2
      go_ret
      obtain rfl : k = l.length := by omega
      exact ⟨rfl, rfl⟩

theorem map_set_step (n k : Nat) (f : Nat → Bool) (_h : k < n) :
    (((List.range n).map fun j => decide (j < k) && f j).map Value.bool).set k (.bool (f k)) = ((List.range n).map fun j => decide (j < k + 1) && f j).map Value.bool := by
  apply List.ext_getElem
  · simp
  · intro i h1 h2
    rw [List.getElem_set]
    simp only [List.getElem_map, List.getElem_range]
    by_cases e : k = i
    · subst e; simp
    · rw [if_neg e, decide_eq_decide.2 (show i < k ↔ i < k + 1 by omega)]
theorem madeB (n : Nat) (f : Nat → Bool) : (madeCells #[Value.bool false] n).toList = ((List.range n).map fun j => decide (j < 0) && f j).map Value.bool := by
  refine (toList_madeCells_one _ _).trans ?_
  apply List.ext_getElem
  · simp
  · intro i h1 h2; simp
/-- what SetWord and l1Clip make of a number -/
def clipW (n : Int) : Int := min (max n (-32768)) 32767
def minI (a b : Int) : Int := if b < a then b else a
def maxI (a b : Int) : Int := if a < b then b else a
/-- low and high, and the number between them -/
def limI (n lo hi : Int) : Int := maxI lo (minI n hi)
theorem lim_clipW (n : Int) : limI n (-32768) 32767 = clipW n := by
  unfold limI maxI minI clipW
  repeat' split
  all_goals omega
def setW (l : List Int) (n x : Int) : List Int := if 0 ≤ n ∧ n < l.length then l.set n.toNat (clipW x) else l
set_option maxHeartbeats 400000 in
theorem numbers_any (s : Nat) (w : World) (hs : s < 65536) :
    Calls Try.prog 32 #[.int .u16 s] w fun e w' => ∃ v', e = .returned v' ∧ OwnI w' w.heap.size v' (numsTo s 16) ∧ Below w.heap.size w w' := by
  go_enter Try.func32, Try.ntmps32
  go_wp2
  go_loopw [3, 5] (fun v i wr => ∃ k : Nat, k ≤ 16 ∧ i = .int .i64 k ∧ OwnI wr w.heap.size v (numsTo s k) ∧ Below w.heap.size w wr) (fun _ i _ => 16 - (intOf i).toNat)
  case atStart => exact ⟨0, by omega, rfl, World.ownsRow_nil _ _ _ _, Below.refl _ _⟩
  case round =>
    obtain ⟨k, hk, rfl, hown, hbr⟩ := hrel
    have hsz := hbr.size
    by_cases hlt : k < 16
    · have hnl := numsTo_length s k
      cases hbit : s.testBit k
      · have hh : hasN s k = false := by unfold hasN; simp [hbit]
        have H := Lib.hid hbit
        clear hbit
        go_wp2_with (go_at_call 37; refine (has_any s _ _ hs (by omega)).mono ?_; rintro e w' ⟨rfl, rfl⟩)
        go_roundw
        case rel => exact ⟨k + 1, by omega, by go_num, by rw [numsTo_succ, H.out]; exact hown, hbr⟩
        case measure => simp [intOf]; omega
      · have hh : hasN s k = true := by unfold hasN; simp [hbit]; omega
        have H := Lib.hid hbit
        clear hbit
        go_wp2_with (first | (go_at_call 37; refine (has_any s _ _ hs (by omega)).mono ?_; rintro e w' ⟨rfl, rfl⟩) | (at_builtin; refine wpl_append rfl _ _ 23 rfl elI rfl (hown.alloc _) rfl (Rd.new1 _ _ _) ?c1 ?c2 ?c3 ?c4 ?_))
        case c1 => simp; rfl
        case c2 => omega
        case c3 => omega
        case c4 => simp; omega
        intro v' w1 hown1 hg1 _
        have R : OwnI w1 w.heap.size v' (numsTo s (k + 1)) := by
          unfold OwnI; rw [numsTo_succ, H.out]; simpa using hown1
        have hb1 : Below w.heap.size w w1 := (hbr.alloc hsz _).grown hg1 (by simp; omega) (fun j hj => (hown.lt j hj).1)
        clear hown1 hg1 hown hbr
        go_wp2
        go_roundw
        case rel => exact ⟨k + 1, by omega, by go_num, R, hb1⟩
        case measure => simp [intOf]; omega
    · go_wp2
      go_ret
      obtain rfl : k = 16 := by omega
      exact ⟨_, rfl, hown, hbr⟩
end Go.Proofs.Ytoagnajljdbobab
