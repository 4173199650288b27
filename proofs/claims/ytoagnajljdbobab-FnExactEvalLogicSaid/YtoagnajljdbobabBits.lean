/- Plain facts on sets of bits in a uint16: one bit asked, one bit written, the set of a list, the list of a set. -/
import Derived.WalkKit
import Derived.Laws.BitsAllLaws
namespace Go.Proofs.Ytoagnajljdbobab
open Go.RowKit

theorem pow16_lt {k : Nat} (h : k < 16) : 2 ^ k < 65536 := by
  have : 2 ^ k < 2 ^ 16 := Nat.pow_lt_pow_right (by omega) h
  omega
theorem wrap_pow16 {k : Nat} (h : k < 16) : IntKind.u16.wrap ((2 : Int) ^ k) = ((2 ^ k : Nat) : Int) := by
  have := pow16_lt h
  have e : ((2 : Int) ^ k) = ((2 ^ k : Nat) : Int) := by rw [Int.natCast_pow]; rfl
  rw [IntKind.wrap_u16, e]
  generalize (2 ^ k : Nat) = x at this
  omega
theorem and_bit16 (s : Nat) (k : Nat) (hs : s < 65536) (hk : k < 16) : (bits .and .u16 (s : Int) (IntKind.u16.wrap ((2 : Int) ^ k)) != 0) = s.testBit k := by
  rw [wrap_pow16 hk, u16_and_nat s (2 ^ k) hs (pow16_lt hk), nat_bit, Nat.testBit_eq_decide_div_mod_eq]
  have h0 : 0 < 2 ^ k := Nat.two_pow_pos k
  rcases Nat.mod_two_eq_zero_or_one (s / 2 ^ k) with h | h
  · simp [h]
  · simp only [h, Nat.one_mul, decide_true]
    rw [bne_iff_ne]
    omega
def bset (s k : Nat) (b : Bool) : Nat := if b then s ||| 2 ^ k else s &&& (65535 - 2 ^ k)
theorem bset_lt (s k : Nat) (b : Bool) (hs : s < 65536) (hk : k < 16) : bset s k b < 65536 := by
  unfold bset
  split
  · have := Nat.or_lt_two_pow (n := 16) (x := s) (y := 2 ^ k) (by omega) (by have := pow16_lt hk; omega)
    omega
  · exact Nat.lt_of_le_of_lt Nat.and_le_left hs
theorem testBit_bset (s k j : Nat) (b : Bool) (hs : s < 65536) (hk : k < 16) : (bset s k b).testBit j = if j = k then b else s.testBit j := by
  unfold bset
  cases b
  · simp only [Bool.false_eq_true, if_false, Nat.testBit_and]
    have e : 65535 - 2 ^ k = 2 ^ 16 - (2 ^ k + 1) := by omega
    rw [e, Nat.testBit_two_pow_sub_succ (pow16_lt hk), Nat.testBit_two_pow]
    by_cases h : j = k
    · subst h; simp
    · by_cases hj : j < 16
      · simp [h, hj, Ne.symm h]
      · have : s.testBit j = false := Nat.testBit_lt_two_pow (Nat.lt_of_lt_of_le hs (by have : 2 ^ 16 ≤ 2 ^ j := Nat.pow_le_pow_right (by omega) (by omega); omega))
        simp [h, this]
  · simp only [if_true, Nat.testBit_or, Nat.testBit_two_pow]
    by_cases h : j = k
    · subst h; simp
    · simp [h, Ne.symm h]
theorem or_bit16 (s k : Nat) (hs : s < 65536) (hk : k < 16) : bits .or .u16 (s : Int) (IntKind.u16.wrap ((2 : Int) ^ k)) = ((bset s k true : Nat) : Int) := by
  rw [wrap_pow16 hk, u16_or_nat s (2 ^ k) hs (pow16_lt hk)]; rfl
theorem andNot_bit16 (s k : Nat) (hs : s < 65536) (hk : k < 16) : bits .andNot .u16 (s : Int) (IntKind.u16.wrap ((2 : Int) ^ k)) = ((bset s k false : Nat) : Int) := by
  rw [wrap_pow16 hk, u16_andNot_nat s (2 ^ k) hs (pow16_lt hk)]; rfl

/-- The set of a list of bits. -/
def setOf16 (l : List Bool) : Nat := (List.range (min l.length 16)).foldl (fun s k => bset s k (l.getD k false)) 0
def setTo (l : List Bool) (n : Nat) : Nat := (List.range n).foldl (fun s k => if k < 16 then bset s k (l.getD k false) else s) 0
theorem setTo_succ (l : List Bool) (n : Nat) : setTo l (n + 1) = if n < 16 then bset (setTo l n) n (l.getD n false) else setTo l n := by
  unfold setTo; rw [List.range_succ, List.foldl_append]; rfl
theorem setTo_lt (l : List Bool) (n : Nat) : setTo l n < 65536 := by
  induction n with
  | zero => simp [setTo]
  | succ n ih => rw [setTo_succ]; split; exact bset_lt _ _ _ ih (by omega); exact ih
theorem testBit_setTo (l : List Bool) (n j : Nat) : (setTo l n).testBit j = (decide (j < n) && decide (j < 16) && l.getD j false) := by
  induction n with
  | zero => simp [setTo]
  | succ n ih =>
    rw [setTo_succ]
    split
    · rename_i h
      rw [testBit_bset _ _ _ _ (setTo_lt l n) h, ih]
      by_cases e : j = n
      · subst e; simp [h]
      · rw [if_neg e, decide_eq_decide.2 (show j < n + 1 ↔ j < n by omega)]
    · rename_i h
      rw [ih]
      by_cases e : j < 16
      · rw [decide_eq_decide.2 (show j < n + 1 ↔ j < n by omega)]
      · simp [e]
/-- The first n bits of a set. -/
def boolsOf (s n : Nat) : List Bool := (List.range n).map fun k => decide (k < 16) && s.testBit k
theorem boolsOf_setTo (l : List Bool) (h : l.length ≤ 16) : boolsOf (setTo l l.length) l.length = l := by
  apply List.ext_getElem
  · simp [boolsOf]
  · intro i h1 h2
    simp only [boolsOf, List.getElem_map, List.getElem_range, testBit_setTo]
    simp only [boolsOf, List.length_map, List.length_range] at h1
    have : i < 16 := by omega
    simp [this, h1]
theorem boolsOf_bset (l : List Bool) (h : l.length ≤ 16) (k : Nat) (b : Bool) (hk : k < 16) : boolsOf (bset (setTo l l.length) k b) l.length = l.set k b := by
  apply List.ext_getElem
  · simp [boolsOf]
  · intro i h1 h2
    simp only [boolsOf, List.getElem_map, List.getElem_range, testBit_bset _ _ _ _ (setTo_lt _ _) hk, testBit_setTo]
    simp only [boolsOf, List.length_map, List.length_range] at h1
    have : i < 16 := by omega
    rw [List.getElem_set]
    by_cases e : i = k
    · subst e; simp [this]
    · simp [this, h1, e, Ne.symm e]
/-- The numbers below n of the bits of a set. -/
def numsTo (s n : Nat) : List Int := ((List.range n).filter fun k => s.testBit k).map fun (k : Nat) => (k : Int)
theorem numsTo_succ (s n : Nat) : numsTo s (n + 1) = if s.testBit n then numsTo s n ++ [(n : Int)] else numsTo s n := by
  unfold numsTo; rw [List.range_succ, List.filter_append]
  cases h : s.testBit n <;> simp [h]
theorem numsTo_length (s n : Nat) : (numsTo s n).length ≤ n := by
  unfold numsTo; rw [List.length_map]
  exact Nat.le_trans (List.length_filter_le _ _) (by simp)
end Go.Proofs.Ytoagnajljdbobab
