/- Row sets, truth tables, evaluation, equivalence, dependence: the program's functions. -/
import Derived.Test.YtoagnajljdbobabIm
import Derived.Test.YtoagnajljdbobabLaws
namespace Go.Proofs.Ytoagnajljdbobab
open Go.RowKit
attribute [local go_sem ↓] Go.wp_at_zero Go.wp_at_succ

theorem rhas_form (s k : Nat) (hs : s < 18446744073709551616) : (bits .and .u64 ((s : Int) / 2 ^ k) 1 == 1) = s.testBit k := by
  have e : (s : Int) / 2 ^ k = ((s / 2 ^ k : Nat) : Int) := by simp [Int.natCast_pow]
  have h1 : s / 2 ^ k < 18446744073709551616 := Nat.lt_of_le_of_lt (Nat.div_le_self _ _) hs
  rw [e, show (1 : Int) = ((1 : Nat) : Int) from rfl, u64_and_nat _ 1 h1 (by omega), Nat.testBit_eq_decide_div_mod_eq, Nat.and_one_is_mod]
  rcases Nat.mod_two_eq_zero_or_one (s / 2 ^ k) with h | h <;> simp [h]
theorem rhas_any (s k : Nat) (w : World) (hs : s < 18446744073709551616) (hk : k < 64) :
    Calls Try.prog 34 #[.int .u64 s, .int .i64 k] w fun e w' => e = .returned (.bool (s.testBit k)) ∧ w = w' := by
  have H := Lib.hid hs
  clear hs
  go_enter Try.func34, Try.ntmps34
  go_wp2
  go_ret
  exact ⟨ret_bool (rhas_form s k H.out), rfl⟩
theorem madeB0 (n : Nat) (f : Nat → Bool) : (madeCells #[Value.bool false] n).toList = ((List.range n).map fun j => decide (j < 0) && f j).map Value.bool := by
  refine (toList_madeCells_one _ _).trans ?_
  apply List.ext_getElem
  · simp
  · intro i h1 h2; simp
theorem map_set_stepB (n k : Nat) (f : Nat → Bool) :
    (((List.range n).map fun j => decide (j < k) && f j).map Value.bool).set k (.bool (f k)) = ((List.range n).map fun j => decide (j < k + 1) && f j).map Value.bool := by
  apply List.ext_getElem
  · simp
  · intro i h1 h2
    rw [List.getElem_set]
    simp only [List.getElem_map, List.getElem_range]
    by_cases e : k = i
    · subst e; simp
    · rw [if_neg e, decide_eq_decide.2 (show i < k ↔ i < k + 1 by omega)]
/-- the first n rows -/
def rowsOf (s n : Nat) : List Bool := (List.range n).map s.testBit
def RBP (s n : Nat) (w : World) (e : Ending) (w' : World) : Prop := ∃ v, e = .returned v ∧ OwnB w' w.heap.size v (rowsOf s n) ∧ Below w.heap.size w w'
theorem col_not : ∀ k, k < 6 → 18446744073709551615 - colN k = 18446744073709551615 ^^^ colN k := by decide
theorem rdep_form (s k : Nat) (hs : s < 18446744073709551616) (hk : k < 6) : (bits .andNot .u64 (bits .xor .u64 (s : Int) ((s : Int) / 2 ^ min (IntKind.u64.wrap (2 ^ k)).toNat 64)) (colN k : Nat) != 0) = decide (depN s k ≠ 0) := by
  have hp : 2 ^ k ≤ 32 := by
    have : 2 ^ k ≤ 2 ^ 5 := Nat.pow_le_pow_right (by omega) (by omega)
    omega
  have e0 : (IntKind.u64.wrap ((2 : Int) ^ k)) = ((2 ^ k : Nat) : Int) := by
    have e : ((2 : Int) ^ k) = ((2 ^ k : Nat) : Int) := by rw [Int.natCast_pow]; rfl
    rw [IntKind.wrap_u64, e]
    generalize (2 ^ k : Nat) = x at hp
    omega
  have e1 : min (IntKind.u64.wrap ((2 : Int) ^ k)).toNat 64 = 2 ^ k := by rw [e0]; generalize (2 ^ k : Nat) = x at hp; omega
  rw [e1]
  have e2 : (s : Int) / 2 ^ (2 ^ k) = ((s / 2 ^ (2 ^ k) : Nat) : Int) := by simp [Int.natCast_pow]
  have h1 : s / 2 ^ (2 ^ k) < 18446744073709551616 := Nat.lt_of_le_of_lt (Nat.div_le_self _ _) hs
  rw [e2, u64_xor_nat s _ hs h1, u64_andNot_nat _ _ (Nat.xor_lt_two_pow (n := 64) hs h1) (colN_lt k), col_not k hk, ← Nat.shiftRight_eq_div_pow]
  unfold depN
  generalize ((s ^^^ s >>> 2 ^ k) &&& (18446744073709551615 ^^^ colN k)) = y
  rw [Bool.eq_iff_iff]
  simp
/-- The table of columns, which the program's start lays. -/
structure Tab (w : World) : Prop where
  pos : 0 < w.heap.size
  cell : ∀ k, k < 6 → w.cell? ⟨0, k, none⟩ = some (.int .u64 (colN k))
theorem Tab.below {w w' : World} {B : Nat} (h : Tab w) (hb : Below B w w') (hB : 0 < B) : Tab w' := ⟨Nat.lt_of_lt_of_le h.pos hb.size, fun k hk => (hb.cell (p := ⟨0, k, none⟩) (by exact hB)).trans (h.cell k hk)⟩
theorem Tab.next {w w' : World} (h : Tab w) (hb : Below w.heap.size w w') : Tab w' := h.below hb h.pos
def colK (k : Nat) (j : Nat) : Int := if j < k then (colN j : Nat) else 0
theorem mCells_put (c : Nat → Int) (v : Value) (k : Nat) (x : Int) (h : k < 16) : (mCells c v).set k (.int .u64 x) = mCells (fun j => if j = k then x else c j) v := by
  unfold mCells
  rw [List.set_append_left _ _ (by simpa using h)]
  congr 1
  apply List.ext_getElem
  · simp
  · intro i h1 h2
    rw [List.getElem_set]
    simp only [List.getElem_map, List.getElem_range]
    by_cases e : k = i
    · subst e; simp
    · rw [if_neg e, if_neg (fun h => e h.symm)]
theorem colK_put (k : Nat) : (fun j => if j = k then ((colN k : Nat) : Int) else colK k j) = colK (k + 1) := by
  funext j
  unfold colK
  by_cases e : j = k
  · subst e; simp
  · rw [if_neg e]
    by_cases h : j < k
    · rw [if_pos h, if_pos (by omega)]
    · rw [if_neg h, if_neg (by omega)]
theorem mZero : mCells (colK 0) (.slice none 0 0) = [.int .u64 0, .int .u64 0, .int .u64 0, .int .u64 0, .int .u64 0, .int .u64 0, .int .u64 0, .int .u64 0, .int .u64 0, .int .u64 0, .int .u64 0, .int .u64 0, .int .u64 0, .int .u64 0, .int .u64 0, .int .u64 0, .slice none 0 0] := by rfl
def ttOK (l : List Nd) (n : Int) : Bool := decide (0 ≤ n) && decide (n ≤ 6) && lvalid l n
def TTP (r : Int) (b : Bool) (w : World) (e : Ending) (w' : World) : Prop := e = .returned (.tuple #[.int .u64 r, .bool b]) ∧ Below w.heap.size w w'
end Go.Proofs.Ytoagnajljdbobab
