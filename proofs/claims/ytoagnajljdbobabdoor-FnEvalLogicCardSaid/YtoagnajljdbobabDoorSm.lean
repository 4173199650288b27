/- The specification's tables, equivalence, dependence, evaluation. -/
import Derived.Test.YtoagnajljdbobabDoorSe
import Derived.Test.YtoagnajljdbobabDoorE
import Derived.Test.YtoagnajljdbobabDoorIq
import Derived.Test.YtoagnajljdbobabDoorIu
namespace Go.Proofs.YtoagnajljdbobabDoor
open Go.RowKit
attribute [local go_sem ↓] Go.wp_at_zero Go.wp_at_succ

theorem bit_form (x k : Nat) : (((x : Int) / 2 ^ k).tmod 2 == 1) = x.testBit k := by
  have e : (x : Int) / 2 ^ k = ((x / 2 ^ k : Nat) : Int) := by simp [Int.natCast_pow]
  rw [e, Int.tmod_eq_emod_of_nonneg (Int.natCast_nonneg _), Nat.testBit_eq_decide_div_mod_eq]
  generalize x / 2 ^ k = y
  rw [Bool.eq_iff_iff]
  simp
  omega
def bitsL (x n : Nat) : List Bool := (List.range n).map x.testBit
theorem bitsL_succ (x n : Nat) : bitsL x (n + 1) = bitsL x n ++ [x.testBit n] := by unfold bitsL; rw [List.range_succ, List.map_append]; rfl
theorem bitsL_len (x n : Nat) : (bitsL x n).length = n := by simp [bitsL]
theorem row_bits {l : List Nd} {m : Nat} (x : Nat) (h : lvalid l m = true) : val (bAlg (bitsL x m)) l = row l x := by
  refine (evb_valid h _ _ fun k h1 h2 => ?_)
  unfold bitsL
  rw [List.getD_eq_getElem?_getD, List.getElem?_map, List.getElem?_range (by omega)]
  rfl
def rowsL (l : List Nd) (x : Nat) : List Bool := (List.range x).map (row l)
theorem rowsL_succ (l : List Nd) (x : Nat) : rowsL l (x + 1) = rowsL l x ++ [row l x] := by unfold rowsL; rw [List.range_succ, List.map_append]; rfl
theorem rowsL_len (l : List Nd) (x : Nat) : (rowsL l x).length = x := by simp [rowsL]
end Go.Proofs.YtoagnajljdbobabDoor
