/- Contracts of the exact laws' helpers: lists of elements. -/
import Derived.Test.YtcpjafhhmhaenaaED
import Derived.Test.YtcpjafhhmhaenaaEC
import Derived.Test.YtcpjafhhmhaenaaIr
namespace Go.Proofs.Ytcpjafhhmhaenaa
open Go.RowKit
attribute [local go_sem ↓] Go.wp_at_zero Go.wp_at_succ

theorem made2 (n : Nat) : (madeCells #[Value.int .i64 0, Value.int .i64 0] (n * 2)).toList = List.replicate (n * 2) (.int .i64 0) := by
  unfold madeCells
  apply List.ext_getElem
  · simp
  · intro i h1 h2
    simp
    rcases Nat.mod_two_eq_zero_or_one i with h | h <;> simp [h]
theorem cellsN_step (l : List Nd) (k : Nat) (h : k < l.length) : (((cellsN (l.take k) ++ List.replicate ((l.length - k) * 2) (Value.int .i64 0)).set (k * 2) (.int .i64 l[k].op)).set (k * 2 + 1) (.int .i64 l[k].bit)) = cellsN (l.take (k + 1)) ++ List.replicate ((l.length - (k + 1)) * 2) (Value.int .i64 0) := by
  have hl : (cellsN (l.take k)).length = k * 2 := by rw [cellsN_length, List.length_take]; omega
  rw [take_snocN l k h, cellsN_append]
  rw [show (l.length - k) * 2 = (l.length - (k + 1)) * 2 + 1 + 1 by omega, List.replicate_succ, List.replicate_succ]
  rw [List.set_append_right _ _ (by omega), List.set_append_right _ _ (by omega), hl]
  simp [cellsN]
def markN (n k : Nat) : List Nd := (List.range n).map fun i => ⟨((k + 2 * i : Nat) : Int), ((k + 2 * i + 1 : Nat) : Int)⟩
theorem markN_len (n k : Nat) : (markN n k).length = n := by simp [markN]
theorem markN_succ (n k : Nat) : markN (n + 1) k = markN n k ++ [⟨((k + 2 * n : Nat) : Int), ((k + 2 * n + 1 : Nat) : Int)⟩] := by unfold markN; rw [List.range_succ, List.map_append]; rfl
theorem markN_step (l : List Nd) (k j : Nat) (h : j < l.length) : (((cellsN (markN j k) ++ (cellsN l).drop (j * 2)).set (j * 2) (.int .i64 ((k + 2 * j : Nat) : Int))).set (j * 2 + 1) (.int .i64 ((k + 2 * j + 1 : Nat) : Int))) = cellsN (markN (j + 1) k) ++ (cellsN l).drop ((j + 1) * 2) := by
  have hl : (cellsN (markN j k)).length = j * 2 := by rw [cellsN_length, markN_len]
  have hn := cellsN_length l
  rw [markN_succ, cellsN_append]
  rw [List.drop_eq_getElem_cons (show j * 2 < (cellsN l).length by omega), List.drop_eq_getElem_cons (show j * 2 + 1 < (cellsN l).length by omega)]
  rw [List.set_append_right _ _ (by omega), List.set_append_right _ _ (by omega), hl]
  rw [Nat.sub_self, show j * 2 + 1 - j * 2 = 1 by omega, List.set_cons_zero, List.set_cons_succ, List.set_cons_zero, List.append_assoc, show (j + 1) * 2 = j * 2 + 1 + 1 by omega]
  rfl
end Go.Proofs.Ytcpjafhhmhaenaa
