/- The program's stack machine over row sets. -/
import Derived.Test.YtldlfailmmmdmaaP
import Derived.Test.YtldlfailmmmdmaaNm
import Derived.WalkSmall
import Derived.StillTailTactics
namespace Go.Proofs.Ytldlfailmmmdmaa
open Go.RowKit
attribute [local go_sem ↓] Go.wp_at_zero Go.wp_at_succ

/-- The sixteen columns and the stack's slice. -/
def mCells (c : Nat → Int) (v : Value) : List Value := ((List.range 16).map fun k => Value.int .u64 (c k)) ++ [v]
theorem mCells_len (c : Nat → Int) (v : Value) : (mCells c v).length = 17 := by simp [mCells]
theorem mCells_col (c : Nat → Int) (v : Value) (k : Nat) (h : k < 16) : (mCells c v)[k]? = some (.int .u64 (c k)) := by
  unfold mCells
  rw [List.getElem?_append_left (by simpa using h)]
  simp [h]
theorem mCells_top (c : Nat → Int) (v : Value) : (mCells c v)[16]? = some v := by
  unfold mCells
  rw [List.getElem?_append_right (by simp)]
  simp
theorem mCells_set (c : Nat → Int) (u v : Value) : (mCells c v).set 16 u = mCells c u := by
  unfold mCells
  rw [List.set_append_right _ _ (by simp)]
  simp
def stkV (st : List Int) : List Value := st.reverse.map (.int .u64)
section
variable {w w' : World} {g base : Nat} {c : Nat → Int} {v : Value} {st : List Int}
end
end Go.Proofs.Ytldlfailmmmdmaa
