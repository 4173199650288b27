/- The opening of an image that a law takes: two slices, in one struct. -/
import Derived.Test.YtcpjafhhmhaenaaA
import Derived.Lib.SmallJoins
import Derived.Deep.Grids
import Derived.ProofKit
import Derived.ChangeOld
namespace Go.Proofs.Ytcpjafhhmhaenaa
open Go.ChangeShapes Go.WideShapes Go.ChangeAt Go.RowKit

set_option maxRecDepth 100000 in
theorem rd_row {w : World} {a : Addr} {n : Nat} {f : Nat → Value} (h : ∀ i, i < n → w.cell? (a.add i) = some (f i)) : Rd w w.heap.size 1 (some a) n ((List.range n).map f) := by
  refine ⟨by simp, fun h0 => ⟨a, rfl, ?_, fun j u hu => ?_⟩⟩
  · have := World.block_lt_of_cell? w _ (h 0 h0)
    simpa [Addr.add] using this
  · rw [List.getElem?_map] at hu
    obtain ⟨i, hi, rfl⟩ := Option.map_eq_some_iff.1 hu
    obtain ⟨hj, rfl⟩ := List.getElem?_eq_some_iff.1 hi
    simp only [List.length_range] at hj
    simpa using h j hj

end Go.Proofs.Ytcpjafhhmhaenaa
