/- Chapter 4: the filter of a signal, in the program and in the specification. -/
import Derived.Test.YtldlfailmmmdmaaLB
import Derived.Test.YtldlfailmmmdmaaR
namespace Go.Proofs.Ytldlfailmmmdmaa
open Go.RowKit
attribute [local go_sem ↓] Go.wp_at_zero Go.wp_at_succ

theorem blk2d {w : World} {k t : Nat} {x y : Value} (h : w.heap[k]? = some (.cells #[x, y] t (0, 0))) :
    (w.cell? ⟨k, 0, none⟩ = some x ∧ w.cell? ⟨k, 1, none⟩ = some y) ∧ w.frozen? ⟨k, 0, none⟩ = false ∧ w.frozen? ⟨k, 1, none⟩ = false :=
  ⟨⟨blk_cell h 0, blk_cell h 1⟩, blk_frozen h 0, blk_frozen h 1⟩
/-- Both cells of a block written. -/
theorem two_set {w : World} {k t : Nat} {x y u u' : Value} (h : w.heap[k]? = some (.cells #[x, y] t (0, 0))) : ((w.setCell ⟨k, 0, none⟩ u).setCell ⟨k, 1, none⟩ u').heap[k]? = some (.cells #[u, u'] t (0, 0)) := by
  have h1 := heap_setCell_same w k 0 _ _ u h
  exact heap_setCell_same _ k 1 _ _ u' h1
end Go.Proofs.Ytldlfailmmmdmaa
