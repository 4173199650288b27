/- Timers of the specification: traces; the exact laws' helpers. -/
import Derived.Test.YtldlfailmmmdmaaTV
import Derived.Deep.Cut
namespace Go.Proofs.Ytldlfailmmmdmaa
open Go.RowKit
attribute [local go_sem ↓] Go.wp_at_zero Go.wp_at_succ

def tmC (t : Tm) : Array Value := #[.int .i64 t.kind, .int .i64 t.pre, .int .i64 t.el, .bool t.bef, .bool t.out]
theorem five_set {w : World} {k ty : Nat} {t u : Tm} (h : w.heap[k]? = some (.cells (tmC t) ty (0, 0))) :
    (((((w.setCell ⟨k, 0, none⟩ (.int .i64 u.kind)).setCell ⟨k, 1, none⟩ (.int .i64 u.pre)).setCell ⟨k, 2, none⟩ (.int .i64 u.el)).setCell ⟨k, 3, none⟩ (.bool u.bef)).setCell ⟨k, 4, none⟩ (.bool u.out)).heap[k]? = some (.cells (tmC u) ty (0, 0)) :=
  heap_setCell_same _ k 4 _ _ _ (heap_setCell_same _ k 3 _ _ _ (heap_setCell_same _ k 2 _ _ _ (heap_setCell_same _ k 1 _ _ _ (heap_setCell_same w k 0 _ _ _ h))))
theorem five_own {w : World} {k ty b e s n : Nat} {v : Value} {xs : List Value} {t u : Tm} (h : w.ownsRow b e s v n xs) (hk : w.heap[k]? = some (.cells (tmC t) ty (0, 0))) (ht : e ≠ ty) :
    (((((w.setCell ⟨k, 0, none⟩ (.int .i64 u.kind)).setCell ⟨k, 1, none⟩ (.int .i64 u.pre)).setCell ⟨k, 2, none⟩ (.int .i64 u.el)).setCell ⟨k, 3, none⟩ (.bool u.bef)).setCell ⟨k, 4, none⟩ (.bool u.out)).ownsRow b e s v n xs := by
  have h1 := heap_setCell_same w k 0 _ _ (.int .i64 u.kind) hk
  have h2 := heap_setCell_same _ k 1 _ _ (.int .i64 u.pre) h1
  have h3 := heap_setCell_same _ k 2 _ _ (.int .i64 u.el) h2
  have h4 := heap_setCell_same _ k 3 _ _ (.bool u.bef) h3
  exact own_setCell (p := ⟨k, 4, none⟩) (own_setCell (p := ⟨k, 3, none⟩) (own_setCell (p := ⟨k, 2, none⟩) (own_setCell (p := ⟨k, 1, none⟩) (own_setCell (p := ⟨k, 0, none⟩) h hk ht _) h1 ht _) h2 ht _) h3 ht _) h4 ht _
theorem five_below {w0 w : World} {B k : Nat} {u : Tm} (h : Below B w0 w) (hk : B ≤ k) :
    Below B w0 (((((w.setCell ⟨k, 0, none⟩ (.int .i64 u.kind)).setCell ⟨k, 1, none⟩ (.int .i64 u.pre)).setCell ⟨k, 2, none⟩ (.int .i64 u.el)).setCell ⟨k, 3, none⟩ (.bool u.bef)).setCell ⟨k, 4, none⟩ (.bool u.out)) :=
  ((((h.setCell hk _).setCell hk _).setCell hk _).setCell hk _).setCell hk _
theorem blkT {w : World} {k ty : Nat} {t : Tm} (h : w.heap[k]? = some (.cells (tmC t) ty (0, 0))) :
    w.cell? ⟨k, 0, none⟩ = some (.int .i64 t.kind) ∧ w.cell? ⟨k, 1, none⟩ = some (.int .i64 t.pre) ∧ w.cell? ⟨k, 2, none⟩ = some (.int .i64 t.el) ∧ w.cell? ⟨k, 3, none⟩ = some (.bool t.bef) ∧ w.cell? ⟨k, 4, none⟩ = some (.bool t.out) ∧
    w.frozen? ⟨k, 0, none⟩ = false ∧ w.frozen? ⟨k, 1, none⟩ = false ∧ w.frozen? ⟨k, 2, none⟩ = false ∧ w.frozen? ⟨k, 3, none⟩ = false ∧ w.frozen? ⟨k, 4, none⟩ = false := blk5 h
end Go.Proofs.Ytldlfailmmmdmaa
