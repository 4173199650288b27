/- Rungs: what a ladder leaves: an image of the call's own; blocks of two and three cells. -/
import Derived.Test.YtlpoeijjlkdceaaRs
import Derived.Test.YtlpoeijjlkdceaaE
namespace Go.Proofs.Ytlpoeijjlkdceaa
open Go.RowKit
attribute [local go_sem ↓] Go.wp_at_zero Go.wp_at_succ

def RgRunP (m : Img) (w : World) (e : Ending) (w' : World) : Prop := ∃ u, e = .returned u ∧ OwnM w' w.heap.size u m ∧ Below w.heap.size w w'
theorem OwnM.readF {w : World} {b : Nat} {v : Value} {m : Img} (h : OwnM w b v m) (hs : m.bits.length ≤ 2000000 ∧ m.words.length ≤ 2000000) (hx : ∀ x ∈ m.words, -9223372036854775808 ≤ x ∧ x ≤ 9223372036854775807) : ImgR w w.heap.size v m := by
  obtain ⟨v1, v2, rfl, h1, h2⟩ := h
  exact ⟨v1, v2, rfl, OwnB.read h1 (by omega), OwnI.read h2 (by omega) hx⟩
theorem blk_set2 {w : World} {k t : Nat} {x y : Value} (h : w.heap[k]? = some (.cells #[x, y] t (0, 0))) (u u' : Value) : ((w.setCell ⟨k, 0, none⟩ u).setCell ⟨k, 1, none⟩ u').heap[k]? = some (.cells #[u, u'] t (0, 0)) := by
  have h1 := Go.heap_setCell_same w k 0 _ t u h
  have h2 := Go.heap_setCell_same _ k 1 _ t u' h1
  simpa using h2
theorem blk_set3 {w : World} {k t : Nat} {x y z : Value} (h : w.heap[k]? = some (.cells #[x, y, z] t (0, 0))) (u u' u'' : Value) : (((w.setCell ⟨k, 0, none⟩ u).setCell ⟨k, 1, none⟩ u').setCell ⟨k, 2, none⟩ u'').heap[k]? = some (.cells #[u, u', u''] t (0, 0)) := by
  have h1 := Go.heap_setCell_same w k 0 _ t u h
  have h2 := Go.heap_setCell_same _ k 1 _ t u' h1
  have h3 := Go.heap_setCell_same _ k 2 _ t u'' h2
  simpa using h3
theorem blk_other {w : World} {k : Nat} {o : Obj} {a : Addr} (h : w.heap[k]? = some o) (hne : k ≠ a.block) (u : Value) : (w.setCell a u).heap[k]? = some o := (Below.heap_setCell _ _ _ _ hne).trans h
theorem OwnM.set_ {w : World} {b : Nat} {v : Value} {m : Img} (h : OwnM w b v m) {p : Addr} (hp : p.block < b) (u : Value) : OwnM (w.setCell p u) b v m := by
  obtain ⟨v1, v2, rfl, h1, h2⟩ := h
  exact ⟨v1, v2, rfl, ownsRow_setCell_below h1 hp u, ownsRow_setCell_below h2 hp u⟩
theorem OwnM.keep_ {w w' : World} {b : Nat} {v : Value} {m : Img} (h : OwnM w b v m) (hb : Below w.heap.size w w') : OwnM w' b v m := by
  obtain ⟨v1, v2, rfl, h1, h2⟩ := h
  exact ⟨v1, v2, rfl, own_below h1 hb, own_below h2 hb⟩
/-- The cells of a block of two or three. -/
theorem blk2 {w : World} {k t : Nat} {x y : Value} (h : w.heap[k]? = some (.cells #[x, y] t (0, 0))) :
    w.cell? ⟨k, 0, none⟩ = some x ∧ w.cell? ⟨k, 1, none⟩ = some y ∧ w.frozen? ⟨k, 0, none⟩ = false ∧ w.frozen? ⟨k, 1, none⟩ = false :=
  ⟨blk_cell h 0, blk_cell h 1, blk_frozen h 0, blk_frozen h 1⟩
theorem blk3 {w : World} {k t : Nat} {x y z : Value} (h : w.heap[k]? = some (.cells #[x, y, z] t (0, 0))) :
    (w.cell? ⟨k, 0, none⟩ = some x ∧ w.cell? ⟨k, 1, none⟩ = some y ∧ w.cell? ⟨k, 2, none⟩ = some z) ∧ w.frozen? ⟨k, 0, none⟩ = false ∧ w.frozen? ⟨k, 1, none⟩ = false ∧ w.frozen? ⟨k, 2, none⟩ = false :=
  ⟨⟨blk_cell h 0, blk_cell h 1, blk_cell h 2⟩, blk_frozen h 0, blk_frozen h 1, blk_frozen h 2⟩
end Go.Proofs.Ytlpoeijjlkdceaa
