/- What the exact laws keep of their images; the sizes of their arguments. -/
import Derived.Test.YtcpjafhhmhaenaaEC
import Derived.Test.YtcpjafhhmhaenaaE
import Derived.Test.YtcpjafhhmhaenaaI
import Derived.Test.YtcpjafhhmhaenaaR
namespace Go.Proofs.Ytcpjafhhmhaenaa
open Go.RowKit
attribute [local go_sem ↓] Go.wp_at_zero Go.wp_at_succ

/-- An image of the call's own that is kept in block k. -/
structure HO (w : World) (k lo hi : Nat) (A1 : Option Addr) (c1 : Nat) (A2 : Option Addr) (c2 : Nat) (m : Img) : Prop where
  blk : w.heap[k]? = some (.cells #[.slice A1 m.bits.length c1, .slice A2 m.words.length c2] 62 (0, 0))
  own : OwnMX w lo hi (.agg #[.slice A1 m.bits.length c1, .slice A2 m.words.length c2]) m
  le : hi ≤ k
section
variable {w w' : World} {k lo hi lo2 hi2 : Nat} {A1 A2 : Option Addr} {c1 c2 : Nat} {m : Img}
theorem HO.new (h : OwnM w lo (.agg #[.slice A1 m.bits.length c1, .slice A2 m.words.length c2]) m) :
    HO (w.alloc (.cells #[.slice A1 m.bits.length c1, .slice A2 m.words.length c2] 62)) w.heap.size lo w.heap.size A1 c1 A2 c2 m :=
  ⟨heap_alloc_new _ _, (OwnMX.of h).below ((Below.refl _ _).alloc (Nat.le_refl _) _), Nat.le_refl _⟩
theorem HO.below (h : HO w k lo hi A1 c1 A2 c2 m) (hb : Below w.heap.size w w') : HO w' k lo hi A1 c1 A2 c2 m :=
  ⟨(hb.block k (blk_lt h.blk)).trans h.blk, h.own.below hb, h.le⟩
theorem HO.out (h : HO w k lo hi A1 c1 A2 c2 m) (ho : Out lo2 hi2 w w') (hd : (hi ≤ lo2 ∧ (k < lo2 ∨ hi2 ≤ k)) ∨ hi2 ≤ lo ∧ hi2 ≤ k) : HO w' k lo hi A1 c1 A2 c2 m :=
  ⟨(ho.block k (blk_lt h.blk) (by omega)).trans h.blk, h.own.out ho (by omega), h.le⟩
theorem HO.cells (h : HO w k lo hi A1 c1 A2 c2 m) : w.cell? ⟨k, 0, none⟩ = some (.slice A1 m.bits.length c1) ∧ w.cell? ⟨k, 1, none⟩ = some (.slice A2 m.words.length c2) := ⟨blk_cell h.blk 0, blk_cell h.blk 1⟩
theorem HO.lt (h : HO w k lo hi A1 c1 A2 c2 m) : k < w.heap.size := blk_lt h.blk
/-- Behind the marks of the image itself. -/
theorem HO.marked (h : HO w k lo hi A1 c1 A2 c2 m) (ho : Out lo hi w w') {j : Nat} (hm : OwnMX w' lo hi (.agg #[.slice A1 m.bits.length c1, .slice A2 m.words.length c2]) (markM m j)) : HO w' k lo hi A1 c1 A2 c2 (markM m j) := by
  refine ⟨?_, ?_, h.le⟩
  · have := (ho.block k (blk_lt h.blk) (.inr h.le)).trans h.blk
    simpa [markM, markB_len, markI_len] using this
  · simpa [markM, markB_len, markI_len] using hm
end
section
variable {W w w' : World} {k lo2 hi2 : Nat} {A1 A2 : Option Addr} {c1 c2 : Nat} {m : Img}
end
end Go.Proofs.Ytcpjafhhmhaenaa
