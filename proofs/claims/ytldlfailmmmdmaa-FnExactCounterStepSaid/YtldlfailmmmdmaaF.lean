/- A copy of an image, by the specification. -/
import Derived.Test.YtldlfailmmmdmaaE
namespace Go.Proofs.Ytldlfailmmmdmaa
open Go.RowKit
attribute [local go_sem ↓] Go.wp_at_zero Go.wp_at_succ
theorem own_lit0 {base : Nat} {W : World} {e sz g : Nat} (hg : W.heap.size = g) (h : base ≤ g) : (W.alloc (.cells #[] e)).ownsRow base e sz (.slice (some ⟨g, 0, none⟩) 0 0) 0 [] := by
  subst hg; exact World.ownsRow_lit W #[] 0 h (by simp [maxLen]) (by simp)
theorem Rd.mono {w w' : World} {B sz n : Nat} {A : Option Addr} {xs : List Value} (h : Rd w B sz A n xs) (hb : Below B w w') : Rd w' B sz A n xs := h.keep (fun _ hp => hb.cell hp) (Nat.le_refl _)
theorem below_al {B : Nat} {a w : World} (hB : B ≤ w.heap.size) (h : Below B a w) (o : Obj) : Below B a (w.alloc o) := h.alloc hB o
/-- Behind a law on an owned row: what a block of another number holds. -/
theorem grown_kept {w w' : World} {row : Option Nat} (hg : w.grownBy w' row) (n : Nat) (hn : n < w.heap.size) (hne : row ≠ some n) :
    (∀ o, w'.cell? ⟨n, o, none⟩ = w.cell? ⟨n, o, none⟩) ∧ (∀ o, w'.frozen? ⟨n, o, none⟩ = w.frozen? ⟨n, o, none⟩) ∧ n < w'.heap.size :=
  ⟨fun _ => World.cell?_of_block (w := w) (hg.block n hn (Ne.symm hne)), fun _ => World.frozen?_of_block (w := w) (hg.block n hn (Ne.symm hne)), Nat.lt_of_lt_of_le hn hg.size⟩
end Go.Proofs.Ytldlfailmmmdmaa
