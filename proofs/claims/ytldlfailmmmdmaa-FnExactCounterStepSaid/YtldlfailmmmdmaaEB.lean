/- Contracts of the exact laws' helpers: marks in lists. -/
import Derived.Test.YtldlfailmmmdmaaEA
namespace Go.Proofs.Ytldlfailmmmdmaa
open Go.RowKit
attribute [local go_sem ↓] Go.wp_at_zero Go.wp_at_succ

def markB (n k : Nat) : List Bool := (List.range n).map fun i => (((k + i : Nat) : Int) % 3 == 0)
def markI (n k : Nat) : List Int := (List.range n).map fun i => ((k + i : Nat) : Int)
theorem markB_len (n k : Nat) : (markB n k).length = n := by simp [markB]
theorem markI_len (n k : Nat) : (markI n k).length = n := by simp [markI]
theorem gb_trans {a b c : World} {r : Option Nat} (h : a.grownBy b r) (k : b.grownBy c r) : a.grownBy c r :=
  ⟨k.os.trans h.os, k.tape.trans h.tape, k.output.trans h.output, Nat.le_trans h.size k.size, fun i hi hn => (k.block i (Nat.lt_of_lt_of_le hi h.size) hn).trans (h.block i hi hn)⟩
theorem out_of_gb {lo hi : Nat} {a b : World} {r : Option Nat} (h : a.grownBy b r) (hr : ∀ k, r = some k → lo ≤ k ∧ k < hi) : Out lo hi a b :=
  ⟨h.os, h.tape, h.output, h.size, fun k hk ho => h.block k hk (fun e => by have := hr k e.symm; omega)⟩
theorem mark_step {α : Type} (f : Nat → α) (l : List α) (i : Nat) (h : i < l.length) : (((List.range i).map f) ++ l.drop i).set i (f i) = ((List.range (i + 1)).map f) ++ l.drop (i + 1) := by
  rw [List.set_append, if_neg (by simp)]
  have e : i - ((List.range i).map f).length = 0 := by simp
  rw [e, List.drop_eq_getElem_cons h, List.set_cons_zero, List.range_succ, List.map_append, List.append_assoc]
  rfl

end Go.Proofs.Ytldlfailmmmdmaa
