/- The contract of a drawn expression: l20Logic. -/
import Derived.Test.YthebkamggkfnlaaR
import Derived.Test.YthebkamggkfnlaaIr
import Derived.Deep.AppendLies
namespace Go.Proofs.Ythebkamggkfnlaa
open Go.RowKit
attribute [local go_sem ↓] Go.wp_at_zero Go.wp_at_succ

/-- An element that is drawn: small numbers. -/
def smN (x : Nd) : Prop := (-2000 ≤ x.op ∧ x.op ≤ 2000) ∧ (-2000 ≤ x.bit ∧ x.bit ≤ 2000)
theorem smN.fit {x : Nd} (h : smN x) : ndFit x := by unfold smN at h; unfold ndFit; omega
theorem own_litN {base : Nat} {W : World} (op bit : Int) (h : base ≤ W.heap.size) : OwnN (W.alloc (.cells #[.int .i64 op, .int .i64 bit] 43)) base (.slice (some ⟨W.heap.size, 0, none⟩) 1 1) [⟨op, bit⟩] := by
  have := World.ownsRow_lit (e := 43) (size := 2) W #[.int .i64 op, .int .i64 bit] 1 h (by simp [maxLen]) (by simp)
  unfold OwnN
  simpa [cellsN] using this
theorem sm_add {l : List Nd} {x : Nd} (h : ∀ y ∈ l, smN y) (hx : smN x) : ∀ y ∈ l ++ [x], smN y := by
  intro y hy
  rcases List.mem_append.1 hy with h' | h'
  · exact h y h'
  · obtain rfl := List.mem_singleton.1 h'; exact hx
def LogicPost (g P many : Nat) (w : World) (e : Ending) (w' : World) : Prop :=
  ∃ v l, e = .returned v ∧ OwnN w' w.heap.size v l ∧ (1 ≤ l.length ∧ l.length + 2 ≤ 4 * many) ∧ (∀ x ∈ l, smN x) ∧ Rdr w' g (P + 8 * many - 4) ∧ Fr w.heap.size g w w'
theorem smN_app {l l2 : List Nd} (h : ∀ y ∈ l, smN y) (h2 : ∀ y ∈ l2, smN y) : ∀ y ∈ l ++ l2, smN y := by
  intro y hy
  rcases List.mem_append.1 hy with h' | h'
  · exact h y h'
  · exact h2 y h'
end Go.Proofs.Ythebkamggkfnlaa
