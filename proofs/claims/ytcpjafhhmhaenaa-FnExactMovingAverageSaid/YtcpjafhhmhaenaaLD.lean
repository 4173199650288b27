/- Contracts of the draws of chapter 4. -/
import Derived.Test.YtcpjafhhmhaenaaP
namespace Go.Proofs.Ytcpjafhhmhaenaa
open Go.RowKit
attribute [local go_sem ↓] Go.wp_at_zero Go.wp_at_succ

theorem BytesR.formD {w : World} {B : Nat} {v : Value} {l : List Int} (h : BytesR w B v l) : ∃ A n c, v = .slice A n c := by
  obtain ⟨A, c, rfl, -⟩ := h; exact ⟨A, _, c, rfl⟩
def DrawBB (w : World) (e : Ending) (w' : World) : Prop := ∃ a b : Bool, e = .returned (.tuple #[.bool a, .bool b]) ∧ Below w.heap.size w w'
def DrawB3 (w : World) (e : Ending) (w' : World) : Prop := ∃ a b c : Bool, e = .returned (.tuple #[.bool a, .bool b, .bool c]) ∧ Below w.heap.size w w'
def SigPost (g P : Nat) (w : World) (e : Ending) (w' : World) : Prop := ∃ v l, e = .returned v ∧ OwnB w' w.heap.size v l ∧ l.length ≤ 201 ∧ Rdr w' g (P + 405) ∧ Fr w.heap.size g w w'
def DrawBS (w : World) (e : Ending) (w' : World) : Prop := ∃ a A c l, e = .returned (.tuple #[.bool a, .slice A l.length c]) ∧ OwnB w' w.heap.size (.slice A l.length c) l ∧ l.length ≤ 201 ∧ Below w.heap.size w w'
end Go.Proofs.Ytcpjafhhmhaenaa
