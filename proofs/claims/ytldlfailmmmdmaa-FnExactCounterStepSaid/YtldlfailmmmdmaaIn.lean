/- The program's stack machine: its execution of expressions. -/
import Derived.Test.YtldlfailmmmdmaaIm
import Derived.Deep.QuietTactic
import Derived.BigQuiet
import Derived.IntWalk
namespace Go.Proofs.Ytldlfailmmmdmaa
open Go.RowKit
attribute [local go_sem ↓] Go.wp_at_zero Go.wp_at_succ

/-- The algebra of the program's own operations. -/
def iAlg (c : Nat → Int) : Alg Int := ⟨fun k => c k.toNat, fun a => bits .xor .u64 18446744073709551615 a, fun b a => bits .and .u64 a b, fun b a => bits .or .u64 a b, fun b a => bits .xor .u64 a b, 18446744073709551615, 0⟩
theorem i_nd {n : Int} {x : Nd} {d : Nat} (h : ndOK n x d = true) : 0 ≤ need x.op ∧ need x.op ≤ (d : Int) := by
  unfold ndOK at h; simp at h; exact ⟨h.1.1, h.2⟩
theorem i_bit {n : Int} {x : Nd} {d : Nat} (h : ndOK n x d = true) (h1 : x.op = 1) : 0 ≤ x.bit ∧ x.bit < n := by
  unfold ndOK bitOK at h; simp [h1] at h; exact h.1.2
theorem i_cases {op : Int} (h : 0 ≤ need op) : op = 1 ∨ op = 2 ∨ op = 3 ∨ op = 4 ∨ op = 5 ∨ op = 6 ∨ op = 7 := by
  unfold need at h
  repeat' split at h
  all_goals omega
theorem i_one {α : Type} {st : List α} (h : 1 ≤ st.length) : ∃ a r, st = a :: r := by
  rcases st with _ | ⟨a, r⟩
  · simp at h
  · exact ⟨a, r, rfl⟩
theorem i_two {α : Type} {st : List α} (h : 2 ≤ st.length) : ∃ a b r, st = a :: b :: r := by
  rcases st with _ | ⟨a, _ | ⟨b, r⟩⟩
  · simp at h
  · simp at h
  · exact ⟨a, b, r, rfl⟩
end Go.Proofs.Ytldlfailmmmdmaa
