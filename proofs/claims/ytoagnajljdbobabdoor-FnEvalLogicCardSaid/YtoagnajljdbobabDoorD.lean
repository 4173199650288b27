/- Contracts of chapter 1: images compared, written, made; the program's functions and the specification's. -/
import Derived.Test.YtoagnajljdbobabDoorS
namespace Go.Proofs.YtoagnajljdbobabDoor
open Go.RowKit
attribute [local go_sem ↓] Go.wp_at_zero Go.wp_at_succ

theorem IntsR.form {w : World} {B : Nat} {v : Value} {l : List Int} (h : IntsR w B v l) : ∃ A c, v = .slice A l.length c := by obtain ⟨A, c, e, _⟩ := h; exact ⟨A, c, e⟩
theorem BoolsR.form {w : World} {B : Nat} {v : Value} {l : List Bool} (h : BoolsR w B v l) : ∃ A c, v = .slice A l.length c := by obtain ⟨A, c, e, _⟩ := h; exact ⟨A, c, e⟩
def sameM (a b : Img) : Bool := sameL a.bits b.bits && sameL a.words b.words
theorem sameM_iff (a b : Img) : sameM a b = true ↔ a = b := by
  cases a; cases b; simp [sameM, sameL]
theorem sameM_refl (a : Img) : sameM a a = true := (sameM_iff a a).2 rfl
def getB (l : List Bool) (n : Int) : Bool := if 0 ≤ n ∧ n < l.length then l.getD n.toNat false else false
def getW (l : List Int) (n : Int) : Int := if 0 ≤ n ∧ n < l.length then l.getD n.toNat 0 else 0
end Go.Proofs.YtoagnajljdbobabDoor
