/- Contracts of chapter 1: words written by the program; bits and words written by the specification. -/
import Derived.Test.YtoagnajljdbobabG
import Derived.Test.YtoagnajljdbobabE
namespace Go.Proofs.Ytoagnajljdbobab
open Go.RowKit
attribute [local go_sem ↓] Go.wp_at_zero Go.wp_at_succ

/-- What SetBit and SetWord return. -/
def setBitM (m : Img) (n : Int) (b : Bool) : Img := if imgOK m = true then ⟨if 0 ≤ n ∧ n < m.bits.length then m.bits.set n.toNat b else m.bits, m.words⟩ else ⟨[], []⟩
def setWordM (m : Img) (n x : Int) : Img := if imgOK m = true then ⟨m.bits, setW m.words n x⟩ else ⟨[], []⟩
theorem withN_bools (l : List Bool) (n : Int) (b : Bool) (h : l.length ≤ 16) : boolsOf (withN (setTo l l.length) n b) l.length = if 0 ≤ n ∧ n < l.length then l.set n.toNat b else l := by
  unfold withN
  by_cases h1 : 0 ≤ n ∧ n < 16
  · rw [if_pos h1, boolsOf_bset l h n.toNat b (by omega)]
    by_cases h2 : n < l.length
    · rw [if_pos ⟨h1.1, h2⟩]
    · rw [if_neg (by omega), List.set_eq_of_length_le (by omega)]
  · rw [if_neg h1, if_neg (by omega), boolsOf_setTo l h]
theorem imgOK_len {m : Img} (h : imgOK m = true) : m.bits.length ≤ 16 ∧ m.words.length ≤ 8 := by
  simp [imgOK] at h; omega
end Go.Proofs.Ytoagnajljdbobab
