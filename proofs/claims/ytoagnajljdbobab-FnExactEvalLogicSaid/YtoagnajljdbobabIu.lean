/- Used bits, evaluation: the program's functions. -/
import Derived.Test.YtoagnajljdbobabIr
namespace Go.Proofs.Ytoagnajljdbobab
open Go.RowKit
attribute [local go_sem ↓] Go.wp_at_zero Go.wp_at_succ

def useStep (s : Nat) (x : Nd) : Nat := if x.op = 1 then withN s x.bit true else s
def usedS (l : List Nd) : Nat := l.foldl useStep 0
theorem useStep_lt (s : Nat) (x : Nd) (h : s < 65536) : useStep s x < 65536 := by
  unfold useStep; split
  · exact withN_lt _ _ _ h
  · exact h
theorem usedS_lt (l : List Nd) : usedS l < 65536 := by
  unfold usedS
  suffices all : ∀ (l : List Nd) (s : Nat), s < 65536 → l.foldl useStep s < 65536 from all l 0 (by omega)
  intro l
  induction l with
  | nil => exact fun s h => h
  | cons x l ih => exact fun s h => ih _ (useStep_lt s x h)
theorem usedS_take (l : List Nd) (k : Nat) (h : k < l.length) : usedS (l.take (k + 1)) = useStep (usedS (l.take k)) l[k] := by
  unfold usedS; rw [take_snocN l k h, List.foldl_append]; rfl
def isBit (n : Int) (x : Nd) : Bool := decide (x.op = 1) && decide (x.bit = n)
theorem usedS_bit (l : List Nd) (n : Nat) (hn : n < 16) : (usedS l).testBit n = l.any (isBit n) := by
  unfold usedS
  suffices all : ∀ (l : List Nd) (s : Nat), s < 65536 → (l.foldl useStep s).testBit n = (s.testBit n || l.any (isBit n)) by
    rw [all l 0 (by omega)]; simp
  intro l
  induction l with
  | nil => intro s _; simp
  | cons x l ih =>
    intro s hs
    rw [List.foldl_cons, ih _ (useStep_lt s x hs), List.any_cons, ← Bool.or_assoc]
    congr 1
    unfold useStep isBit withN
    by_cases h1 : x.op = 1
    · simp only [h1, if_true, decide_true, Bool.true_and]
      split
      · rename_i hb
        rw [testBit_bset s _ n true hs (by omega)]
        by_cases e : n = x.bit.toNat
        · rw [if_pos e, decide_eq_true (by omega)]; simp
        · rw [if_neg e, decide_eq_false (by omega)]; simp
      · rw [decide_eq_false (by omega)]; simp
    · simp [h1]
def usedL (l : List Nd) : List Int := numsTo (usedS l) 16
def OwnIP (l : List Int) (w : World) (e : Ending) (w' : World) : Prop := ∃ v, e = .returned v ∧ OwnI w' w.heap.size v l ∧ Below w.heap.size w w'
def evI (m : Img) (l : List Nd) : Bool := imgOK m && (lvalid l m.bits.length && evb l fun k => m.bits.getD k.toNat false)
def EvIP (b : Bool) (w : World) (e : Ending) (w' : World) : Prop := e = .returned (.bool b) ∧ Below w.heap.size w w'
end Go.Proofs.Ytoagnajljdbobab
