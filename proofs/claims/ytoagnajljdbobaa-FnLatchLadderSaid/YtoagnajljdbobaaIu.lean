/- Used bits, evaluation: the program's functions. -/
import Derived.Test.YtoagnajljdbobaaIr
namespace Go.Proofs.Ytoagnajljdbobaa
open Go.RowKit
attribute [local go_sem ↓] Go.wp_at_zero Go.wp_at_succ

def useStep (s : Nat) (x : Nd) : Nat := if x.op = 1 then withN s x.bit true else s
def usedS (l : List Nd) : Nat := l.foldl useStep 0
theorem useStep_lt (s : Nat) (x : Nd) (h : s < 65536) : useStep s x < 65536 := by
  unfold useStep; split
  · exact withN_lt _ _ _ h
  · exact h
theorem usedS_lt (l : List Nd) : usedS l < 65536 := by
  unfold usedS
  suffices all : ∀ (l : List Nd) (s : Nat), s < 65536 → l.foldl useStep s < 65536 from all l 0 (by omega)
  intro l
  induction l with
  | nil => exact fun s h => h
  | cons x l ih => exact fun s h => ih _ (useStep_lt s x h)
theorem usedS_take (l : List Nd) (k : Nat) (h : k < l.length) : usedS (l.take (k + 1)) = useStep (usedS (l.take k)) l[k] := by
  unfold usedS; rw [take_snocN l k h, List.foldl_append]; rfl
def isBit (n : Int) (x : Nd) : Bool := decide (x.op = 1) && decide (x.bit = n)
theorem usedS_bit (l : List Nd) (n : Nat) (hn : n < 16) : (usedS l).testBit n = l.any (isBit n) := by
  unfold usedS
  suffices all : ∀ (l : List Nd) (s : Nat), s < 65536 → (l.foldl useStep s).testBit n = (s.testBit n || l.any (isBit n)) by
    rw [all l 0 (by omega)]; simp
  intro l
  induction l with
  | nil => intro s _; simp
  | cons x l ih =>
    intro s hs
    rw [List.foldl_cons, ih _ (useStep_lt s x hs), List.any_cons, ← Bool.or_assoc]
    congr 1
    unfold useStep isBit withN
    by_cases h1 : x.op = 1
    · simp only [h1, if_true, decide_true, Bool.true_and]
      split
      · rename_i hb
        rw [testBit_bset s _ n true hs (by omega)]
        by_cases e : n = x.bit.toNat
        · rw [if_pos e, decide_eq_true (by omega)]; simp
        · rw [if_neg e, decide_eq_false (by omega)]; simp
      · rw [decide_eq_false (by omega)]; simp
    · simp [h1]
set_option maxHeartbeats 400000 in
theorem usedSet_any (v : Value) (l : List Nd) (w : World) (h : NodesR w w.heap.size v l) :
    Calls Try.prog 115 #[v] w fun e w' => e = .returned (.int .u16 (usedS l)) ∧ Below w.heap.size w w' := by
  obtain ⟨A, c, rfl, hr, hl, hf⟩ := h
  go_enter Try.func115, Try.ntmps115
  go_wp2
  go_loopw [3, 8] (fun s i wr => ∃ k : Nat, k ≤ l.length ∧ i = .int .i64 k ∧ s = .int .u16 (usedS (l.take k)) ∧ Below w.heap.size w wr) (fun _ i _ => l.length - (intOf i).toNat)
  case atStart => exact ⟨0, by omega, rfl, rfl, Below.refl _ _⟩
  case round =>
    obtain ⟨k, hk, rfl, rfl, hbr⟩ := hrel
    have hsz := hbr.size
    by_cases hlt : k < l.length
    · obtain ⟨p, rfl, hpb, hc1, hc2⟩ := hr.two hlt
      have hst := usedS_take l k hlt
      obtain ⟨x, hx⟩ : ∃ x, x = l[k] := ⟨_, rfl⟩
      rw [← hx] at hc1 hc2 hst
      clear hx
      obtain ⟨op, bit⟩ := x
      have g1 := (hbr.cell (p := p.add (k * 2)) (by rw [add_block]; exact hpb)).trans hc1
      have g2 := (hbr.cell (p := ⟨(p.add (k * 2)).block, (p.add (k * 2)).off + 1, none⟩) (by show (p.add (k * 2)).block < _; rw [add_block]; exact hpb)).trans hc2
      have HS := Lib.hid hst
      have hlt16 := usedS_lt (l.take k)
      obtain ⟨s, hs⟩ : ∃ s, s = usedS (l.take k) := ⟨_, rfl⟩
      rw [← hs] at hlt16 ⊢
      have Hs := Lib.hid hs
      clear hc1 hc2 hst hr hf hs
      by_cases h1 : op = 1
      · subst h1
        go_wp2_with (go_at_call 85; refine (with_any _ _ _ _ hlt16).mono ?_; rintro e w' ⟨rfl, rfl⟩)
        go_roundw
        case rel => exact ⟨k + 1, by omega, by go_num, by rw [HS.out, ← Hs.out]; rfl, hbr.alloc (by omega) _⟩
        case measure => simp [intOf]; omega
      · have e1 : (op == 1) = false := by simpa using h1
        have H1 := Lib.hid h1
        clear h1
        go_wp2
        go_roundw
        case rel => exact ⟨k + 1, by omega, by go_num, by rw [HS.out, ← Hs.out]; unfold useStep; rw [if_neg H1.out], hbr.alloc (by omega) _⟩
        case measure => simp [intOf]; omega
    · go_wp2
      go_ret
      obtain rfl : k = l.length := by omega
      exact ⟨by rw [List.take_length]; rfl, hbr⟩
def usedL (l : List Nd) : List Int := numsTo (usedS l) 16
def OwnIP (l : List Int) (w : World) (e : Ending) (w' : World) : Prop := ∃ v, e = .returned v ∧ OwnI w' w.heap.size v l ∧ Below w.heap.size w w'
theorem iUsedBits_any (v : Value) (l : List Nd) (w : World) (h : NodesR w w.heap.size v l) :
    Calls Try.prog 65 #[v] w (OwnIP (usedL l) w) := by
  have HS := Lib.hid (usedS_lt l)
  go_enter Try.func65, Try.ntmps65
  go_wp2_with fail
  refine (usedSet_any v l _ h).mono ?_
  rintro e w1 ⟨rfl, hb1⟩
  go_wp2_with fail
  refine (numbers_any (usedS l) _ HS.out).mono ?_
  rintro e w2 ⟨v2, rfl, hO, hb2⟩
  go_wp2
  go_ret
  exact ⟨_, rfl, mono_own hO hb1.size, hb1.trans (hb2.mono hb1.size)⟩

def evI (m : Img) (l : List Nd) : Bool := imgOK m && (lvalid l m.bits.length && evb l fun k => m.bits.getD k.toNat false)
def EvIP (b : Bool) (w : World) (e : Ending) (w' : World) : Prop := e = .returned (.bool b) ∧ Below w.heap.size w w'
end Go.Proofs.Ytoagnajljdbobaa
