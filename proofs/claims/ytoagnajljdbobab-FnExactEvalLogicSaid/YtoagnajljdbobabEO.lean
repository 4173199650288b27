/- What the exact laws of chapter 2 keep: lists of elements, numbers, truth values of the call's own; the argument. -/
import Derived.Test.YtoagnajljdbobabEN
import Derived.Test.YtoagnajljdbobabIu
import Derived.Test.YtoagnajljdbobabW
namespace Go.Proofs.Ytoagnajljdbobab
open Go.RowKit
attribute [local go_sem ↓] Go.wp_at_zero Go.wp_at_succ

/-- What the law began with is as it was. -/
def HB2 (W w : World) : Prop := Below W.heap.size W w
theorem HB2.below {W w w' : World} (h : HB2 W w) (hb : Below w.heap.size w w') : HB2 W w' := Below.trans h (hb.mono (Below.size h))
theorem HB2.out {W w w' : World} {lo hi : Nat} (h : HB2 W w) (ho : Out lo hi w w') (hw : W.heap.size ≤ lo) : HB2 W w' := Below.trans h (ho.below hw (Below.size h))
theorem HB2.lt {W w : World} (h : HB2 W w) : W.heap.size ≤ w.heap.size := Below.size h
/-- A list of the call's own, in a block of [lo, hi): elements of type e, sz cells each. -/
structure XO (w : World) (lo hi e sz : Nat) (v : Value) (n : Nat) (xs : List Value) : Prop where
  own : OwnX w lo hi e sz v n xs
  le : hi ≤ w.heap.size
section
variable {w w' : World} {lo hi lo2 hi2 e sz n : Nat} {v : Value} {xs : List Value}
theorem XO.of (h : w.ownsRow lo e sz v n xs) : XO w lo w.heap.size e sz v n xs := ⟨OwnX.of h, Nat.le_refl _⟩
theorem XO.below (h : XO w lo hi e sz v n xs) (hb : Below w.heap.size w w') : XO w' lo hi e sz v n xs := ⟨h.own.below hb, Nat.le_trans h.le hb.size⟩
theorem XO.out (h : XO w lo hi e sz v n xs) (ho : Out lo2 hi2 w w') (hd : hi ≤ lo2 ∨ hi2 ≤ lo) : XO w' lo hi e sz v n xs := ⟨h.own.out ho hd, Nat.le_trans h.le ho.size⟩
theorem XO.marked {ys : List Value} (h : XO w lo hi e sz v n xs) (ho : Out lo hi w w') (hm : OwnX w' lo hi e sz v n ys) : XO w' lo hi e sz v n ys := ⟨hm, Nat.le_trans h.le ho.size⟩
theorem XO.lt (h : XO w lo hi e sz v n xs) : hi ≤ w.heap.size := h.le
end
abbrev XN (w : World) (lo hi : Nat) (v : Value) (l : List Nd) : Prop := XO w lo hi 45 2 v l.length (cellsN l)
abbrev XI (w : World) (lo hi : Nat) (v : Value) (l : List Int) : Prop := XO w lo hi 3 1 v l.length (l.map (.int .i64))
abbrev XB (w : World) (lo hi : Nat) (v : Value) (l : List Bool) : Prop := XO w lo hi 4 1 v l.length (l.map .bool)
theorem XN.read {w : World} {lo hi : Nat} {v : Value} {l : List Nd} (h : XN w lo hi v l) (hl : l.length ≤ 1048580) (hf : ∀ x ∈ l, ndFit x) : NodesR w w.heap.size v l := OwnN.read h.own.1 (by omega) hf
theorem XI.read {w : World} {lo hi : Nat} {v : Value} {l : List Int} (h : XI w lo hi v l) (hl : l.length ≤ 1048580) (hf : ∀ x ∈ l, -9223372036854775808 ≤ x ∧ x ≤ 9223372036854775807) : IntsR w w.heap.size v l := OwnI.read h.own.1 (by omega) hf
theorem XB.read {w : World} {lo hi : Nat} {v : Value} {l : List Bool} (h : XB w lo hi v l) (hl : l.length ≤ 1048580) : BoolsR w w.heap.size v l := OwnB.read h.own.1 (by omega)
theorem szN_in (A : Option Addr) (n c : Nat) (left : Int) (w : World) (h1 : n ≤ left ∧ left ≤ 1048576) :
    Calls Try.prog 5 #[.slice A n c, .int .i64 left] w fun e w' => e = .returned (.int .i64 (left - n)) ∧ w = w' :=
  (szNodeS_any A n c left w (by omega) (by omega)).mono fun _ _ ⟨he, hw⟩ => ⟨by rw [he]; unfold szL; rw [if_neg (by omega)], hw⟩
theorem szN_over (A : Option Addr) (n c : Nat) (left : Int) (w : World) (hn : n ≤ 9223372036854775807) (h1 : left < n ∧ 0 ≤ left ∧ left ≤ 1048576) :
    Calls Try.prog 5 #[.slice A n c, .int .i64 left] w fun e w' => e = .returned (.int .i64 (-1)) ∧ w = w' :=
  (szNodeS_any A n c left w hn (by omega)).mono fun _ _ ⟨he, hw⟩ => ⟨by rw [he]; unfold szL; rw [if_pos (by omega)], hw⟩
def XNP (l : List Nd) (w : World) (e : Ending) (w' : World) : Prop := ∃ A c, e = .returned (.slice A l.length c) ∧ XN w' w.heap.size w'.heap.size (.slice A l.length c) l
def XIP (l : List Int) (w : World) (e : Ending) (w' : World) : Prop := ∃ A c, e = .returned (.slice A l.length c) ∧ XI w' w.heap.size w'.heap.size (.slice A l.length c) l
def XBP (l : List Bool) (w : World) (e : Ending) (w' : World) : Prop := ∃ A c, e = .returned (.slice A l.length c) ∧ XB w' w.heap.size w'.heap.size (.slice A l.length c) l
theorem xnp {w : World} {l : List Nd} {f : FuncId} {args : Array Value} (h : Calls Try.prog f args w (OwnNP l w)) : Calls Try.prog f args w fun e w' => XNP l w e w' ∧ Below w.heap.size w w' :=
  h.mono fun _ _ ⟨v', he, ho, hb⟩ => by
    obtain ⟨A, c, rfl, -, -⟩ := own_form ho
    exact ⟨⟨A, c, he, XO.of ho⟩, hb⟩
theorem xip {w : World} {l : List Int} {f : FuncId} {args : Array Value} (h : Calls Try.prog f args w (OwnIP l w)) : Calls Try.prog f args w fun e w' => XIP l w e w' ∧ Below w.heap.size w w' :=
  h.mono fun _ _ ⟨v', he, ho, hb⟩ => by
    obtain ⟨A, c, rfl, -, -⟩ := own_form ho
    exact ⟨⟨A, c, he, XO.of ho⟩, hb⟩
theorem xbp {w : World} {l : List Bool} {f : FuncId} {args : Array Value} (h : Calls Try.prog f args w (OwnBP l w)) : Calls Try.prog f args w fun e w' => XBP l w e w' ∧ Below w.heap.size w w' :=
  h.mono fun _ _ ⟨v', he, ho, hb⟩ => by
    obtain ⟨A, c, rfl, -, -⟩ := own_form ho
    exact ⟨⟨A, c, he, XO.of ho⟩, hb⟩
theorem eqN_same (v1 v2 : Value) (a : List Nd) (w : World) (h1 : NodesR w w.heap.size v1 a) (h2 : NodesR w w.heap.size v2 a) :
    Calls Try.prog 11 #[v1, v2] w fun e w' => e = .returned (.bool true) ∧ Below w.heap.size w w' :=
  (eqNodeS_any v1 v2 a a w h1 h2).mono fun _ _ ⟨he, hb⟩ => ⟨by rw [he]; simp [sameL], hb⟩
theorem eqI_same (v1 v2 : Value) (a : List Int) (w : World) (h1 : IntsR w w.heap.size v1 a) (h2 : IntsR w w.heap.size v2 a) :
    Calls Try.prog 25 #[v1, v2] w fun e w' => e = .returned (.bool true) ∧ Below w.heap.size w w' :=
  (eqIntS_any v1 v2 a a w h1 h2).mono fun _ _ ⟨he, hb⟩ => ⟨by rw [he]; simp [sameL], hb⟩
theorem eqB_same (v1 v2 : Value) (a : List Bool) (w : World) (h1 : BoolsR w w.heap.size v1 a) (h2 : BoolsR w w.heap.size v2 a) :
    Calls Try.prog 24 #[v1, v2] w fun e w' => e = .returned (.bool true) ∧ Below w.heap.size w w' :=
  (eqBoolS_any v1 v2 a a w h1 h2).mono fun _ _ ⟨he, hb⟩ => ⟨by rw [he]; simp [sameL], hb⟩
theorem markI_in {n : Nat} (hn : n ≤ 1048580) : ∀ x ∈ markI n 1, -9223372036854775808 ≤ x ∧ x ≤ 9223372036854775807 := by
  intro x hx
  simp only [markI, List.mem_map, List.mem_range] at hx
  obtain ⟨i, hi, rfl⟩ := hx
  omega
theorem markN_in {n : Nat} (hn : n ≤ 1048580) : ∀ x ∈ markN n 1, ndFit x := by
  intro x hx
  simp only [markN, List.mem_map, List.mem_range] at hx
  obtain ⟨i, hi, rfl⟩ := hx
  unfold ndFit
  simp only
  omega
end Go.Proofs.Ytoagnajljdbobab
