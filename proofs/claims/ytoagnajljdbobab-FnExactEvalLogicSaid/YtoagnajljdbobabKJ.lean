/- The program's head line: what its first three words say. -/
import Derived.Test.YtoagnajljdbobabRows
import Derived.WalkKit
import Derived.JoinedOf
import Derived.KernelRfl
namespace Go.Proofs.Ytoagnajljdbobab
open Go

def sp : Char := Char.ofNat 32
theorem words_cons (a r : List Char) (h : ∀ c ∈ a, c ≠ sp) : wordsSigns (a ++ sp :: r) = a :: wordsSigns r := by
  induction a with
  | nil => rfl
  | cons c a ih =>
    have hc : c ≠ sp := h c List.mem_cons_self
    rw [List.cons_append, wordsSigns, ih fun x hx => h x (List.mem_cons_of_mem _ hx)]
    exact hc
def chs (l : List Nat) : List Char := l.map Char.ofNat
def hd1 : List Nat := [104, 97, 114, 110, 101, 115, 115]
def hd2 : List Nat := [57, 49, 53, 50, 52, 51, 97, 49, 97, 97, 54, 56, 53, 97, 50, 48, 52, 49, 97, 56, 57, 55, 99, 102, 57, 102, 97, 51, 51, 49, 98, 49, 54, 54, 51, 57, 56, 102, 102, 54, 100, 102, 51, 49, 51, 101, 101, 48, 53, 52, 101, 101, 48, 57, 51, 54, 56, 48, 98, 53, 53, 55, 54, 54]
def hd3 : List Nat := [99, 117, 116]
def hdR : List Nat := [97, 116, 32, 108, 111, 111, 112, 46, 101, 120, 97, 109, 112, 108, 101, 47, 112, 108, 99, 114, 117, 110, 116, 105, 109, 101, 47, 108, 97, 119, 115, 46, 70, 110, 69, 120, 97, 99, 116, 69, 118, 97, 108, 76, 111, 103, 105, 99]
set_option maxRecDepth 100000 in
theorem head_line : Try.prog.initOrder = String.ofList (chs (hd1 ++ 32 :: (hd2 ++ 32 :: (hd3 ++ 32 :: hdR)))) := by kernel_rfl
theorem chs_app (a b : List Nat) : chs (a ++ 32 :: b) = chs a ++ sp :: chs b := by unfold chs; rw [List.map_append]; rfl
theorem no_sp (l : List Nat) (h : (l.all fun n => decide (Char.ofNat n ≠ sp)) = true) : ∀ c ∈ chs l, c ≠ sp := by
  intro c hc
  obtain ⟨n, hn, rfl⟩ := List.mem_map.1 hc
  simpa using List.all_eq_true.1 h n hn
theorem head_words : behindMainWord (wordsSigns Try.prog.initOrder.toList) = chs hd3 :: wordsSigns (chs hdR) := by
  rw [head_line, String.toList_ofList, chs_app, words_cons _ _ (no_sp hd1 (by kernel_rfl)), chs_app, words_cons _ _ (no_sp hd2 (by kernel_rfl)), chs_app, words_cons _ _ (no_sp hd3 (by kernel_rfl))]
  have h1 : (chs hd1 == "harness".toList || chs hd1 == "ownmain".toList) = true := by kernel_rfl
  have h2 : isSumSigns (chs hd2) = true := by kernel_rfl
  unfold behindMainWord
  simp only [h1, h2, Bool.and_self, if_true]
theorem w_gc : (chs hd3 == "gc".toList || chs hd3 == "spec".toList) = false := by kernel_rfl
theorem w_cut : (chs hd3 == "cut".toList) = true := by kernel_rfl
theorem w_car : (chs hd3 == "carried".toList) = false := by kernel_rfl
theorem w_strip (X : List (List Char)) : stripLifts liftWords (chs hd3 :: X) = ([], chs hd3 :: X) := by kernel_rfl
theorem w_head (X : List (List Char)) : ((chs hd3 :: X).head? == some "cut".toList) = true := by
  rw [List.head?_cons]; kernel_rfl
theorem make_of (P : Program) (c : List Char) (X : List (List Char)) (h : behindMainWord (wordsSigns P.initOrder.toList) = c :: X) (h1 : (c == "gc".toList || c == "spec".toList) = false) (h2 : (c == "cut".toList) = true) : P.make = some .cut := by
  unfold Program.make; rw [h]
  simp only [h1, h2, Bool.true_or, if_true, if_false, Bool.false_eq_true]
theorem enter_of (P : Program) (c : List Char) (X : List (List Char)) (h : behindMainWord (wordsSigns P.initOrder.toList) = c :: X) (h1 : (c == "gc".toList || c == "spec".toList) = false) (h2 : (c == "carried".toList) = false)
    (h3 : stripLifts liftWords (c :: X) = ([], c :: X)) (h4 : ((c :: X).head? == some "cut".toList) = true) (h5 : P.laysLater = false) (h6 : P.bearsReflect = false) (h7 : P.doorFits [] = true) : P.mayEnter = true := by
  unfold Program.mayEnter; rw [h]
  simp only [h1, h2, h3, h4, h5, h6, h7, Bool.false_and, Bool.false_or, Bool.not_false, Bool.or_true, List.contains_nil, Bool.and_self]
theorem fMake : Try.prog.make = some .cut := make_of Try.prog _ _ head_words w_gc w_cut
theorem fLifts : Try.prog.liftsFinal = false := by
  unfold Program.liftsFinal Program.headLifts; rw [head_words]; kernel_rfl
theorem later_no : Try.prog.laysLater = false := by kernel_rfl
theorem refl_no : Try.prog.bearsReflect = false := by kernel_rfl
theorem door_ok : Try.prog.doorFits [] = true := by kernel_rfl
theorem fEnter : Try.prog.mayEnter = true := enter_of Try.prog _ _ head_words w_gc w_car (w_strip _) (w_head _) later_no refl_no door_ok
end Go.Proofs.Ytoagnajljdbobab
