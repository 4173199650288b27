/- Contracts of chapter 1: images compared, written, made; the program's functions and the specification's. -/
import Derived.Test.YtoagnajljdbobabS
namespace Go.Proofs.Ytoagnajljdbobab
open Go.RowKit
attribute [local go_sem ↓] Go.wp_at_zero Go.wp_at_succ

theorem IntsR.form {w : World} {B : Nat} {v : Value} {l : List Int} (h : IntsR w B v l) : ∃ A c, v = .slice A l.length c := by obtain ⟨A, c, e, _⟩ := h; exact ⟨A, c, e⟩
theorem BoolsR.form {w : World} {B : Nat} {v : Value} {l : List Bool} (h : BoolsR w B v l) : ∃ A c, v = .slice A l.length c := by obtain ⟨A, c, e, _⟩ := h; exact ⟨A, c, e⟩
def sameM (a b : Img) : Bool := sameL a.bits b.bits && sameL a.words b.words
theorem sameM_iff (a b : Img) : sameM a b = true ↔ a = b := by
  cases a; cases b; simp [sameM, sameL]
theorem sameM_refl (a : Img) : sameM a a = true := (sameM_iff a a).2 rfl
theorem eqImage_any (v1 v2 : Value) (a b : Img) (w : World) (h1 : ImgR w w.heap.size v1 a) (h2 : ImgR w w.heap.size v2 b) :
    Calls Try.prog 10 #[v1, v2] w fun e w' => e = .returned (.bool (sameM a b)) ∧ Below w.heap.size w w' := by
  obtain ⟨x1, x2, rfl, hx1, hx2⟩ := h1
  obtain ⟨y1, y2, rfl, hy1, hy2⟩ := h2
  obtain ⟨A1, c1, e1⟩ := hx1.form
  obtain ⟨A2, c2, e2⟩ := hx2.form
  obtain ⟨A3, c3, e3⟩ := hy1.form
  obtain ⟨A4, c4, e4⟩ := hy2.form
  subst e1; subst e2; subst e3; subst e4
  have B0 : ∀ o p, Below w.heap.size w ((w.alloc o).alloc p) := fun o p => (((Below.refl _ _).alloc (Nat.le_refl _) _).alloc (by simp) _)
  have f1 : ∀ w1, Below w.heap.size w w1 → BoolsR w1 w1.heap.size _ a.bits := fun w1 h => hx1.below h
  have f2 : ∀ w1, Below w.heap.size w w1 → IntsR w1 w1.heap.size _ a.words := fun w1 h => hx2.below h
  have f3 : ∀ w1, Below w.heap.size w w1 → BoolsR w1 w1.heap.size _ b.bits := fun w1 h => hy1.below h
  have f4 : ∀ w1, Below w.heap.size w w1 → IntsR w1 w1.heap.size _ b.words := fun w1 h => hy2.below h
  clear hx1 hx2 hy1 hy2
  cases hs : sameL a.bits b.bits
  all_goals
    have Hs := Lib.hid hs
    go_enter Try.func10, Try.ntmps10
    go_wp2_with fail
    refine (eqBoolS_any _ _ _ _ _ (f1 _ (B0 _ _)) (f3 _ (B0 _ _))).mono ?_
    rintro e w1 ⟨rfl, hb1⟩
    have B1 : Below w.heap.size w w1 := (B0 _ _).trans (hb1.mono (by simp; omega))
    obtain ⟨k0, k1, k2⟩ := kept hb1 w.heap.size (by simp; omega)
    obtain ⟨k3, k4, k5⟩ := kept hb1 (w.heap.size + 1) (by simp)
  · go_wp2
    go_ret
    exact ⟨ret_bool (by unfold sameM; rw [Hs.out]; rfl), B1⟩
  · go_wp2_with fail
    refine (eqIntS_any _ _ _ _ _ (f2 _ B1) (f4 _ B1)).mono ?_
    rintro e w2 ⟨rfl, hb2⟩
    cases hs2 : sameL a.words b.words
    all_goals
      have Hs2 := Lib.hid hs2
      go_wp2
      go_ret
      exact ⟨ret_bool (by unfold sameM; rw [Hs.out, Hs2.out]; rfl), B1.trans (hb2.mono B1.size)⟩

def getB (l : List Bool) (n : Int) : Bool := if 0 ≤ n ∧ n < l.length then l.getD n.toNat false else false
def getW (l : List Int) (n : Int) : Int := if 0 ≤ n ∧ n < l.length then l.getD n.toNat 0 else 0
end Go.Proofs.Ytoagnajljdbobab
