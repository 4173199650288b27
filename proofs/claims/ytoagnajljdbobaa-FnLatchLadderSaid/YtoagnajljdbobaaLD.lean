/- Contracts of the draws of chapter 4. -/
import Derived.Test.YtoagnajljdbobaaP
namespace Go.Proofs.Ytoagnajljdbobaa
open Go.RowKit
attribute [local go_sem ↓] Go.wp_at_zero Go.wp_at_succ

theorem BytesR.formD {w : World} {B : Nat} {v : Value} {l : List Int} (h : BytesR w B v l) : ∃ A n c, v = .slice A n c := by
  obtain ⟨A, c, rfl, -⟩ := h; exact ⟨A, _, c, rfl⟩
def DrawBB (w : World) (e : Ending) (w' : World) : Prop := ∃ a b : Bool, e = .returned (.tuple #[.bool a, .bool b]) ∧ Below w.heap.size w w'
def DrawB3 (w : World) (e : Ending) (w' : World) : Prop := ∃ a b c : Bool, e = .returned (.tuple #[.bool a, .bool b, .bool c]) ∧ Below w.heap.size w w'
theorem drawSetDominant_any (v : Value) (l : List Int) (w : World) (h : BytesR w w.heap.size v l) :
    Calls Try.prog 74 #[v] w (DrawB3 w) := by
  have HO := Lib.hid (l20Open_any v l w h)
  obtain ⟨A, n0, c, rfl⟩ := h.formD
  clear h
  go_enter Try.func74, Try.ntmps74
  go_wp2_with fail
  refine HO.out.mono ?_
  rintro e w1 ⟨rfl, hR1, hb1⟩
  have hF1 : Fr w.heap.size w.heap.size w w1 := Fr.of_below _ hb1
  clear HO hb1
  go_wp2_with fail
  refine (pick_any _ 0 2 _ hR1 (by omega) (by omega)).mono ?_
  rintro e w2 ⟨r2, rfl, hr2, hR2, hF2⟩
  replace hF2 := hF1.trans (hF2.mono hF1.size)
  clear hR1 hF1
  go_wp2_with fail
  refine (pick_any _ 1 2 _ hR2 (by omega) (by omega)).mono ?_
  rintro e w3 ⟨r3, rfl, hr3, hR3, hF3⟩
  replace hF3 := hF2.trans (hF3.mono hF2.size)
  clear hR2 hF2
  go_wp2_with fail
  refine (pick_any _ 2 2 _ hR3 (by omega) (by omega)).mono ?_
  rintro e w4 ⟨r4, rfl, hr4, hR4, hF4⟩
  replace hF4 := hF3.trans (hF4.mono hF3.size)
  clear hR3 hF3
  go_wp2
  exact bodyPost_ret (v := .tuple #[.bool (r2 == 0), .bool (r3 == 0), .bool (r4 == 0)]) (by simp [results, Try.results74, go_sem, *]) rfl ⟨_, _, _, rfl, hF4.below (Nat.le_refl _)⟩
def SigPost (g P : Nat) (w : World) (e : Ending) (w' : World) : Prop := ∃ v l, e = .returned v ∧ OwnB w' w.heap.size v l ∧ l.length ≤ 201 ∧ Rdr w' g (P + 405) ∧ Fr w.heap.size g w w'
def DrawBS (w : World) (e : Ending) (w' : World) : Prop := ∃ a A c l, e = .returned (.tuple #[.bool a, .slice A l.length c]) ∧ OwnB w' w.heap.size (.slice A l.length c) l ∧ l.length ≤ 201 ∧ Below w.heap.size w w'
end Go.Proofs.Ytoagnajljdbobaa
