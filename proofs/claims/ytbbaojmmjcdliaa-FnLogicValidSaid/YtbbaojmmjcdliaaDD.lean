/- Contracts of the draws of chapter 2. -/
import Derived.Test.YtbbaojmmjcdliaaDB
namespace Go.Proofs.Ytbbaojmmjcdliaa
open Go.RowKit
attribute [local go_sem ↓] Go.wp_at_zero Go.wp_at_succ

theorem BytesR.form {w : World} {B : Nat} {v : Value} {l : List Int} (h : BytesR w B v l) : ∃ A n c, v = .slice A n c := by
  obtain ⟨A, c, rfl, -⟩ := h; exact ⟨A, _, c, rfl⟩
def DrawNP (lo hi : Int) (w : World) (e : Ending) (w' : World) : Prop := ∃ v l n, e = .returned (.tuple #[v, .int .i64 n]) ∧ OwnS w' w.heap.size v l ∧ l.length ≤ 44 ∧ (∀ x ∈ l, smN x) ∧ (lo ≤ n ∧ n ≤ hi) ∧ Below w.heap.size w w'
def DrawNN (w : World) (e : Ending) (w' : World) : Prop := ∃ v l, e = .returned v ∧ OwnS w' w.heap.size v l ∧ l.length ≤ 44 ∧ (∀ x ∈ l, smN x) ∧ Below w.heap.size w w'
set_option maxHeartbeats 400000 in
theorem drawLogicValid_any (v : Value) (l : List Int) (w : World) (h : BytesR w w.heap.size v l) :
    Calls Try.prog 7 #[v] w (DrawNP 0 6 w) := by
  have HO := Lib.hid (l20Open_any v l w h)
  obtain ⟨A, n0, c, rfl⟩ := h.form
  clear h
  go_enter Try.func7, Try.ntmps7
  go_wp2_with fail
  refine HO.out.mono ?_
  rintro e w1 ⟨rfl, hR1, hb1⟩
  have hF1 : Fr w.heap.size w.heap.size w w1 := Fr.of_below _ hb1
  have hs1 := hR1.lt
  clear HO hb1
  go_wp2_with fail
  refine (pick_any _ 0 7 _ hR1 (by omega) (by omega)).mono ?_
  rintro e w2 ⟨r2, rfl, hr2, hR2, hF2⟩
  replace hF2 := hF1.trans (hF2.mono hF1.size)
  clear hR1 hF1
  obtain ⟨n, rfl⟩ : ∃ n : Nat, r2 = n := ⟨r2.toNat, by omega⟩
  go_wp2_with fail
  refine (expr_any _ 1 n 2 _ hR2 (by omega) (by omega) (by omega) (by omega)).mono ?_
  rintro e w3 ⟨V, L, rfl, hO, hL, hsm, hR3, hF3⟩
  replace hO := hO.mono (b' := w.heap.size + 1) (by have := hR2.lt; omega)
  replace hF3 := hF2.trans (hF3.mono hF2.size)
  clear hR2 hF2

  obtain ⟨B, off, cap, rfl, -, -, -⟩ := hO.form
  go_wp2
  exact bodyPost_ret (v := .tuple #[.slice (some ⟨B, off, none⟩) L.length cap, .int .i64 n]) (by simp [results, Try.results7, go_sem, *]) rfl ⟨_, L, n, rfl, hO.mono (by omega), by omega, hsm, by omega, hF3.below (Nat.le_refl _)⟩
def DrawDP (w : World) (e : Ending) (w' : World) : Prop := ∃ v l n b, e = .returned (.tuple #[v, .int .i64 n, .int .i64 b]) ∧ OwnS w' w.heap.size v l ∧ l.length ≤ 44 ∧ (∀ x ∈ l, smN x) ∧ (1 ≤ n ∧ n ≤ 4) ∧ (-1 ≤ b ∧ b ≤ 6) ∧ Below w.heap.size w w'
end Go.Proofs.Ytbbaojmmjcdliaa
