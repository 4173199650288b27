/- Contracts of the draws of chapter 2. -/
import Derived.Test.YtbbaojmmjcdliaaDoorDB
namespace Go.Proofs.YtbbaojmmjcdliaaDoor
open Go.RowKit
attribute [local go_sem ↓] Go.wp_at_zero Go.wp_at_succ

theorem BytesR.form {w : World} {B : Nat} {v : Value} {l : List Int} (h : BytesR w B v l) : ∃ A n c, v = .slice A n c := by
  obtain ⟨A, c, rfl, -⟩ := h; exact ⟨A, _, c, rfl⟩
theorem OwnS.rdB {w w' : World} {base g off cap : Nat} {l : List Nd} (h : OwnS w base (.slice (some ⟨g, off, none⟩) l.length cap) l) (hb : Below w.heap.size w w') :
    Rd w' w'.heap.size 2 (some ⟨g, off, none⟩) l.length (cellsN l) := by
  obtain ⟨g1, off1, cap1, hv1, -, -, hrd⟩ := (h.below hb).form
  injection hv1 with hA _ hc
  rw [hA]
  exact hrd
theorem len_snoc (l : List Nd) (x : Nd) : (l ++ [x]).length = l.length + 1 := by simp
theorem fit_snoc {l : List Nd} (h : ∀ y ∈ l, ndFit y) (x : Nd) (hx : ndFit x) : ∀ y ∈ l ++ [x], ndFit y := by
  intro y hy
  rcases List.mem_append.1 hy with h' | h'
  · exact h y h'
  · obtain rfl := List.mem_singleton.1 h'; exact hx
theorem expr_z (g P : Nat) (z bad : Int) (w : World) (hw : Rdr w g P) (hP : P + 200 ≤ 1000000) (h0 : 0 ≤ z) (hz : z ≤ 1000) (hb1 : -1000000 ≤ bad) (hb2 : bad ≤ 1000000) :
    Calls Tryd.prog 46 #[.pointer (some ⟨g, 0, none⟩), .int .i64 z, .int .i64 bad] w (ExprPost g P w) := by
  obtain ⟨n, rfl⟩ := Int.eq_ofNat_of_zero_le h0
  exact expr_any g P n bad w hw hP (by omega) hb1 hb2
def DrawNP (lo hi : Int) (w : World) (e : Ending) (w' : World) : Prop := ∃ v l n, e = .returned (.tuple #[v, .int .i64 n]) ∧ OwnS w' w.heap.size v l ∧ l.length ≤ 44 ∧ (∀ x ∈ l, smN x) ∧ (lo ≤ n ∧ n ≤ hi) ∧ Below w.heap.size w w'
def DrawNN (w : World) (e : Ending) (w' : World) : Prop := ∃ v l, e = .returned v ∧ OwnS w' w.heap.size v l ∧ l.length ≤ 44 ∧ (∀ x ∈ l, smN x) ∧ Below w.heap.size w w'
set_option maxHeartbeats 400000 in
theorem drawUsedBits_any (v : Value) (l : List Int) (w : World) (h : BytesR w w.heap.size v l) :
    Calls Tryd.prog 30 #[v] w (DrawNN w) := by
  have HO := Lib.hid (l20Open_any v l w h)
  obtain ⟨A, n0, c, rfl⟩ := h.form
  clear h
  go_enter Tryd.func30, Tryd.ntmps30
  go_wp2_with fail
  refine HO.out.mono ?_
  rintro e w1 ⟨rfl, hR1, hb1⟩
  have hF1 : Fr w.heap.size w.heap.size w w1 := Fr.of_below _ hb1
  have hs1 := hR1.lt
  clear HO hb1
  go_wp2_with fail
  refine (pick_any _ 0 16 _ hR1 (by omega) (by omega)).mono ?_
  rintro e w2 ⟨r2, rfl, hr2, hR2, hF2⟩
  replace hF2 := hF1.trans (hF2.mono hF1.size)
  clear hR1 hF1
  go_wp2_with fail
  refine (expr_z _ 1 _ 4 _ hR2 (by omega) (by omega) (by omega) (by omega) (by omega)).mono ?_
  rintro e w3 ⟨V, L, rfl, hO, hL, hsm, hR3, hF3⟩
  replace hO := hO.mono (b' := w.heap.size + 1) (by have := hR2.lt; omega)
  replace hF3 := hF2.trans (hF3.mono hF2.size)
  clear hR2 hF2

  obtain ⟨B, off, cap, rfl, -, -, -⟩ := hO.form
  go_wp2
  go_ret
  exact ⟨_, L, rfl, hO.mono (by omega), by omega, hsm, hF3.below (Nat.le_refl _)⟩
set_option maxHeartbeats 1000000 in
theorem drawLogicTable_any (v : Value) (l : List Int) (w : World) (h : BytesR w w.heap.size v l) :
    Calls Tryd.prog 20 #[v] w (DrawNP (-1) 7 w) := by
  have HO := Lib.hid (l20Open_any v l w h)
  obtain ⟨A, n0, c, rfl⟩ := h.form
  clear h
  go_enter Tryd.func20, Tryd.ntmps20
  go_wp2_with fail
  refine HO.out.mono ?_
  rintro e w1 ⟨rfl, hR1, hb1⟩
  have hF1 : Fr w.heap.size w.heap.size w w1 := Fr.of_below _ hb1
  have hs1 := hR1.lt
  clear HO hb1
  go_wp2_with fail
  refine (pick_any _ 0 7 _ hR1 (by omega) (by omega)).mono ?_
  rintro e w2 ⟨r2, rfl, hr2, hR2, hF2⟩
  replace hF2 := hF1.trans (hF2.mono hF1.size)
  clear hR1 hF1
  obtain ⟨n, rfl⟩ : ∃ n : Nat, r2 = n := ⟨r2.toNat, by omega⟩
  go_wp2_with fail
  refine (expr_z _ 1 _ 9 _ hR2 (by omega) (by omega) (by omega) (by omega) (by omega)).mono ?_
  rintro e w3 ⟨V, L, rfl, hO, hL, hsm, hR3, hF3⟩
  replace hO := hO.mono (b' := w.heap.size + 1) (by have := hR2.lt; omega)
  replace hF3 := hF2.trans (hF3.mono hF2.size)
  clear hR2 hF2

  obtain ⟨B, off, cap, rfl, -, -, -⟩ := hO.form
  go_wp2_with fail
  refine (odd_any _ 51 9 _ hR3 (by omega) (by omega) (by omega)).mono ?_
  rintro e w4 ⟨b, rfl, hb, hR4, hF4⟩
  replace hO := hF4.ownS hO (by omega)
  replace hF4 := hF3.trans (hF4.mono hF3.size)
  clear hR3 hF3 hb
  cases b
  · go_wp2
    exact bodyPost_ret (v := .tuple #[.slice (some ⟨B, off, none⟩) L.length cap, .int .i64 n]) (by simp [results, Tryd.results20, go_sem, *]) rfl ⟨_, L, n, rfl, hO.mono (by omega), by omega, hsm, by omega, hF4.below (Nat.le_refl _)⟩
  · have hs4 := hF4.size
    have hg4 := hR4.lt
    have hR4a := hR4.below ((Below.refl _ _).alloc (Nat.le_refl _) (.cells #[.int .i64 (-1), .int .i64 7] 3))
    go_wp2_with fail
    refine (pick_any _ 52 2 _ hR4a (by omega) (by omega)).mono ?_
    rintro e w5 ⟨r5, rfl, hr5, hR5, hF5⟩
    obtain ⟨k0, k1, k2⟩ := hF5.kept w4.heap.size (by simp) (by omega) (by simp)
    replace hO := hF5.ownS (hO.alloc _) (by omega)
    replace hF5 := (hF4.alloc hs4 _).trans (hF5.mono (by simp; omega))
    obtain ⟨x, hx, hidx⟩ : ∃ x : Int, (-1 ≤ x ∧ x ≤ 7) ∧ w5.cell? ⟨w4.heap.size, r5.toNat, none⟩ = some (.int .i64 x) := by
      have h3 : r5 = 0 ∨ r5 = 1 := by omega
      rcases h3 with rfl | rfl
      · exact ⟨-1, by omega, by simp [k0]⟩
      · exact ⟨7, by omega, by simp [k0]⟩
    have hi5 : r5 < 2 := by omega
    clear hR4 hR4a hF4 k0 k1 k2
    go_wp2
    exact bodyPost_ret (v := .tuple #[.slice (some ⟨B, off, none⟩) L.length cap, .int .i64 x]) (by simp [results, Tryd.results20, go_sem, *]) rfl ⟨_, L, x, rfl, hO.mono (by omega), by omega, hsm, by omega, hF5.below (Nat.le_refl _)⟩
def DrawDP (w : World) (e : Ending) (w' : World) : Prop := ∃ v l n b, e = .returned (.tuple #[v, .int .i64 n, .int .i64 b]) ∧ OwnS w' w.heap.size v l ∧ l.length ≤ 44 ∧ (∀ x ∈ l, smN x) ∧ (1 ≤ n ∧ n ≤ 4) ∧ (-1 ≤ b ∧ b ≤ 6) ∧ Below w.heap.size w w'
set_option maxHeartbeats 1000000 in
theorem drawLogicDepends_any (v : Value) (l : List Int) (w : World) (h : BytesR w w.heap.size v l) :
    Calls Tryd.prog 35 #[v] w (DrawDP w) := by
  have HO := Lib.hid (l20Open_any v l w h)
  obtain ⟨A, n0, c, rfl⟩ := h.form
  clear h
  go_enter Tryd.func35, Tryd.ntmps35
  go_wp2_with fail
  refine HO.out.mono ?_
  rintro e w1 ⟨rfl, hR1, hb1⟩
  have hF1 : Fr w.heap.size w.heap.size w w1 := Fr.of_below _ hb1
  have hs1 := hR1.lt
  clear HO hb1
  go_wp2_with fail
  refine (pick_any _ 0 4 _ hR1 (by omega) (by omega)).mono ?_
  rintro e w2 ⟨r2, rfl, hr2, hR2, hF2⟩
  replace hF2 := hF1.trans (hF2.mono hF1.size)
  clear hR1 hF1
  go_wp2_with fail
  refine (expr_z _ 1 _ 12 _ hR2 (by omega) (by omega) (by omega) (by omega) (by omega)).mono ?_
  rintro e w3 ⟨V, L, rfl, hO, hL, hsm, hR3, hF3⟩
  replace hO := hO.mono (b' := w.heap.size + 1) (by have := hR2.lt; omega)
  replace hF3 := hF2.trans (hF3.mono hF2.size)
  clear hR2 hF2

  obtain ⟨B, off, cap, rfl, -, -, -⟩ := hO.form
  go_wp2_with fail
  refine (pick_any _ 51 _ _ hR3 (by omega) (by omega)).mono ?_
  rintro e w4 ⟨r4, rfl, hr4, hR4, hF4⟩
  replace hO := hF4.ownS hO (by omega)
  replace hF4 := hF3.trans (hF4.mono hF3.size)
  clear hR3 hF3
  go_wp2
  exact bodyPost_ret (v := .tuple #[.slice (some ⟨B, off, none⟩) L.length cap, .int .i64 (1 + r2), .int .i64 (r4 - 1)]) (by simp [results, Tryd.results35, go_sem, *]) rfl ⟨_, L, _, _, rfl, hO.mono (by omega), by omega, hsm, by omega, by omega, hF4.below (Nat.le_refl _)⟩
end Go.Proofs.YtbbaojmmjcdliaaDoor
