/- The law of NewImage: its walk. -/
import Derived.Test.YtoagnajljdbobaaX
namespace Go.Proofs.Ytoagnajljdbobaa
open Go.RowKit
attribute [local go_sem ↓] Go.wp_at_zero Go.wp_at_succ

theorem iNewImage_any (b n : Int) (w : World) :
    Calls Try.prog 25 #[.int .i64 b, .int .i64 n] w fun e w' => ∃ v', e = .returned v' ∧ OwnM w' w.heap.size v' (newM b n) ∧ Below w.heap.size w w' := by
  by_cases h : 0 ≤ b ∧ b ≤ 16 ∧ 0 ≤ n ∧ n ≤ 8
  · exact iNewImage_ok b n w h
  · rw [newM_bad h]
    by_cases h1 : b < 0
    · exact (iNewImage_bad0 b n w h1).mono fun e w' ⟨he, hb⟩ => ⟨_, he, own_img0 _ _, hb⟩
    · by_cases h2 : 16 < b
      · exact (iNewImage_bad1 b n w (by omega) h2).mono fun e w' ⟨he, hb⟩ => ⟨_, he, own_img0 _ _, hb⟩
      · by_cases h3 : n < 0
        · exact (iNewImage_bad2 b n w (by omega) (by omega) h3).mono fun e w' ⟨he, hb⟩ => ⟨_, he, own_img0 _ _, hb⟩
        · exact (iNewImage_bad3 b n w (by omega) (by omega) (by omega) (by omega)).mono fun e w' ⟨he, hb⟩ => ⟨_, he, own_img0 _ _, hb⟩
theorem sNewImage_any (b n : Int) (w : World) :
    Calls Try.prog 27 #[.int .i64 b, .int .i64 n] w fun e w' => ∃ v', e = .returned v' ∧ OwnM w' w.heap.size v' (newM b n) ∧ Below w.heap.size w w' := by
  by_cases h : 0 ≤ b ∧ b ≤ 16 ∧ 0 ≤ n ∧ n ≤ 8
  · exact sNewImage_ok b n w h
  · rw [newM_bad h]
    by_cases h1 : b < 0
    · exact (sNewImage_bad0 b n w h1).mono fun e w' ⟨he, hb⟩ => ⟨_, he, own_img0 _ _, hb⟩
    · by_cases h2 : 16 < b
      · exact (sNewImage_bad1 b n w (by omega) h2).mono fun e w' ⟨he, hb⟩ => ⟨_, he, own_img0 _ _, hb⟩
      · by_cases h3 : n < 0
        · exact (sNewImage_bad2 b n w (by omega) (by omega) h3).mono fun e w' ⟨he, hb⟩ => ⟨_, he, own_img0 _ _, hb⟩
        · exact (sNewImage_bad3 b n w (by omega) (by omega) (by omega) (by omega)).mono fun e w' ⟨he, hb⟩ => ⟨_, he, own_img0 _ _, hb⟩
theorem small_new (b n : Int) : smallM (newM b n) 16 8 := by
  unfold newM
  split
  · refine ⟨by simp; omega, by simp; omega, fun x hx => ?_⟩
    have := List.eq_of_mem_replicate hx
    omega
  · exact ⟨by simp, by simp, by simp⟩
theorem new_ok (b n : Int) : imgOK (newM b n) = true := by
  have h := small_new b n
  have hw : wordsOK (newM b n).words = true := by
    unfold newM
    split
    · unfold wordsOK
      rw [List.all_eq_true]
      intro x hx
      have := List.eq_of_mem_replicate hx
      subst this
      decide
    · rfl
  unfold imgOK
  rw [hw]
  simp [h.1, h.2.1]
theorem new_bit (b n k : Int) : getB (newM b n).bits k = false := by
  unfold getB newM
  split
  · split
    · simp [List.getD, List.getElem?_replicate]
      split <;> rfl
    · simp
  · simp
def DrawNewP (w : World) (e : Ending) (w' : World) : Prop := ∃ b n : Int, e = .returned (.tuple #[.int .i64 b, .int .i64 n]) ∧ Below w.heap.size w w' ∧ (-1 ≤ b ∧ b ≤ 100) ∧ -1 ≤ n ∧ n ≤ 100
set_option maxHeartbeats 400000 in
theorem drawNewImage_any (v : Value) (l : List Int) (w : World) (h : BytesR w w.heap.size v l) :
    Calls Try.prog 24 #[v] w (DrawNewP w) := by
  have HO := Lib.hid (l20Open_any v l w h)
  obtain ⟨A, c, rfl, -⟩ := h
  go_enter Try.func24, Try.ntmps24
  go_wp2_with fail
  refine HO.out.mono ?_
  rintro e w1 ⟨rfl, hR1, hb1⟩
  go_wp2_with fail
  refine (pick_any _ 0 19 _ hR1 (by omega) (by omega)).mono ?_
  rintro e w2 ⟨r2, rfl, hr2, hR2, hF2⟩
  go_wp2_with fail
  refine (pick_any _ _ 11 _ hR2 (by omega) (by omega)).mono ?_
  rintro e w3 ⟨r3, rfl, hr3, hR3, hF3⟩
  go_wp2
  go_ret2
  have hs1 := hb1.size
  have hs2 := hF2.size
  exact ⟨_, _, rfl, hb1.trans (((hF2.mono hs1).trans (hF3.mono (by omega))).below (Nat.le_refl _)), by omega, by omega⟩
theorem FnNewImage_long (a : Option Addr) (n c : Nat) (w : World) (h : 1048576 < n) (_hn : n ≤ 9223372036854775807) : Calls Try.prog 4 #[.slice a n c] w (LawPost w) := by
  go_enter Try.func4, Try.ntmps4
  go_wp2
  go_ret
  exact ⟨rfl, Below.refl _ _⟩
set_option maxHeartbeats 2000000 in
theorem FnNewImage_core (v : Value) (l : List Int) (w : World) (h : BytesR w w.heap.size v l) (hl : l.length ≤ 1048576) :
    Calls Try.prog 4 #[v] w (LawPost w) := by
  have HO := Lib.hid (drawNewImage_any v l w h)
  obtain ⟨A, c, rfl, -⟩ := h
  go_enter Try.func4, Try.ntmps4
  go_wp2_with fail
  refine HO.out.mono ?_
  rintro e w1 ⟨b, n, rfl, hb1, hn1, hn2⟩
  clear HO
  go_wp2_with fail
  refine (iNewImage_any b n _).mono ?_
  rintro e w3 ⟨v3, rfl, hO3, hb3⟩
  have B3 := hb1.trans (hb3.mono hb1.size)
  obtain ⟨X1, x1, X2, x2, rfl, -, -⟩ := hO3.form
  have hSX := small_new b n
  have hX := Held.new hO3 (hSX.up (by omega) (by omega))
  have B4 := B3.alloc B3.size (.cells #[.slice X1 (newM b n).bits.length x1, .slice X2 (newM b n).words.length x2] 26)
  have hok := new_ok b n
  have HK := Lib.hid hok
  clear hO3 hb3 B3 hok
  obtain ⟨q0, q1⟩ := hX.cells
  have s4 := B4.size
  go_wp2_with fail
  go_region_held3 (fun w' => w'.cell? ⟨w3.heap.size, 0, none⟩ = some (.slice X1 (newM b n).bits.length x1) ∧ w'.cell? ⟨w3.heap.size, 1, none⟩ = some (.slice X2 (newM b n).words.length x2)) (first | exact ⟨q0, q1⟩ | go_keep)
    (first
      | (go_at_call 27; refine (sNewImage_any b n _).mono ?_; rintro e w5 ⟨v5, rfl, hO5, hb5⟩; obtain ⟨Y1, y1, Y2, y2, rfl, -, -⟩ := hO5.form; have hX5 := hX.drew.below hb5; have B5 := B4.drew.trans (hb5.mono s4); clear q0 q1; obtain ⟨q0, q1⟩ := hX5.cells)
      | (go_at_call 26; refine (sameImage_same _ _ (newM b n) _ hX5.read (hO5.read (hSX.up (by omega) (by omega)))).mono ?_; rintro e w6 ⟨rfl, hb6⟩; have hX6 := hX5.below hb6; have B6 := B5.trans (hb6.mono B5.size); clear q0 q1; obtain ⟨q0, q1⟩ := hX6.cells)
      | (go_at_call 21; refine (iImageValid_any _ (newM b n) _ hX6.read).mono ?_; rw [HK.out]; rintro e w7 ⟨rfl, hb7⟩; have hX7 := hX6.below hb7; have B7 := B6.trans (hb7.mono B6.size); clear q0 q1; obtain ⟨q0, q1⟩ := hX7.cells))
  clear hX B4 hX5 hO5 B5 hb5 hX6 B6 hb6 hb7 s4
  have s7 := B7.size
  by_cases hin : 0 ≤ b ∧ b ≤ 16 ∧ 0 ≤ n ∧ n ≤ 8
  · obtain ⟨h1, h2, h3, h4⟩ := hin
    have eB : (newM b n).bits.length = b.toNat := by unfold newM; rw [if_pos ⟨h1, h2, h3, h4⟩]; simp
    have eW : (newM b n).words.length = n.toNat := by unfold newM; rw [if_pos ⟨h1, h2, h3, h4⟩]; simp
    have HX := Lib.hid hX7
    clear hX7 q0 q1
    have HB := Lib.hid eB
    have HW := Lib.hid eW
    clear eB eW
    go_wp2_with fail
    go_loopw [6] (fun i wr => ∃ k : Nat, k ≤ b.toNat ∧ i = .int .i64 k ∧ Held wr w3.heap.size X1 x1 X2 x2 (newM b n) ∧ Below w.heap.size w wr) (fun i _ => b.toNat - (intOf i).toNat)
    case atStart => exact ⟨0, by omega, rfl, HX.out, B7⟩
    case round =>
      obtain ⟨k, hk, rfl, hXr, hBr⟩ := hrel
      clear HX B7 s7
      obtain ⟨q0, q1⟩ := hXr.cells
      by_cases hlt : (k : Int) < b
      · have hbit := new_bit b n k
        have HT := Lib.hid hbit
        clear hbit
        go_wp2_with fail
        refine (iGetBit_any _ (newM b n) k _ hXr.read (by omega)).mono ?_
        rw [HT.out]
        rintro e w8 ⟨rfl, hb8⟩
        have hX8 := hXr.below hb8
        have B8 := hBr.trans (hb8.mono hBr.size)
        clear hXr hBr hb8 q0 q1
        go_wp2
        go_roundw
        case rel => exact ⟨k + 1, by omega, by go_num, hX8, B8⟩
        case measure => simp [intOf]; omega
      · have e1 := HB.out
        have e2 := HW.out
        have t1 : (((newM b n).bits.length : Int) == b) = true := by rw [e1]; simp; omega
        have t2 : (((newM b n).words.length : Int) == n) = true := by rw [e2]; simp; omega
        clear e1 e2
        go_wp2
        go_ret
        exact ⟨rfl, hBr⟩
  · have eM := newM_bad hin
    have e1 : (newM b n).bits.length = 0 := by rw [eM]; rfl
    have e2 : (newM b n).words.length = 0 := by rw [eM]; rfl
    rw [e1] at q0
    rw [e2] at q1
    clear hX7 eM
    by_cases g1 : b < 0
    · go_wp2_with fail
      refine (alive_any _).mono ?_
      rintro e w9 ⟨rfl, hb9⟩
      go_wp2
      go_ret
      exact ⟨rfl, B7.trans (hb9.mono s7)⟩
    · by_cases g2 : 16 < b
      · go_wp2_with fail
        refine (alive_any _).mono ?_
        rintro e w9 ⟨rfl, hb9⟩
        go_wp2
        go_ret
        exact ⟨rfl, B7.trans (hb9.mono s7)⟩
      · by_cases g3 : n < 0
        · go_wp2_with fail
          refine (alive_any _).mono ?_
          rintro e w9 ⟨rfl, hb9⟩
          go_wp2
          go_ret
          exact ⟨rfl, B7.trans (hb9.mono s7)⟩
        · have g4 : 8 < n := by omega
          clear hin
          go_wp2_with fail
          refine (alive_any _).mono ?_
          rintro e w9 ⟨rfl, hb9⟩
          go_wp2
          go_ret
          exact ⟨rfl, B7.trans (hb9.mono s7)⟩
end Go.Proofs.Ytoagnajljdbobaa
