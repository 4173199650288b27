/- Contracts of chapter 1: bits and words read, images valid and made, by the program and by the specification. A copy of an image, by the specification. -/
import Derived.Test.YtoagnajljdbobabD
namespace Go.Proofs.Ytoagnajljdbobab
open Go.RowKit
attribute [local go_sem ↓] Go.wp_at_zero Go.wp_at_succ

theorem getB_out {l : List Bool} {n : Int} (h : ¬ (0 ≤ n ∧ n < l.length)) : getB l n = false := by unfold getB; rw [if_neg h]
theorem getB_in {l : List Bool} {k : Nat} (h : k < l.length) : getB l k = l[k] := by unfold getB; rw [if_pos (by omega)]; simp [h]
theorem getW_out {l : List Int} {n : Int} (h : ¬ (0 ≤ n ∧ n < l.length)) : getW l n = 0 := by unfold getW; rw [if_neg h]
theorem getW_in {l : List Int} {k : Nat} (h : k < l.length) : getW l k = l[k] := by unfold getW; rw [if_pos (by omega)]; simp [h]
theorem inB_true {n lo hi : Int} (h : lo ≤ n ∧ n ≤ hi) : inB n lo hi = true := by unfold inB; simp; omega
theorem inB_false {n lo hi : Int} (h : ¬ (lo ≤ n ∧ n ≤ hi)) : inB n lo hi = false := by
  unfold inB
  by_cases h1 : lo ≤ n
  · simp [h1]; omega
  · simp [h1]
theorem l1In_in (n lo hi : Int) (w : World) (h : lo ≤ n ∧ n ≤ hi) : Calls Try.prog 27 #[.int .i64 n, .int .i64 lo, .int .i64 hi] w fun e w' => e = .returned (.bool true) ∧ w = w' :=
  (l1In_any n lo hi w).mono fun _ _ ⟨he, hw⟩ => ⟨by rw [he, inB_true h], hw⟩
theorem l1In_out (n lo hi : Int) (w : World) (h : ¬ (lo ≤ n ∧ n ≤ hi)) : Calls Try.prog 27 #[.int .i64 n, .int .i64 lo, .int .i64 hi] w fun e w' => e = .returned (.bool false) ∧ w = w' :=
  (l1In_any n lo hi w).mono fun _ _ ⟨he, hw⟩ => ⟨by rw [he, inB_false h], hw⟩

theorem imgOK_words {m : Img} (h : wordsOK m.words = false) : false = imgOK m := by unfold imgOK; rw [h]; simp
set_option maxHeartbeats 400000 in
theorem sImageValid_any (v : Value) (m : Img) (w : World) (h : ImgR w w.heap.size v m) :
    Calls Try.prog 14 #[v] w fun e w' => e = .returned (.bool (imgOK m)) ∧ Below w.heap.size w w' := by
  obtain ⟨v1, v2, rfl, h1, h2⟩ := h
  obtain ⟨A', c', e'⟩ := h1.form
  subst e'
  clear h1
  obtain ⟨A, c, rfl, hr, hl, hbd⟩ := h2
  have B0 : ∀ o, Below w.heap.size w (w.alloc o) := fun o => (Below.refl _ _).alloc (Nat.le_refl _) _
  go_enter Try.func14, Try.ntmps14
  go_wp2
  go_loop [3] (fun i => ∃ k : Nat, k ≤ m.words.length ∧ i = .int .i64 k ∧ (m.words.take k).all (fun x => inB x (-32768) 32767) = true) (fun i => m.words.length - (intOf i).toNat)
  case atStart => exact ⟨0, by omega, rfl, by simp⟩
  case round =>
    obtain ⟨k, hk, rfl, hall⟩ := hrel
    have H := Lib.hid hall
    clear hall
    by_cases hlt : k < m.words.length
    · obtain ⟨p, u, rfl, hpb, hu, hc⟩ := hr.one hlt
      have hx : u = .int .i64 m.words[k] := by rw [List.getElem?_map, List.getElem?_eq_getElem hlt] at hu; simpa using hu.symm
      subst hx
      clear hu
      have g1 : ∀ o, (w.alloc o).cell? (p.add k) = some (.int .i64 m.words[k]) := fun o => (World.cell?_alloc_lt w o _ (by rw [add_block]; exact hpb)).trans hc
      clear hc hr
      have hbk := hbd m.words[k] (List.getElem_mem hlt)
      have i1 : (k : Int) < (m.words.length : Int) := by omega
      by_cases hin : inB m.words[k] (-32768) 32767 = true
      · go_wp2_with (go_at_call 27; refine (l1In_any _ _ _ _).mono ?_; rintro e w' ⟨rfl, rfl⟩)
        go_round
        case rel => exact ⟨k + 1, by omega, by go_num, by rw [all_take_snoc _ _ _ hlt, H.out, hin]; rfl⟩
        case measure => simp [intOf]; omega
      · have hin' : inB m.words[k] (-32768) 32767 = false := by simpa using hin
        clear hin
        go_wp2_with (go_at_call 27; refine (l1In_any _ _ _ _).mono ?_; rintro e w' ⟨rfl, rfl⟩)
        go_ret
        exact ⟨ret_bool (imgOK_words (all_false_of _ _ k hlt hin')), B0 _⟩
    · have hw : wordsOK m.words = true := by have := H.out; rw [List.take_of_length_le (by omega)] at this; exact this
      by_cases h16 : m.bits.length ≤ 16
      all_goals
        have H16 := Lib.hid h16
        go_wp2
        go_ret
        exact ⟨ret_bool (by unfold imgOK; rw [hw]; have := H16.out; simp [this] <;> omega), B0 _⟩
end Go.Proofs.Ytoagnajljdbobab

namespace Go.Proofs.Ytoagnajljdbobab
open Go.RowKit
attribute [local go_sem ↓] Go.wp_at_zero Go.wp_at_succ
theorem own_lit0 {base : Nat} {W : World} {e sz g : Nat} (hg : W.heap.size = g) (h : base ≤ g) : (W.alloc (.cells #[] e)).ownsRow base e sz (.slice (some ⟨g, 0, none⟩) 0 0) 0 [] := by
  subst hg; exact World.ownsRow_lit W #[] 0 h (by simp [maxLen]) (by simp)
theorem Rd.mono {w w' : World} {B sz n : Nat} {A : Option Addr} {xs : List Value} (h : Rd w B sz A n xs) (hb : Below B w w') : Rd w' B sz A n xs := h.keep (fun _ hp => hb.cell hp) (Nat.le_refl _)
theorem below_al {B : Nat} {a w : World} (hB : B ≤ w.heap.size) (h : Below B a w) (o : Obj) : Below B a (w.alloc o) := h.alloc hB o
/-- Behind a law on an owned row: what a block of another number holds. -/
theorem grown_kept {w w' : World} {row : Option Nat} (hg : w.grownBy w' row) (n : Nat) (hn : n < w.heap.size) (hne : row ≠ some n) :
    (∀ o, w'.cell? ⟨n, o, none⟩ = w.cell? ⟨n, o, none⟩) ∧ (∀ o, w'.frozen? ⟨n, o, none⟩ = w.frozen? ⟨n, o, none⟩) ∧ n < w'.heap.size :=
  ⟨fun _ => World.cell?_of_block (w := w) (hg.block n hn (Ne.symm hne)), fun _ => World.frozen?_of_block (w := w) (hg.block n hn (Ne.symm hne)), Nat.lt_of_lt_of_le hn hg.size⟩
end Go.Proofs.Ytoagnajljdbobab
