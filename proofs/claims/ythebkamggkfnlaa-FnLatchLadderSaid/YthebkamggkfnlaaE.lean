/- Contracts of chapter 1: bits and words read, images valid and made, by the program and by the specification. -/
import Derived.Test.YthebkamggkfnlaaD
namespace Go.Proofs.Ythebkamggkfnlaa
open Go.RowKit
attribute [local go_sem ↓] Go.wp_at_zero Go.wp_at_succ

theorem getB_out {l : List Bool} {n : Int} (h : ¬ (0 ≤ n ∧ n < l.length)) : getB l n = false := by unfold getB; rw [if_neg h]
theorem getB_in {l : List Bool} {k : Nat} (h : k < l.length) : getB l k = l[k] := by unfold getB; rw [if_pos (by omega)]; simp [h]
theorem getW_out {l : List Int} {n : Int} (h : ¬ (0 ≤ n ∧ n < l.length)) : getW l n = 0 := by unfold getW; rw [if_neg h]
theorem getW_in {l : List Int} {k : Nat} (h : k < l.length) : getW l k = l[k] := by unfold getW; rw [if_pos (by omega)]; simp [h]
theorem inB_true {n lo hi : Int} (h : lo ≤ n ∧ n ≤ hi) : inB n lo hi = true := by unfold inB; simp; omega
theorem inB_false {n lo hi : Int} (h : ¬ (lo ≤ n ∧ n ≤ hi)) : inB n lo hi = false := by
  unfold inB
  by_cases h1 : lo ≤ n
  · simp [h1]; omega
  · simp [h1]
theorem l1In_in (n lo hi : Int) (w : World) (h : lo ≤ n ∧ n ≤ hi) : Calls Try.prog 44 #[.int .i64 n, .int .i64 lo, .int .i64 hi] w fun e w' => e = .returned (.bool true) ∧ w = w' :=
  (l1In_any n lo hi w).mono fun _ _ ⟨he, hw⟩ => ⟨by rw [he, inB_true h], hw⟩
theorem l1In_out (n lo hi : Int) (w : World) (h : ¬ (lo ≤ n ∧ n ≤ hi)) : Calls Try.prog 44 #[.int .i64 n, .int .i64 lo, .int .i64 hi] w fun e w' => e = .returned (.bool false) ∧ w = w' :=
  (l1In_any n lo hi w).mono fun _ _ ⟨he, hw⟩ => ⟨by rw [he, inB_false h], hw⟩

set_option maxHeartbeats 400000 in
theorem iGetBit_any (v : Value) (m : Img) (n : Int) (w : World) (h : ImgR w w.heap.size v m) (_hn : -9223372036854775808 ≤ n ∧ n ≤ 9223372036854775807) :
    Calls Try.prog 32 #[v, .int .i64 n] w fun e w' => e = .returned (.bool (getB m.bits n)) ∧ Below w.heap.size w w' := by
  obtain ⟨v1, v2, rfl, h1, h2⟩ := h
  obtain ⟨A', c', e'⟩ := h2.form
  subst e'
  clear h2
  obtain ⟨A, c, rfl, hr, hl⟩ := h1
  by_cases h0 : 0 ≤ n
  · by_cases h1' : n < m.bits.length
    · obtain ⟨k, rfl⟩ := Int.eq_ofNat_of_zero_le h0
      replace h1' : k < m.bits.length := by omega
      obtain ⟨p, u, rfl, hpb, hu, hc⟩ := hr.one h1'
      have hx : u = .bool m.bits[k] := by rw [List.getElem?_map, List.getElem?_eq_getElem h1'] at hu; simpa using hu.symm
      subst hx
      clear hu
      have hne : p.block ≠ w.heap.size := by omega
      have g1 : ∀ o, (w.alloc o).cell? (p.add k) = some (.bool m.bits[k]) := fun o => (World.cell?_alloc_lt w o _ (by rw [add_block]; exact hpb)).trans hc
      clear hc hr
      have i1 : (k : Int) < (m.bits.length : Int) := by omega
      go_enter Try.func32, Try.ntmps32
      go_wp2
      go_ret
      exact ⟨ret_bool (getB_in h1').symm, (Below.refl _ _).alloc (Nat.le_refl _) _⟩
    · 
      go_enter Try.func32, Try.ntmps32
      go_wp2
      go_ret
      exact ⟨ret_bool (getB_out (by omega)).symm, (Below.refl _ _).alloc (Nat.le_refl _) _⟩
  · 
    go_enter Try.func32, Try.ntmps32
    go_wp2
    go_ret
    exact ⟨ret_bool (getB_out (by omega)).symm, (Below.refl _ _).alloc (Nat.le_refl _) _⟩

theorem imgOK_words {m : Img} (h : wordsOK m.words = false) : false = imgOK m := by unfold imgOK; rw [h]; simp
end Go.Proofs.Ythebkamggkfnlaa
