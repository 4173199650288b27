/- Contracts of chapter 1: bits and words read, images valid and made, by the program and by the specification. A copy of an image, by the specification. -/
import Derived.Test.YtcpjafhhmhaenaaD
namespace Go.Proofs.Ytcpjafhhmhaenaa
open Go.RowKit
attribute [local go_sem ↓] Go.wp_at_zero Go.wp_at_succ

theorem getB_out {l : List Bool} {n : Int} (h : ¬ (0 ≤ n ∧ n < l.length)) : getB l n = false := by unfold getB; rw [if_neg h]
theorem getB_in {l : List Bool} {k : Nat} (h : k < l.length) : getB l k = l[k] := by unfold getB; rw [if_pos (by omega)]; simp [h]
theorem getW_out {l : List Int} {n : Int} (h : ¬ (0 ≤ n ∧ n < l.length)) : getW l n = 0 := by unfold getW; rw [if_neg h]
theorem getW_in {l : List Int} {k : Nat} (h : k < l.length) : getW l k = l[k] := by unfold getW; rw [if_pos (by omega)]; simp [h]
theorem inB_true {n lo hi : Int} (h : lo ≤ n ∧ n ≤ hi) : inB n lo hi = true := by unfold inB; simp; omega
theorem inB_false {n lo hi : Int} (h : ¬ (lo ≤ n ∧ n ≤ hi)) : inB n lo hi = false := by
  unfold inB
  by_cases h1 : lo ≤ n
  · simp [h1]; omega
  · simp [h1]
theorem l1In_in (n lo hi : Int) (w : World) (h : lo ≤ n ∧ n ≤ hi) : Calls Try.prog 61 #[.int .i64 n, .int .i64 lo, .int .i64 hi] w fun e w' => e = .returned (.bool true) ∧ w = w' :=
  (l1In_any n lo hi w).mono fun _ _ ⟨he, hw⟩ => ⟨by rw [he, inB_true h], hw⟩
theorem l1In_out (n lo hi : Int) (w : World) (h : ¬ (lo ≤ n ∧ n ≤ hi)) : Calls Try.prog 61 #[.int .i64 n, .int .i64 lo, .int .i64 hi] w fun e w' => e = .returned (.bool false) ∧ w = w' :=
  (l1In_any n lo hi w).mono fun _ _ ⟨he, hw⟩ => ⟨by rw [he, inB_false h], hw⟩

theorem l1Clip_any (x : Int) (w : World) : Calls Try.prog 53 #[.int .i64 x, .int .i64 (-32768), .int .i64 32767] w fun e w' => e = .returned (.int .i64 (clipW x)) ∧ w = w' := by
  go_enter Try.func53, Try.ntmps53
  go_wp2
  all_goals
    go_ret
    exact ⟨ret_int (by unfold clipW; omega), rfl⟩
theorem imgOK_words {m : Img} (h : wordsOK m.words = false) : false = imgOK m := by unfold imgOK; rw [h]; simp
end Go.Proofs.Ytcpjafhhmhaenaa

namespace Go.Proofs.Ytcpjafhhmhaenaa
open Go.RowKit
attribute [local go_sem ↓] Go.wp_at_zero Go.wp_at_succ
theorem own_lit0 {base : Nat} {W : World} {e sz g : Nat} (hg : W.heap.size = g) (h : base ≤ g) : (W.alloc (.cells #[] e)).ownsRow base e sz (.slice (some ⟨g, 0, none⟩) 0 0) 0 [] := by
  subst hg; exact World.ownsRow_lit W #[] 0 h (by simp [maxLen]) (by simp)
theorem Rd.mono {w w' : World} {B sz n : Nat} {A : Option Addr} {xs : List Value} (h : Rd w B sz A n xs) (hb : Below B w w') : Rd w' B sz A n xs := h.keep (fun _ hp => hb.cell hp) (Nat.le_refl _)
theorem below_al {B : Nat} {a w : World} (hB : B ≤ w.heap.size) (h : Below B a w) (o : Obj) : Below B a (w.alloc o) := h.alloc hB o
/-- Behind a law on an owned row: what a block of another number holds. -/
theorem grown_kept {w w' : World} {row : Option Nat} (hg : w.grownBy w' row) (n : Nat) (hn : n < w.heap.size) (hne : row ≠ some n) :
    (∀ o, w'.cell? ⟨n, o, none⟩ = w.cell? ⟨n, o, none⟩) ∧ (∀ o, w'.frozen? ⟨n, o, none⟩ = w.frozen? ⟨n, o, none⟩) ∧ n < w'.heap.size :=
  ⟨fun _ => World.cell?_of_block (w := w) (hg.block n hn (Ne.symm hne)), fun _ => World.frozen?_of_block (w := w) (hg.block n hn (Ne.symm hne)), Nat.lt_of_lt_of_le hn hg.size⟩
end Go.Proofs.Ytcpjafhhmhaenaa
