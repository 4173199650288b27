/- Contracts of the drawn words and images. -/
import Derived.Test.YtlpoeijjlkdceaaP
namespace Go.Proofs.Ytlpoeijjlkdceaa
open Go.RowKit
attribute [local go_sem ↓] Go.wp_at_zero Go.wp_at_succ

def WordPost (g P : Nat) (w : World) (e : Ending) (w' : World) : Prop := ∃ x : Int, e = .returned (.int .i64 x) ∧ -40000 ≤ x ∧ x ≤ 40000 ∧ Rdr w' g (P + 7) ∧ Fr w.heap.size g w w'
set_option maxHeartbeats 1000000 in
theorem word_any (g P : Nat) (n : Int) (w : World) (hw : Rdr w g P) (hP : P + 7 ≤ 1000000) (hn : n ≤ 1000000) (hn0 : -1000000 ≤ n) :
    Calls Try.prog 110 #[.pointer (some ⟨g, 0, none⟩), .int .i64 n] w (WordPost g P w) := by
  have hgl := hw.lt
  go_enter Try.func110, Try.ntmps110
  go_wp2_with fail
  refine (odd_any g P n _ hw (by omega) hn hn0).mono ?_
  rintro e w1 ⟨b, rfl, hb, hR1, hF1⟩
  have hs1 := hF1.size
  clear hw hb
  cases b
  · go_wp2_with fail
    refine (pick_any g (P + 1) 21 _ hR1 (by omega) (by omega)).mono ?_
    rintro e w2 ⟨r2, rfl, hr2, hR2, hF2⟩
    replace hF2 := hF1.trans (hF2.mono hs1)
    clear hR1 hF1
    go_wp2_with fail
    refine (pick_any g _ 256 _ hR2 (by omega) (by omega)).mono ?_
    rintro e w3 ⟨r3, rfl, hr3, hR3, hF3⟩
    replace hF3 := hF2.trans (hF3.mono hF2.size)
    clear hR2 hF2
    go_wp2_with fail
    refine (pick_any g _ 256 _ hR3 (by omega) (by omega)).mono ?_
    rintro e w4 ⟨r4, rfl, hr4, hR4, hF4⟩
    replace hF4 := hF3.trans (hF4.mono hF3.size)
    clear hR3 hF3
    go_wp2_with fail
    refine (pick_any g _ 400 _ hR4 (by omega) (by omega)).mono ?_
    rintro e w5 ⟨r5, rfl, hr5, hR5, hF5⟩
    replace hF5 := hF4.trans (hF5.mono hF4.size)
    clear hR4 hF4
    have hs5 := hF5.size
    go_wp2_with fail
    have hg5 := hR5.lt
    refine (pick_any g _ 7 _ (hR5.below (((Below.refl _ _).alloc (Nat.le_refl _) _).alloc (by simp) _)) (by omega) (by omega)).mono ?_
    rintro e w6 ⟨r6, rfl, hr6, hR6, hF6⟩
    obtain ⟨k0, k1, k2⟩ := hF6.kept w5.heap.size (by simp; omega) (by omega) (by simp; omega)
    obtain ⟨k3, k4, k5⟩ := hF6.kept (w5.heap.size + 1) (by simp) (by omega) (by simp)
    have hF7 : Fr w.heap.size g w w6 := ((hF5.alloc (by omega) _).alloc (by simp; omega) _).trans (hF6.mono (by simp; omega))
    clear hF6 hR5 hF5
    have h7 : r6 = 0 ∨ r6 = 1 ∨ r6 = 2 ∨ r6 = 3 ∨ r6 = 4 ∨ r6 = 5 ∨ r6 = 6 := by omega
    rcases h7 with rfl | rfl | rfl | rfl | rfl | rfl | rfl
    all_goals
      go_wp2
      go_ret
      exact ⟨_, rfl, by omega, by omega, hR6.mono (by omega), hF7⟩
  · go_wp2_with fail
    refine (pick_any g (P + 1) 2 _ (hR1.below ((Below.refl _ _).alloc (Nat.le_refl _) _)) (by omega) (by omega)).mono ?_
    rintro e w2 ⟨r2, rfl, hr2, hR2, hF2⟩
    have hg1 := hR1.lt
    obtain ⟨k0, k1, k2⟩ := hF2.kept w1.heap.size (by simp) (by omega) (by simp)
    have hF3 : Fr w.heap.size g w w2 := (hF1.alloc (by omega) _).trans (hF2.mono (by simp; omega))
    clear hF2 hR1 hF1
    have h2 : r2 = 0 ∨ r2 = 1 := by omega
    rcases h2 with rfl | rfl
    all_goals
      go_wp2
      go_ret
      exact ⟨_, rfl, by omega, by omega, hR2.mono (by omega), hF3⟩
end Go.Proofs.Ytlpoeijjlkdceaa
