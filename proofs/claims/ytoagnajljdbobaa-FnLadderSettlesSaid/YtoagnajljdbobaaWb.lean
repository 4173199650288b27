/- The law of LadderCoils: its walk. -/
import Derived.Test.YtoagnajljdbobaaWa
import Derived.Test.YtoagnajljdbobaaWP
import Derived.Test.YtoagnajljdbobaaRS
import Derived.BigQuiet
import Derived.Deep.QuietTactic
namespace Go.Proofs.Ytoagnajljdbobaa
open Go.RowKit
attribute [local go_sem ↓] Go.wp_at_zero Go.wp_at_succ

theorem below_drN {B : Nat} {a w : World} (h : Below B a w) (n : Nat) : Below B a (w.drewN n) := ⟨h.os, h.tape, h.output, h.size, h.block⟩
theorem sameI_one (v1 v2 : Value) (a : List Int) (w : World) (h1 : IntsR w w.heap.size v1 a) (h2 : IntsR w w.heap.size v2 a) :
    Calls Try.prog 33 #[v1, v2] w fun e w' => e = .returned (.bool true) ∧ Below w.heap.size w w' :=
  (sameInts_any v1 v2 a a w h1 h2).mono fun _ _ ⟨he, hb⟩ => ⟨by rw [he]; simp [sameL], hb⟩
theorem nums_fit (s : Nat) : ∀ x ∈ numsTo s 16, -9223372036854775808 ≤ x ∧ x ≤ 9223372036854775807 := by
  intro x hx
  have := (numsTo_mem s 16 x).1 hx
  omega
theorem nums_range (s k : Nat) (h : k < (numsTo s 16).length) : 0 ≤ (numsTo s 16)[k] ∧ (numsTo s 16)[k] < 16 := by
  have := (numsTo_mem s 16 _).1 (List.getElem_mem h)
  exact ⟨this.1, by omega⟩
theorem nums_lt (s k : Nat) (h : k + 1 < (numsTo s 16).length) : (numsTo s 16)[k] < (numsTo s 16)[k + 1] :=
  List.pairwise_iff_getElem.1 (numsTo_asc s 16) k (k + 1) (by omega) h (by omega)
theorem double_sub (l : List Rg) : ∀ x ∈ doubleL l, x ∈ coilsL l := by
  intro x hx
  rw [← doubleL_set] at hx
  rw [← coilsL_set]
  obtain ⟨h0, h1, h2⟩ := (numsTo_mem _ 16 _).1 hx
  refine (numsTo_mem _ 16 _).2 ⟨h0, h1, ?_⟩
  rw [coilsS_bit l _ (by omega), List.any_eq_true]
  rw [(dblS_bit x.toNat (by omega) l).2, decide_eq_true_eq] at h2
  unfold manyC at h2
  obtain ⟨r, hr, hp⟩ := List.countP_pos_iff.1 (show 0 < _ by omega : 0 < l.countP fun r => decide (r.coil = (x.toNat : Int)) && decide (r.kind = 1))
  simp only [Bool.and_eq_true, decide_eq_true_eq] at hp
  exact ⟨r, hr, by simpa using hp.1⟩
end Go.Proofs.Ytoagnajljdbobaa
