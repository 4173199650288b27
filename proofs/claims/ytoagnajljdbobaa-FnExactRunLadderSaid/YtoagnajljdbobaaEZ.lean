/- The exact laws of LadderCoils and DoubleCoils: their walks. -/
import Derived.Test.YtoagnajljdbobaaOQ
import Derived.Test.YtoagnajljdbobaaRI
namespace Go.Proofs.Ytoagnajljdbobaa
open Go.RowKit
attribute [local go_sem ↓] Go.wp_at_zero Go.wp_at_succ

theorem coils_len (l : List Rg) : (coilsL l).length ≤ 1048577 := by
  unfold coilsL coilsTo
  rw [List.length_map]
  have := List.length_filter_le (fun (k : Nat) => l.any fun r => decide (r.coil = (k : Int))) (List.range 16)
  rw [List.length_range] at this
  omega
theorem coils_in (l : List Rg) : ∀ x ∈ coilsL l, -9223372036854775808 ≤ x ∧ x ≤ 9223372036854775807 := by
  intro x hx
  unfold coilsL coilsTo at hx
  obtain ⟨k, hk, rfl⟩ := List.mem_map.1 hx
  have := List.mem_range.1 (List.mem_filter.1 hk).1
  omega
theorem doubles_len (l : List Rg) : (doubleL l).length ≤ 1048577 := by
  unfold doubleL doubleTo
  rw [List.length_map]
  have := List.length_filter_le (fun (k : Nat) => decide (1 < manyC l k)) (List.range 16)
  rw [List.length_range] at this
  omega
theorem doubles_in (l : List Rg) : ∀ x ∈ doubleL l, -9223372036854775808 ≤ x ∧ x ≤ 9223372036854775807 := by
  intro x hx
  unfold doubleL doubleTo at hx
  obtain ⟨k, hk, rfl⟩ := List.mem_map.1 hx
  have := List.mem_range.1 (List.mem_filter.1 hk).1
  omega
theorem sDoubleCoils_of (v : Value) (xs ps : List (Value × Rg)) (D : List Int) (w : World) (h : LadR w w.heap.size v xs) (e : lads xs = lads ps) (hD : D = doubleL (lads ps)) :
    Calls Try.prog 64 #[v] w (OwnIP D w) := by
  subst hD; rw [← e]; exact sDoubleCoils_any v xs w h
theorem iLadderCoils_of (v : Value) (xs ps : List (Value × Rg)) (D : List Int) (w : World) (h : LadR w w.heap.size v xs) (e : lads xs = lads ps) (hD : D = coilsL (lads ps)) :
    Calls Try.prog 58 #[v] w (OwnIP D w) := by
  subst hD; rw [← e]; exact iLadderCoils_any v xs w h
theorem iDoubleCoils_of (v : Value) (xs ps : List (Value × Rg)) (D : List Int) (w : World) (h : LadR w w.heap.size v xs) (e : lads xs = lads ps) (hD : D = doubleL (lads ps)) :
    Calls Try.prog 63 #[v] w (OwnIP D w) := by
  subst hD; rw [← e]; exact iDoubleCoils_any v xs w h
theorem sz_each {rs : List (Value × Rg)} (h : sumL (lads rs) ≤ 1048576) : ∀ p ∈ rs, p.2.logic.length ≤ 1048576 := by
  induction rs with
  | nil => simp
  | cons r rs ih =>
    have h' : r.2.logic.length + sumL (lads rs) ≤ 1048576 := h
    intro p hp
    rcases List.mem_cons.1 hp with rfl | hp
    · omega
    · exact ih (by omega) p hp
end Go.Proofs.Ytoagnajljdbobaa
