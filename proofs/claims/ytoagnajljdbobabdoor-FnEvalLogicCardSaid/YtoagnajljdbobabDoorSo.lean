/- The specification's dependence, evaluation. -/
import Derived.Test.YtoagnajljdbobabDoorSn
namespace Go.Proofs.YtoagnajljdbobabDoor
open Go.RowKit
attribute [local go_sem ↓] Go.wp_at_zero Go.wp_at_succ

theorem xor64 (a b : Nat) (ha : a < 1000) (hb : b < 1000) : bits .xor .i64 (a : Int) (b : Int) = ((a ^^^ b : Nat) : Int) := by
  have h : a ^^^ b < 2 ^ 10 := Nat.xor_lt_two_pow (by omega) (by omega)
  have hx : (BitVec.ofInt 64 (a : Int)).toNat = a := by rw [BitVec.ofInt_natCast, BitVec.toNat_ofNat]; exact Nat.mod_eq_of_lt (by omega)
  have hy : (BitVec.ofInt 64 (b : Int)).toNat = b := by rw [BitVec.ofInt_natCast, BitVec.toNat_ofNat]; exact Nat.mod_eq_of_lt (by omega)
  show IntKind.i64.wrap (((BitVec.ofInt 64 (a : Int)) ^^^ (BitVec.ofInt 64 (b : Int))).toNat : Int) = _
  rw [BitVec.toNat_xor, hx, hy, IntKind.wrap_i64]
  omega
def depS (xs : List Bool) (j : Nat) : Bool := (List.range xs.length).any fun x => xs.getD x false != xs.getD (x ^^^ 2 ^ j) false
theorem depS_tab {l : List Nd} {m j : Nat} (hj : j < m) : depS (tabL l m) j = depB l m j := by
  unfold depS depB
  rw [tabL_length, Bool.eq_iff_iff, List.any_eq_true, List.any_eq_true]
  have key : ∀ x, x < 2 ^ m → (tabL l m).getD x false = row l x := fun x hx => by
    unfold tabL
    rw [List.getD_eq_getElem?_getD, List.getElem?_map, List.getElem?_range hx]; rfl
  constructor
  · rintro ⟨x, hx, h⟩
    have hx' := List.mem_range.1 hx
    rw [key x hx', key _ (xor_lt_pow hx' hj)] at h
    exact ⟨x, hx, h⟩
  · rintro ⟨x, hx, h⟩
    have hx' := List.mem_range.1 hx
    refine ⟨x, hx, ?_⟩
    rw [key x hx', key _ (xor_lt_pow hx' hj)]
    exact h
theorem depI_out {l : List Nd} {n bit : Int} (h : inB bit 0 (n - 1) = false) : depI l n bit = false := by
  unfold inB at h; unfold depI
  cases h1 : decide (0 ≤ bit) <;> cases h2 : decide (bit < n) <;> simp_all
  omega
theorem depI_in {l : List Nd} {m j : Nat} (h6 : m ≤ 6) (hv : lvalid l m = true) (hj : j < m) : depI l m j = depS (tabL l m) j := by
  rw [depS_tab hj, ← depN_iff hv h6 hj]
  unfold depI ttOK
  rw [hv]
  simp
  omega
/-- the first k rows do not turn with bit j -/
def still (xs : List Bool) (j k : Nat) : Prop := ∀ x, x < k → xs.getD x false = xs.getD (x ^^^ 2 ^ j) false
theorem depS_yes {xs : List Bool} {j k : Nat} (hk : k < xs.length) (h : xs.getD k false ≠ xs.getD (k ^^^ 2 ^ j) false) : depS xs j = true := by
  unfold depS; rw [List.any_eq_true]; exact ⟨k, List.mem_range.2 hk, by simpa using h⟩
theorem depS_no {xs : List Bool} {j : Nat} (h : still xs j xs.length) : depS xs j = false := by
  unfold depS; rw [List.any_eq_false]; intro x hx; simpa using h x (List.mem_range.1 hx)
end Go.Proofs.YtoagnajljdbobabDoor
