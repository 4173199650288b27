/- Plain facts for the laws of chapter 2. -/
import Derived.Test.YtoagnajljdbobabDoorIu
import Derived.Test.YtoagnajljdbobabDoorIq
namespace Go.Proofs.YtoagnajljdbobabDoor
open Go.RowKit

theorem ttOK_make {l : List Nd} {n : Int} (h0 : 0 ≤ n) (h6 : n ≤ 6) (h : lvalid l n = true) : ttOK l n = true := by unfold ttOK; simp [h0, h6, h]
theorem tabF_no {l : List Nd} {n : Int} (h : ttOK l n = false) : tabF l n = [] := by unfold tabF; simp [h]
theorem tabF_yes {l : List Nd} {n : Int} (h : ttOK l n = true) : tabF l n = tabL l n.toNat := by unfold tabF; simp [h]
theorem tabF_len {l : List Nd} {n : Int} (h : ttOK l n = true) : (tabF l n).length = 2 ^ n.toNat := by rw [tabF_yes h, tabL_length]
theorem tabF_le (l : List Nd) (n : Int) : (tabF l n).length ≤ 64 := by
  cases h : ttOK l n
  · rw [tabF_no h]; simp
  · obtain ⟨h0, h6, -⟩ := ttOK_parts h
    rw [tabF_len h]; exact pow_le64 (by omega)
theorem tabF_get {l : List Nd} {n : Int} (h : ttOK l n = true) (x : Nat) (hx : x < 2 ^ n.toNat) : (tabF l n)[x]? = some (row l x) := by
  rw [tabF_yes h]; unfold tabL; rw [List.getElem?_map, List.getElem?_range hx]; rfl
theorem tabF_succ {l : List Nd} {n : Int} (h : ttOK l n = true) (h6 : n < 6) : tabF l (n + 1) = tabF l n ++ tabF l n := by
  obtain ⟨h0, -, hv⟩ := ttOK_parts h
  have h1 := ttOK_make (show (0 : Int) ≤ n + 1 by omega) (by omega) (lvalid_mono hv (by omega))
  rw [tabF_yes h, tabF_yes h1]
  obtain ⟨m, rfl⟩ : ∃ m : Nat, n = m := ⟨n.toNat, by omega⟩
  exact tabL_succ hv
theorem row_neg {l x : List Nd} (h : NegOK l x) (k : Nat) : row x k = !row l k := h.val _
theorem ttOK_neg {l x : List Nd} (h : NegOK l x) (n : Int) : ttOK x n = ttOK l n := by unfold ttOK; rw [h.valid]
theorem ttOK_16 {l : List Nd} {n : Int} (h : ttOK l n = true) : lvalid l 16 = true := by
  obtain ⟨h0, h6, hv⟩ := ttOK_parts h; exact lvalid_mono hv (by omega)
theorem depB_neg {l x : List Nd} (h : NegOK l x) (n k : Nat) : depB x n k = depB l n k := by
  unfold depB
  congr 1
  funext y
  rw [row_neg h, row_neg h]
  cases row l y <;> cases row l (y ^^^ 2 ^ k) <;> rfl
theorem depI_yes {l : List Nd} {n b : Int} (h : ttOK l n = true) (h0 : 0 ≤ b) (hb : b < n) : depI l n b = depB l n.toNat b.toNat := by
  obtain ⟨h1, h6, hv⟩ := ttOK_parts h
  unfold depI
  rw [h]
  obtain ⟨m, rfl⟩ : ∃ m : Nat, n = m := ⟨n.toNat, by omega⟩
  rw [Int.toNat_natCast, ← depN_iff hv (by omega) (show b.toNat < m by omega)]
  simp [h0, hb]
theorem depI_no {l : List Nd} {n b : Int} (h : ttOK l n = false ∨ b < 0 ∨ n ≤ b) : depI l n b = false := by
  unfold depI
  rcases h with h | h | h
  · simp [h]
  · rw [show decide (0 ≤ b) = false by simp; omega]; simp
  · rw [show decide (b < n) = false by simp; omega]; simp
theorem depI_neg {l x : List Nd} (h : NegOK l x) (n b : Int) : depI x n b = depI l n b := by
  by_cases hb : 0 ≤ b ∧ b < n
  · cases ht : ttOK l n
    · rw [depI_no (.inl ht), depI_no (.inl ((ttOK_neg h n).trans ht))]
    · rw [depI_yes ht hb.1 hb.2, depI_yes ((ttOK_neg h n).trans ht) hb.1 hb.2, depB_neg h]
  · rw [depI_no (.inr (by omega)), depI_no (.inr (by omega))]
theorem eqw_no {a b : List Nd} {n : Int} (h : ttOK a n = false ∨ ttOK b n = false) : eqvI a b n = false := by
  unfold eqvI; rcases h with h | h <;> simp [h]
theorem eqw_yes {a b : List Nd} {n : Int} (h1 : ttOK a n = true) (h2 : ttOK b n = true) : eqvI a b n = decide (tabL a n.toNat = tabL b n.toNat) := by
  obtain ⟨h0, h6, hv⟩ := ttOK_parts h1
  obtain ⟨-, -, hv2⟩ := ttOK_parts h2
  obtain ⟨m, rfl⟩ : ∃ m : Nat, n = m := ⟨n.toNat, by omega⟩
  unfold eqvI
  rw [h1, h2, rows_eq hv hv2 (by omega)]
  simp
theorem eqw_self {a : List Nd} {n : Int} (h : ttOK a n = true) : eqvI a a n = true := by rw [eqw_yes h h]; simp
theorem eqw_comm (a b : List Nd) (n : Int) : eqvI a b n = eqvI b a n := by
  unfold eqvI
  rw [Bool.and_comm (ttOK a n), show decide (tabN a = tabN b) = decide (tabN b = tabN a) from decide_eq_decide.2 eq_comm]
theorem row_ne_tab {a b : List Nd} {n : Nat} (h : ∀ k, row a k = !row b k) : tabL a n ≠ tabL b n := by
  intro e
  unfold tabL at e
  have := List.map_inj_left.1 e 0 (List.mem_range.2 (Nat.two_pow_pos n))
  rw [h] at this
  cases hb : row b 0 <;> rw [hb] at this <;> simp at this
theorem lvalid_nil (n : Int) : lvalid [] n = false := by simp [lvalid, depOf_nil]
theorem eqw_neg (a : List Nd) (n : Int) : eqvI a (negL a) n = false := by
  by_cases hne : 0 < (negL a).length
  · obtain ⟨-, hn⟩ := negL_ok hne
    cases h : ttOK a n
    · exact eqw_no (.inl h)
    · rw [eqw_yes h ((ttOK_neg hn n).trans h)]
      have := row_ne_tab (a := negL a) (b := a) (n := n.toNat) (row_neg hn)
      simp [Ne.symm this]
  · have : negL a = [] := List.eq_nil_of_length_eq_zero (by omega)
    rw [this]
    exact eqw_no (.inr (by unfold ttOK; simp [lvalid_nil]))
theorem eqw_negneg {a : List Nd} {n : Int} (h : ttOK a n = true) (hne : 0 < (negL a).length) : eqvI (negL (negL a)) a n = true := by
  obtain ⟨-, hn⟩ := negL_ok hne
  obtain ⟨-, hn2⟩ := negL_ok (negL_neg_ne hne)
  have h2 : ttOK (negL (negL a)) n = true := by rw [ttOK_neg hn2, ttOK_neg hn, h]
  rw [eqw_yes h2 h]
  have : tabL (negL (negL a)) n.toNat = tabL a n.toNat := by
    unfold tabL
    apply List.map_congr_left
    intro x _
    rw [row_neg hn2, row_neg hn]; simp
  simp [this]
/-- The value for an image. -/
theorem evI_neg {m : Img} {l : List Nd} (h1 : imgOK m = true) (h2 : lvalid l m.bits.length = true) (hne : 0 < (negL l).length) : evI m (negL l) = !evI m l := by
  obtain ⟨-, hn⟩ := negL_ok hne
  unfold evI
  rw [h1, hn.valid, h2, hn.val]
  simp
def sumB (bs : List Bool) : Nat → Nat
  | 0 => 0
  | k + 1 => sumB bs k + if bs.getD k false then 2 ^ k else 0
theorem sumB_lt (bs : List Bool) (k : Nat) : sumB bs k < 2 ^ k := by
  induction k with
  | zero => simp [sumB]
  | succ k ih => unfold sumB; rw [Nat.pow_succ]; split <;> omega
theorem sumB_bit (bs : List Bool) (k j : Nat) : (sumB bs k).testBit j = (decide (j < k) && bs.getD j false) := by
  induction k with
  | zero => simp [sumB]
  | succ k ih =>
    unfold sumB
    have hlt := sumB_lt bs k
    by_cases hb : bs.getD k false = true
    · rw [if_pos hb, Nat.add_comm]
      rcases Nat.lt_trichotomy j k with h | h | h
      · rw [Nat.testBit_two_pow_add_gt h, ih]; simp [h, show j < k + 1 by omega]
      · subst h
        rw [Nat.testBit_two_pow_add_eq, Nat.testBit_lt_two_pow hlt, hb]; simp
      · rw [Nat.testBit_lt_two_pow (Nat.lt_of_lt_of_le (show 2 ^ k + sumB bs k < 2 ^ (k + 1) by rw [Nat.pow_succ]; omega) (Nat.pow_le_pow_right (by omega) h))]
        simp [show ¬ j < k + 1 by omega]
    · rw [if_neg hb, Nat.add_zero, ih]
      have hb' : bs.getD k false = false := by simpa using hb
      rcases Nat.lt_trichotomy j k with h | h | h
      · simp [h, show j < k + 1 by omega]
      · subst h; rw [hb']; simp
      · simp [show ¬ j < k by omega, show ¬ j < k + 1 by omega]
theorem evI_row {m : Img} {l : List Nd} (h1 : imgOK m = true) (h2 : lvalid l m.bits.length = true) : evI m l = row l (sumB m.bits m.bits.length) := by
  unfold evI row
  rw [h1, h2]
  simp only [Bool.true_and]
  refine evb_valid h2 _ _ fun k hk0 hk => ?_
  rw [sumB_bit]
  simp [show k.toNat < m.bits.length by omega]
/-- The used bits. -/
theorem numsTo_asc (s n : Nat) : (numsTo s n).Pairwise (· < ·) := by
  unfold numsTo
  rw [List.pairwise_map]
  exact (List.pairwise_lt_range.filter _).imp (fun h => by omega)
theorem numsTo_mem (s n : Nat) (x : Int) : x ∈ numsTo s n ↔ 0 ≤ x ∧ x < n ∧ s.testBit x.toNat = true := by
  unfold numsTo
  simp only [List.mem_map, List.mem_filter, List.mem_range]
  constructor
  · rintro ⟨k, ⟨h1, h2⟩, rfl⟩
    exact ⟨by omega, by omega, by simpa using h2⟩
  · rintro ⟨h0, h1, h2⟩
    exact ⟨x.toNat, ⟨by omega, h2⟩, by omega⟩
theorem used_range (l : List Nd) (k : Nat) (h : k < (usedL l).length) : 0 ≤ (usedL l)[k] ∧ (usedL l)[k] < 16 := by
  have := (numsTo_mem (usedS l) 16 _).1 (List.getElem_mem h)
  exact ⟨this.1, by omega⟩
theorem used_lt (l : List Nd) (k : Nat) (h : k + 1 < (usedL l).length) : (usedL l)[k] < (usedL l)[k + 1] :=
  List.pairwise_iff_getElem.1 (numsTo_asc (usedS l) 16) k (k + 1) (by unfold usedL at h; omega) h (by omega)
theorem used_len (l : List Nd) : (usedL l).length ≤ 16 := numsTo_length _ _
theorem depI_unused {l : List Nd} {n : Int} {b : Nat} (hb : b < 16) (h : (b : Int) ∉ usedL l) : depI l n b = false := by
  cases ht : ttOK l n
  · exact depI_no (.inl ht)
  · by_cases hbn : (b : Int) < n
    · rw [depI_yes ht (by omega) hbn]
      obtain ⟨h0, h6, hv⟩ := ttOK_parts ht
      refine depB_unused fun x hx h1 => ?_
      have hx2 := valid_bits (lvalid_dep hv) x hx h1
      refine ⟨hx2.1, fun e => h ?_⟩
      refine (numsTo_mem (usedS l) 16 _).2 ⟨by omega, by omega, ?_⟩
      rw [Int.toNat_natCast, usedS_bit l b hb, List.any_eq_true]
      exact ⟨x, hx, by unfold isBit; simp [h1, e]⟩
    · exact depI_no (.inr (.inr (by omega)))
/-- The marks of the first k of a list of numbers. -/
def markU (U : List Int) (k : Nat) : List Bool := (List.range 16).map fun b : Nat => decide ((b : Int) ∈ U.take k)
theorem markU_zero (U : List Int) : markU U 0 = List.replicate 16 false := by
  unfold markU
  simp only [List.take_zero, List.not_mem_nil, decide_false]
  rfl
theorem markU_len (U : List Int) (k : Nat) : (markU U k).length = 16 := by simp [markU]
theorem markU_succ (U : List Int) (k : Nat) (h : k < U.length) (h0 : 0 ≤ U[k] ∧ U[k] < 16) : markU U (k + 1) = (markU U k).set U[k].toNat true := by
  unfold markU
  apply List.ext_getElem
  · simp
  · intro i h1 h2
    rw [List.getElem_set]
    simp only [List.getElem_map, List.getElem_range]
    rw [List.take_succ_eq_append_getElem h]
    by_cases e : U[k].toNat = i
    · rw [if_pos e]; simp only [List.mem_append, List.mem_singleton, decide_eq_true_eq]; right; omega
    · rw [if_neg e]
      have : ¬ ((i : Int) = U[k]) := by omega
      simp only [List.mem_append, List.mem_singleton, this, or_false]
theorem markU_get (U : List Int) (b : Nat) (hb : b < 16) : (markU U U.length)[b]? = some (decide ((b : Int) ∈ U)) := by
  unfold markU
  rw [List.getElem?_map, List.getElem?_range hb]; simp
/-- Dependence, as the law reckons it. -/
theorem same_all (l : List Nd) (n k : Nat) : ((List.range (2 ^ n)).all fun x => row l x == row l (x ^^^ 2 ^ k)) = !depB l n k := by
  unfold depB
  rw [List.not_any_eq_all_not]
  congr 1
  funext x
  cases row l x <;> cases row l (x ^^^ 2 ^ k) <;> rfl
end Go.Proofs.YtoagnajljdbobabDoor
