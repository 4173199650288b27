/- Chapter 4: edges and latches on truth values, in the program and in the specification. -/
import Derived.Test.YtoagnajljdbobaaE
namespace Go.Proofs.Ytoagnajljdbobaa
open Go.RowKit
attribute [local go_sem ↓] Go.wp_at_zero Go.wp_at_succ

def riseB (a b : Bool) : Bool := b && !a
def setD (s a r : Bool) : Bool := a || (s && !r)
def resD (s a r : Bool) : Bool := !r && (a || s)
theorem latchSet_any (a b : Bool) (w : World) :
    Calls Try.prog 121 #[.bool a, .bool b] w fun e w' => e = .returned (.bool (a || b)) ∧ w = w' := by
  cases a <;> cases b
  all_goals
    go_enter Try.func121, Try.ntmps121
    go_wp2
    go_ret
    exact ⟨rfl, rfl⟩
theorem latchReset_any (a b : Bool) (w : World) :
    Calls Try.prog 122 #[.bool a, .bool b] w fun e w' => e = .returned (.bool (a && !b)) ∧ w = w' := by
  cases a <;> cases b
  all_goals
    go_enter Try.func122, Try.ntmps122
    go_wp2
    go_ret
    exact ⟨rfl, rfl⟩
theorem iSetDominant_any (s a r : Bool) (w : World) :
    Calls Try.prog 76 #[.bool s, .bool a, .bool r] w fun e w' => e = .returned (.bool (setD s a r)) ∧ w = w' := by
  go_enter Try.func76, Try.ntmps76
  go_wp2_with fail
  refine (latchReset_any s r _).mono ?_
  rintro e w1 ⟨rfl, rfl⟩
  go_wp2_with fail
  refine (latchSet_any _ a _).mono ?_
  rintro e w1 ⟨rfl, rfl⟩
  go_wp2
  go_ret
  exact ⟨ret_bool (by unfold setD; cases s <;> cases a <;> cases r <;> rfl), rfl⟩
theorem iResetDominant_any (s a r : Bool) (w : World) :
    Calls Try.prog 75 #[.bool s, .bool a, .bool r] w fun e w' => e = .returned (.bool (resD s a r)) ∧ w = w' := by
  go_enter Try.func75, Try.ntmps75
  go_wp2_with fail
  refine (latchSet_any s a _).mono ?_
  rintro e w1 ⟨rfl, rfl⟩
  go_wp2_with fail
  refine (latchReset_any _ r _).mono ?_
  rintro e w1 ⟨rfl, rfl⟩
  go_wp2
  go_ret
  exact ⟨ret_bool (by unfold resD; cases s <;> cases a <;> cases r <;> rfl), rfl⟩
theorem sResetDominant_any (s a r : Bool) (w : World) :
    Calls Try.prog 77 #[.bool s, .bool a, .bool r] w fun e w' => e = .returned (.bool (resD s a r)) ∧ w = w' := by
  cases s <;> cases a <;> cases r
  all_goals
    go_enter Try.func77, Try.ntmps77
    go_wp2
    go_ret
    exact ⟨rfl, rfl⟩

/-- The value before the k-th of a signal. -/
def befAt (f : Bool) (l : List Bool) (k : Nat) : Bool := if k = 0 then f else l.getD (k - 1) false
def edgeAt (f : Bool) (l : List Bool) (k : Nat) : Bool := riseB (befAt f l k) (l.getD k false)
def edgesTo (f : Bool) (l : List Bool) (k : Nat) : List Bool := (List.range k).map (edgeAt f l)
def edgesL (f : Bool) (l : List Bool) : List Bool := if 200 < l.length then [] else edgesTo f l l.length
theorem befAt_succ (f : Bool) (l : List Bool) (k : Nat) (h : k < l.length) : befAt f l (k + 1) = l[k] := by
  unfold befAt; rw [if_neg (by omega), Nat.add_sub_cancel]; simp [List.getD, List.getElem?_eq_getElem h]
theorem edgesTo_len (f : Bool) (l : List Bool) (k : Nat) : (edgesTo f l k).length = k := by simp [edgesTo]
theorem edgesTo_succ (f : Bool) (l : List Bool) (k : Nat) (h : k < l.length) : edgesTo f l (k + 1) = edgesTo f l k ++ [riseB (befAt f l k) l[k]] := by
  unfold edgesTo; rw [List.range_succ, List.map_append]; simp [edgeAt, List.getD, List.getElem?_eq_getElem h]
theorem edgesL_len (f : Bool) (l : List Bool) : (edgesL f l).length = if 200 < l.length then 0 else l.length := by
  unfold edgesL; split
  · rfl
  · exact edgesTo_len _ _ _
theorem edgesL_le (f : Bool) (l : List Bool) : (edgesL f l).length ≤ 200 := by rw [edgesL_len]; split <;> omega

/-- A filtered signal: the output and how many values have been different from it. -/
def debStep (h : Int) (s : Bool × Nat) (x : Bool) : Bool × Nat := if x = s.1 then (s.1, 0) else if (s.2 : Int) + 1 < h then (s.1, s.2 + 1) else (x, 0)
def debAt (f : Bool) (h : Int) (l : List Bool) : Nat → Bool × Nat
  | 0 => (f, 0)
  | k + 1 => debStep h (debAt f h l k) (l.getD k false)
def debTo (f : Bool) (h : Int) (l : List Bool) (k : Nat) : List Bool := (List.range k).map fun i => (debAt f h l (i + 1)).1
def debL (f : Bool) (l : List Bool) (h : Int) : List Bool := if 200 < l.length ∨ h < 1 ∨ 20 < h then [] else debTo f h l l.length
theorem debTo_len (f : Bool) (h : Int) (l : List Bool) (k : Nat) : (debTo f h l k).length = k := by simp [debTo]
theorem debTo_succ (f : Bool) (h : Int) (l : List Bool) (k : Nat) : debTo f h l (k + 1) = debTo f h l k ++ [(debAt f h l (k + 1)).1] := by
  unfold debTo; rw [List.range_succ, List.map_append]; rfl
theorem debAt_succ (f : Bool) (h : Int) (l : List Bool) (k : Nat) (hk : k < l.length) : debAt f h l (k + 1) = debStep h (debAt f h l k) l[k] := by
  show debStep h (debAt f h l k) (l.getD k false) = _
  simp [List.getD, List.getElem?_eq_getElem hk]
theorem debAt_lt (f : Bool) (h : Int) (l : List Bool) (h1 : 1 ≤ h) (k : Nat) : ((debAt f h l k).2 : Int) < h := by
  induction k with
  | zero => show ((0 : Nat) : Int) < h; omega
  | succ k ih =>
    show ((debStep h (debAt f h l k) (l.getD k false)).2 : Int) < h
    unfold debStep
    split
    · show ((0 : Nat) : Int) < h; omega
    · split
      · rename_i h2; show (((debAt f h l k).2 + 1 : Nat) : Int) < h; omega
      · show ((0 : Nat) : Int) < h; omega
theorem debL_len (f : Bool) (l : List Bool) (h : Int) : (debL f l h).length ≤ 200 := by
  unfold debL; split
  · simp
  · rw [debTo_len]; omega
/-- The values that count are different from the output. -/
theorem debAt_run (f : Bool) (h : Int) (l : List Bool) (k : Nat) (hk : k ≤ l.length) : (debAt f h l k).2 ≤ k ∧ ∀ i, i < (debAt f h l k).2 → l.getD (k - 1 - i) false ≠ (debAt f h l k).1 := by
  induction k with
  | zero => exact ⟨Nat.le_refl _, fun i hi => absurd hi (by show ¬ i < 0; omega)⟩
  | succ k ih =>
    obtain ⟨h1, h2⟩ := ih (by omega)
    rw [debAt_succ f h l k (by omega)]
    unfold debStep
    split
    · exact ⟨Nat.zero_le _, fun i hi => absurd hi (by show ¬ i < 0; omega)⟩
    · rename_i hne
      split
      · refine ⟨by show (debAt f h l k).2 + 1 ≤ k + 1; omega, fun i hi => ?_⟩
        show l.getD (k + 1 - 1 - i) false ≠ (debAt f h l k).1
        rcases Nat.eq_zero_or_pos i with rfl | hp
        · rw [Nat.add_sub_cancel, Nat.sub_zero]
          simpa [List.getD, List.getElem?_eq_getElem (show k < l.length by omega)] using hne
        · have := h2 (i - 1) (by have : i < (debAt f h l k).2 + 1 := hi; omega)
          rwa [show k - 1 - (i - 1) = k + 1 - 1 - i by omega] at this
      · exact ⟨Nat.zero_le _, fun i hi => absurd hi (by show ¬ i < 0; omega)⟩
/-- Where the output changes, it takes the value of the signal, which this had for hold values. -/
theorem debAt_turn (f : Bool) (h : Int) (l : List Bool) (k : Nat) (hk : k < l.length) (h1 : 1 ≤ h) (hne : (debAt f h l (k + 1)).1 ≠ (debAt f h l k).1) :
    ∀ j : Nat, (j : Int) < h → j ≤ k ∧ l.getD (k - j) false = (debAt f h l (k + 1)).1 := by
  have hrun := debAt_run f h l k (by omega)
  have hlt := debAt_lt f h l h1 k
  rw [debAt_succ f h l k hk] at hne ⊢
  unfold debStep at hne ⊢
  split at hne
  · exact absurd rfl hne
  · rename_i hx
    split at hne
    · exact absurd rfl hne
    · rename_i hge
      rw [if_neg hx, if_neg hge]
      intro j hj
      refine ⟨by omega, ?_⟩
      show l.getD (k - j) false = l[k]
      rcases Nat.eq_zero_or_pos j with rfl | hp
      · simp [List.getD, List.getElem?_eq_getElem hk]
      · have h3 := hrun.2 (j - 1) (by omega)
        rw [show k - 1 - (j - 1) = k - j by omega] at h3
        revert h3 hx
        cases l.getD (k - j) false <;> cases l[k] <;> cases (debAt f h l k).1 <;> simp
theorem debAt_one (f : Bool) (l : List Bool) (k : Nat) (hk : k < l.length) : (debAt f 1 l (k + 1)).1 = l[k] := by
  rw [debAt_succ f 1 l k hk]
  unfold debStep
  split
  · rename_i h; exact h.symm
  · rw [if_neg (by omega)]
theorem debL_one (f : Bool) (l : List Bool) (h : l.length ≤ 200) : debL f l 1 = l := by
  unfold debL
  rw [if_neg (by omega)]
  apply List.ext_getElem
  · exact debTo_len _ _ _ _
  · intro i h1 h2
    simp only [debTo, List.getElem_map, List.getElem_range]
    exact debAt_one f l i h2
end Go.Proofs.Ytoagnajljdbobaa
