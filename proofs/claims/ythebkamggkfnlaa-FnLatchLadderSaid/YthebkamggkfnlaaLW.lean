/- The laws of chapter 4 on truth values: their walks. -/
import Derived.Test.YthebkamggkfnlaaLA
import Derived.Test.YthebkamggkfnlaaLD
import Derived.Test.YthebkamggkfnlaaW
namespace Go.Proofs.Ythebkamggkfnlaa
open Go.RowKit
attribute [local go_sem ↓] Go.wp_at_zero Go.wp_at_succ

theorem FnRisingEdge_long (a : Option Addr) (n c : Nat) (w : World) (h : 1048576 < n) (_hn : n ≤ 9223372036854775807) : Calls Try.prog 3 #[.slice a n c] w (LawPost w) := by
  go_enter Try.func3, Try.ntmps3
  go_wp2
  go_ret
  exact ⟨rfl, Below.refl _ _⟩
set_option maxHeartbeats 1000000 in
theorem FnRisingEdge_core (v : Value) (bl : List Int) (w : World) (h : BytesR w w.heap.size v bl) (hl : bl.length ≤ 1048576) :
    Calls Try.prog 3 #[v] w (LawPost w) := by
  have HO := Lib.hid (drawRisingEdge_any v bl w h)
  obtain ⟨A0, c0, rfl, -⟩ := h
  go_enter Try.func3, Try.ntmps3
  go_wp2_with fail
  refine HO.out.mono ?_
  rintro e w1 ⟨a, b, rfl, hb1⟩
  clear HO
  cases a <;> cases b
  all_goals
    go_wp2_with fail
    refine (iRisingEdge_any _ _ _).mono ?_
    rintro e w2 ⟨he, rfl⟩
    simp only [riseB, Bool.not_true, Bool.not_false, Bool.and_true, Bool.and_false, Bool.true_and, Bool.false_and, Bool.and_self] at he
    subst he
    go_wp2_with fail
    refine (sRisingEdge_any _ _ _).mono ?_
    rintro e w3 ⟨he, rfl⟩
    simp only [riseB, Bool.not_true, Bool.not_false, Bool.and_true, Bool.and_false, Bool.true_and, Bool.false_and, Bool.and_self] at he
    subst he
    go_wp2_with fail
    refine (iRisingEdge_any _ _ _).mono ?_
    rintro e w4 ⟨he, rfl⟩
    simp only [riseB, Bool.not_true, Bool.not_false, Bool.and_true, Bool.and_false, Bool.true_and, Bool.false_and, Bool.and_self] at he
    subst he
    go_wp2_with fail
    refine (iRisingEdge_any _ _ _).mono ?_
    rintro e w5 ⟨he, rfl⟩
    simp only [riseB, Bool.not_true, Bool.not_false, Bool.and_true, Bool.and_false, Bool.true_and, Bool.false_and, Bool.and_self] at he
    subst he
    go_wp2
    go_ret
    exact ⟨rfl, hb1⟩
theorem FnSetDominant_long (a : Option Addr) (n c : Nat) (w : World) (h : 1048576 < n) (_hn : n ≤ 9223372036854775807) : Calls Try.prog 4 #[.slice a n c] w (LawPost w) := by
  go_enter Try.func4, Try.ntmps4
  go_wp2
  go_ret
  exact ⟨rfl, Below.refl _ _⟩
theorem iSetD_b (s a r q : Bool) (h : setD s a r = q) (w : World) :
    Calls Try.prog 18 #[.bool s, .bool a, .bool r] w fun e w' => e = .returned (.bool q) ∧ w = w' := by subst h; exact iSetDominant_any s a r w
theorem sSetD_b (s a r q : Bool) (h : setD s a r = q) (w : World) :
    Calls Try.prog 19 #[.bool s, .bool a, .bool r] w fun e w' => e = .returned (.bool q) ∧ w = w' := by subst h; exact sSetDominant_any s a r w
theorem iResD_b (s a r q : Bool) (h : resD s a r = q) (w : World) :
    Calls Try.prog 21 #[.bool s, .bool a, .bool r] w fun e w' => e = .returned (.bool q) ∧ w = w' := by subst h; exact iResetDominant_any s a r w
theorem sResD_b (s a r q : Bool) (h : resD s a r = q) (w : World) :
    Calls Try.prog 22 #[.bool s, .bool a, .bool r] w fun e w' => e = .returned (.bool q) ∧ w = w' := by subst h; exact sResetDominant_any s a r w
set_option maxHeartbeats 2000000 in
theorem FnSetDominant_core (v : Value) (bl : List Int) (w : World) (h : BytesR w w.heap.size v bl) (hl : bl.length ≤ 1048576) :
    Calls Try.prog 4 #[v] w (LawPost w) := by
  have HO := Lib.hid (drawSetDominant_any v bl w h)
  obtain ⟨A0, c0, rfl, -⟩ := h
  go_enter Try.func4, Try.ntmps4
  go_wp2_with fail
  refine HO.out.mono ?_
  rintro e w1 ⟨s, a, b, rfl, hb1⟩
  clear HO
  cases s <;> cases a <;> cases b
  all_goals
    first
      | (go_wp2_with fail
         refine (iSetD_b _ _ _ true rfl _).mono ?_
         rintro e w2 ⟨rfl, rfl⟩
         go_wp2_with fail
         refine (sSetD_b _ _ _ true rfl _).mono ?_
         rintro e w2 ⟨rfl, rfl⟩
         go_wp2_with fail
         refine (iSetD_b _ _ _ true rfl _).mono ?_
         rintro e w2 ⟨rfl, rfl⟩
         go_wp2_with fail
         first
           | (refine (iSetD_b _ _ _ true rfl _).mono ?_; rintro e w2 ⟨rfl, rfl⟩)
           | (refine (iSetD_b _ _ _ false rfl _).mono ?_; rintro e w2 ⟨rfl, rfl⟩)
         go_wp2_with fail
         refine (iSetD_b _ _ _ true rfl _).mono ?_
         rintro e w2 ⟨rfl, rfl⟩
         go_wp2
         go_ret
         exact ⟨rfl, hb1⟩)
      | (go_wp2_with fail
         refine (iSetD_b _ _ _ false rfl _).mono ?_
         rintro e w2 ⟨rfl, rfl⟩
         go_wp2_with fail
         refine (sSetD_b _ _ _ false rfl _).mono ?_
         rintro e w2 ⟨rfl, rfl⟩
         go_wp2_with fail
         refine (iSetD_b _ _ _ true rfl _).mono ?_
         rintro e w2 ⟨rfl, rfl⟩
         go_wp2_with fail
         first
           | (refine (iSetD_b _ _ _ true rfl _).mono ?_; rintro e w2 ⟨rfl, rfl⟩)
           | (refine (iSetD_b _ _ _ false rfl _).mono ?_; rintro e w2 ⟨rfl, rfl⟩)
         go_wp2_with fail
         refine (iSetD_b _ _ _ false rfl _).mono ?_
         rintro e w2 ⟨rfl, rfl⟩
         go_wp2
         go_ret
         exact ⟨rfl, hb1⟩)
theorem FnResetDominant_long (a : Option Addr) (n c : Nat) (w : World) (h : 1048576 < n) (_hn : n ≤ 9223372036854775807) : Calls Try.prog 5 #[.slice a n c] w (LawPost w) := by
  go_enter Try.func5, Try.ntmps5
  go_wp2
  go_ret
  exact ⟨rfl, Below.refl _ _⟩
set_option maxHeartbeats 2000000 in
theorem FnResetDominant_core (v : Value) (bl : List Int) (w : World) (h : BytesR w w.heap.size v bl) (hl : bl.length ≤ 1048576) :
    Calls Try.prog 5 #[v] w (LawPost w) := by
  have HO := Lib.hid (drawResetDominant_any v bl w h)
  obtain ⟨A0, c0, rfl, -⟩ := h
  go_enter Try.func5, Try.ntmps5
  go_wp2_with fail
  refine HO.out.mono ?_
  rintro e w1 ⟨s, a, b, rfl, hb1⟩
  clear HO
  cases s <;> cases a <;> cases b
  all_goals
    first
      | (go_wp2_with fail
         refine (iResD_b _ _ _ true rfl _).mono ?_
         rintro e w2 ⟨rfl, rfl⟩
         go_wp2_with fail
         refine (sResD_b _ _ _ true rfl _).mono ?_
         rintro e w2 ⟨rfl, rfl⟩
         go_wp2_with fail
         refine (iResD_b _ _ _ false rfl _).mono ?_
         rintro e w2 ⟨rfl, rfl⟩
         go_wp2_with fail
         first
           | (refine (iResD_b _ _ _ true rfl _).mono ?_; rintro e w2 ⟨rfl, rfl⟩)
           | (refine (iResD_b _ _ _ false rfl _).mono ?_; rintro e w2 ⟨rfl, rfl⟩)
         go_wp2_with fail
         refine (iSetD_b _ _ _ false rfl _).mono ?_
         rintro e w2 ⟨rfl, rfl⟩
         go_wp2_with fail
         refine (iResD_b _ _ _ true rfl _).mono ?_
         rintro e w2 ⟨rfl, rfl⟩
         go_wp2
         go_ret
         exact ⟨rfl, hb1⟩)
      | (go_wp2_with fail
         refine (iResD_b _ _ _ false rfl _).mono ?_
         rintro e w2 ⟨rfl, rfl⟩
         go_wp2_with fail
         refine (sResD_b _ _ _ false rfl _).mono ?_
         rintro e w2 ⟨rfl, rfl⟩
         go_wp2_with fail
         refine (iResD_b _ _ _ false rfl _).mono ?_
         rintro e w2 ⟨rfl, rfl⟩
         go_wp2_with fail
         first
           | (refine (iResD_b _ _ _ true rfl _).mono ?_; rintro e w2 ⟨rfl, rfl⟩)
           | (refine (iResD_b _ _ _ false rfl _).mono ?_; rintro e w2 ⟨rfl, rfl⟩)
         go_wp2_with fail
         refine (iSetD_b _ _ _ true rfl _).mono ?_
         rintro e w2 ⟨rfl, rfl⟩
         go_wp2_with fail
         refine (iResD_b _ _ _ true rfl _).mono ?_
         rintro e w2 ⟨rfl, rfl⟩
         go_wp2
         go_ret
         exact ⟨rfl, hb1⟩)
end Go.Proofs.Ythebkamggkfnlaa
