/- Truth tables, equivalence, dependence: the program's functions. -/
import Derived.Test.YtoagnajljdbobabDoorIp
namespace Go.Proofs.YtoagnajljdbobabDoor
open Go.RowKit
attribute [local go_sem ↓] Go.wp_at_zero Go.wp_at_succ

theorem ttOK_parts {l : List Nd} {n : Int} (h : ttOK l n = true) : 0 ≤ n ∧ n ≤ 6 ∧ lvalid l n = true := by
  unfold ttOK at h; simp at h; exact ⟨h.1.1, h.1.2, h.2⟩
def tabF (l : List Nd) (n : Int) : List Bool := if ttOK l n then tabL l n.toNat else []
theorem rows_tab {l : List Nd} {n : Nat} (h : lvalid l n = true) (h6 : n ≤ 6) : rowsOf (tabN l) (2 ^ n) = tabL l n := by
  unfold rowsOf tabL
  apply List.map_congr_left
  intro x hx
  have := List.mem_range.1 hx
  have h64 := pow_le64 h6
  exact tabN_bit h (by omega) x (by omega)
theorem tabF_small (l : List Nd) (n : Int) : (tabF l n).length ≤ 64 := by
  unfold tabF
  split
  · rename_i h
    obtain ⟨h0, h6, -⟩ := ttOK_parts h
    rw [tabL_length]
    exact pow_le64 (by omega)
  · simp
def OwnBP (l : List Bool) (w : World) (e : Ending) (w' : World) : Prop := ∃ v, e = .returned v ∧ OwnB w' w.heap.size v l ∧ Below w.heap.size w w'
theorem shl_pow : ∀ m, m < 7 → (1 : Int) * 2 ^ m = ((2 ^ m : Nat) : Int) := by intro m _; simp
set_option maxHeartbeats 1000000 in
theorem iLogicTable_any (v : Value) (l : List Nd) (n : Int) (w : World) (h : NodesR w w.heap.size v l) (hT : Tab w) :
    Calls Tryd.prog 11 #[v, .int .i64 n] w (OwnBP (tabF l n) w) := by
  have HT := Lib.hid hT
  clear hT
  cases ho : ttOK l n
  · have HO := Lib.hid ho
    clear ho
    go_enter Tryd.func11, Tryd.ntmps11
    go_wp2_with fail
    refine (tt_no v l n _ h HO.out).mono ?_
    rintro e w1 ⟨rfl, hb1⟩
    go_wp2
    go_ret
    exact ⟨_, rfl, by unfold tabF; rw [if_neg (by rw [HO.out]; simp)]; exact World.ownsRow_nil _ _ _ _, hb1⟩
  · obtain ⟨h0, h6, hv⟩ := ttOK_parts ho
    have HO := Lib.hid ho
    have HV := Lib.hid hv
    clear ho hv
    obtain ⟨m, rfl⟩ := Int.eq_ofNat_of_zero_le h0
    have hm : m < 7 := by omega
    have hp := Lib.hid (pow_le64 (show m ≤ 6 by omega))
    go_enter Tryd.func11, Tryd.ntmps11
    go_wp2_with fail
    refine (tt_yes v l m _ h HT.out h0 h6 HV.out).mono ?_
    rintro e w1 ⟨rfl, hb1⟩
    have hd : ∀ w2 : World, Calls Tryd.prog 25 #[.int .u64 (tabN l : Nat), .int .i64 ((2 ^ m : Nat) : Int)] w2 (RBP (tabN l) (2 ^ m) w2) := fun w2 => rbools_any (tabN l) (2 ^ m) w2 (tabN_lt l) hp.out
    have hR := rows_tab HV.out (show m ≤ 6 by omega)
    have HD := Lib.hid hd
    have HR := Lib.hid hR
    clear hd hR
    have h7 : m = 0 ∨ m = 1 ∨ m = 2 ∨ m = 3 ∨ m = 4 ∨ m = 5 ∨ m = 6 := by omega
    rcases h7 with rfl | rfl | rfl | rfl | rfl | rfl | rfl
    all_goals
      go_wp2_with fail
      refine (HD.out _).mono ?_
      rintro e w2 ⟨v2, rfl, hO, hb2⟩
      go_wp2
      go_ret
      exact ⟨_, rfl, by have e := HR.out; unfold tabF; rw [if_pos HO.out]; rw [e] at hO; exact mono_own hO hb1.size, hb1.trans (hb2.mono hb1.size)⟩
def eqvI (a b : List Nd) (n : Int) : Bool := ttOK a n && ttOK b n && decide (tabN a = tabN b)
def depI (l : List Nd) (n bit : Int) : Bool := ttOK l n && decide (0 ≤ bit) && decide (bit < n) && decide (depN (tabN l) bit.toNat ≠ 0)
end Go.Proofs.YtoagnajljdbobabDoor
