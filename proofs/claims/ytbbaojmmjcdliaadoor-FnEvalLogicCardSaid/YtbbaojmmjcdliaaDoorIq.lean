/- Truth tables, equivalence, dependence: the program's functions. -/
import Derived.Test.YtbbaojmmjcdliaaDoorIp
namespace Go.Proofs.YtbbaojmmjcdliaaDoor
open Go.RowKit
attribute [local go_sem ↓] Go.wp_at_zero Go.wp_at_succ

theorem ttOK_parts {l : List Nd} {n : Int} (h : ttOK l n = true) : 0 ≤ n ∧ n ≤ 6 ∧ lvalid l n = true := by
  unfold ttOK at h; simp at h; exact ⟨h.1.1, h.1.2, h.2⟩
def tabF (l : List Nd) (n : Int) : List Bool := if ttOK l n then tabL l n.toNat else []
theorem rows_tab {l : List Nd} {n : Nat} (h : lvalid l n = true) (h6 : n ≤ 6) : rowsOf (tabN l) (2 ^ n) = tabL l n := by
  unfold rowsOf tabL
  apply List.map_congr_left
  intro x hx
  have := List.mem_range.1 hx
  have h64 := pow_le64 h6
  exact tabN_bit h (by omega) x (by omega)
theorem tabF_small (l : List Nd) (n : Int) : (tabF l n).length ≤ 64 := by
  unfold tabF
  split
  · rename_i h
    obtain ⟨h0, h6, -⟩ := ttOK_parts h
    rw [tabL_length]
    exact pow_le64 (by omega)
  · simp
def OwnBP (l : List Bool) (w : World) (e : Ending) (w' : World) : Prop := ∃ v, e = .returned v ∧ OwnB w' w.heap.size v l ∧ Below w.heap.size w w'
theorem shl_pow : ∀ m, m < 7 → (1 : Int) * 2 ^ m = ((2 ^ m : Nat) : Int) := by intro m _; simp
set_option maxHeartbeats 1000000 in
theorem iLogicTable_any (v : Value) (l : List Nd) (n : Int) (w : World) (h : NodesR w w.heap.size v l) (hT : Tab w) :
    Calls Tryd.prog 19 #[v, .int .i64 n] w (OwnBP (tabF l n) w) := by
  have HT := Lib.hid hT
  clear hT
  cases ho : ttOK l n
  · have HO := Lib.hid ho
    clear ho
    go_enter Tryd.func19, Tryd.ntmps19
    go_wp2_with fail
    refine (tt_no v l n _ h HO.out).mono ?_
    rintro e w1 ⟨rfl, hb1⟩
    go_wp2
    go_ret
    exact ⟨_, rfl, by unfold tabF; rw [if_neg (by rw [HO.out]; simp)]; exact World.ownsRow_nil _ _ _ _, hb1⟩
  · obtain ⟨h0, h6, hv⟩ := ttOK_parts ho
    have HO := Lib.hid ho
    have HV := Lib.hid hv
    clear ho hv
    obtain ⟨m, rfl⟩ := Int.eq_ofNat_of_zero_le h0
    have hm : m < 7 := by omega
    have hp := Lib.hid (pow_le64 (show m ≤ 6 by omega))
    go_enter Tryd.func19, Tryd.ntmps19
    go_wp2_with fail
    refine (tt_yes v l m _ h HT.out h0 h6 HV.out).mono ?_
    rintro e w1 ⟨rfl, hb1⟩
    have hd : ∀ w2 : World, Calls Tryd.prog 56 #[.int .u64 (tabN l : Nat), .int .i64 ((2 ^ m : Nat) : Int)] w2 (RBP (tabN l) (2 ^ m) w2) := fun w2 => rbools_any (tabN l) (2 ^ m) w2 (tabN_lt l) hp.out
    have hR := rows_tab HV.out (show m ≤ 6 by omega)
    have HD := Lib.hid hd
    have HR := Lib.hid hR
    clear hd hR
    have h7 : m = 0 ∨ m = 1 ∨ m = 2 ∨ m = 3 ∨ m = 4 ∨ m = 5 ∨ m = 6 := by omega
    rcases h7 with rfl | rfl | rfl | rfl | rfl | rfl | rfl
    all_goals
      go_wp2_with fail
      refine (HD.out _).mono ?_
      rintro e w2 ⟨v2, rfl, hO, hb2⟩
      go_wp2
      go_ret
      exact ⟨_, rfl, by have e := HR.out; unfold tabF; rw [if_pos HO.out]; rw [e] at hO; exact mono_own hO hb1.size, hb1.trans (hb2.mono hb1.size)⟩
def eqvI (a b : List Nd) (n : Int) : Bool := ttOK a n && ttOK b n && decide (tabN a = tabN b)
set_option maxHeartbeats 1000000 in
theorem iLogicEquivalent_any (v1 v2 : Value) (a b : List Nd) (n : Int) (w : World) (h1 : NodesR w w.heap.size v1 a) (h2 : NodesR w w.heap.size v2 b) (hT : Tab w) :
    Calls Tryd.prog 24 #[v1, v2, .int .i64 n] w fun e w' => e = .returned (.bool (eqvI a b n)) ∧ Below w.heap.size w w' := by
  have HT := Lib.hid hT
  have H2 := Lib.hid h2
  clear hT h2
  cases ha : ttOK a n
  · have hE : eqvI a b n = false := by unfold eqvI; simp [ha]
    have HA := Lib.hid ha
    clear ha
    cases hb : ttOK b n
    · have HB := Lib.hid hb
      clear hb
      go_enter Tryd.func24, Tryd.ntmps24
      go_wp2_with fail
      refine (tt_no v1 a n _ h1 HA.out).mono ?_
      rintro e w1 ⟨rfl, hb1⟩
      go_wp2_with fail
      refine (tt_no v2 b n _ (H2.out.below hb1) HB.out).mono ?_
      rintro e w2 ⟨rfl, hb2⟩
      go_wp2
      go_ret
      exact ⟨ret_bool hE.symm, hb1.trans (hb2.mono hb1.size)⟩
    · obtain ⟨h0, h6, hv⟩ := ttOK_parts hb
      have HV := Lib.hid hv
      clear hb hv
      go_enter Tryd.func24, Tryd.ntmps24
      go_wp2_with fail
      refine (tt_no v1 a n _ h1 HA.out).mono ?_
      rintro e w1 ⟨rfl, hb1⟩
      go_wp2_with fail
      refine (tt_yes v2 b n _ (H2.out.below hb1) (HT.out.next hb1) h0 h6 HV.out).mono ?_
      rintro e w2 ⟨rfl, hb2⟩
      go_wp2
      go_ret
      exact ⟨ret_bool hE.symm, hb1.trans (hb2.mono hb1.size)⟩
  · obtain ⟨h0, h6, hv⟩ := ttOK_parts ha
    have HV := Lib.hid hv
    clear hv
    cases hb : ttOK b n
    · have hE : eqvI a b n = false := by unfold eqvI; simp [hb]
      have HB := Lib.hid hb
      clear hb ha
      go_enter Tryd.func24, Tryd.ntmps24
      go_wp2_with fail
      refine (tt_yes v1 a n _ h1 HT.out h0 h6 HV.out).mono ?_
      rintro e w1 ⟨rfl, hb1⟩
      go_wp2_with fail
      refine (tt_no v2 b n _ (H2.out.below hb1) HB.out).mono ?_
      rintro e w2 ⟨rfl, hb2⟩
      go_wp2
      go_ret
      exact ⟨ret_bool hE.symm, hb1.trans (hb2.mono hb1.size)⟩
    · obtain ⟨-, -, hv2⟩ := ttOK_parts hb
      have HV2 := Lib.hid hv2
      have hE : eqvI a b n = decide (tabN a = tabN b) := by unfold eqvI; simp [hb, ha]
      have HE := Lib.hid hE
      clear hv2 hb ha hE
      go_enter Tryd.func24, Tryd.ntmps24
      go_wp2_with fail
      refine (tt_yes v1 a n _ h1 HT.out h0 h6 HV.out).mono ?_
      rintro e w1 ⟨rfl, hb1⟩
      go_wp2_with fail
      refine (tt_yes v2 b n _ (H2.out.below hb1) (HT.out.next hb1) h0 h6 HV2.out).mono ?_
      rintro e w2 ⟨rfl, hb2⟩
      go_wp2
      go_ret
      refine ⟨ret_bool ?_, hb1.trans (hb2.mono hb1.size)⟩
      rw [HE.out, Bool.eq_iff_iff]
      simp
      omega
def depI (l : List Nd) (n bit : Int) : Bool := ttOK l n && decide (0 ≤ bit) && decide (bit < n) && decide (depN (tabN l) bit.toNat ≠ 0)
set_option maxHeartbeats 1000000 in
theorem iLogicDepends_any (v : Value) (l : List Nd) (n bit : Int) (w : World) (h : NodesR w w.heap.size v l) (hT : Tab w) :
    Calls Tryd.prog 34 #[v, .int .i64 n, .int .i64 bit] w fun e w' => e = .returned (.bool (depI l n bit)) ∧ Below w.heap.size w w' := by
  have HT := Lib.hid hT
  clear hT
  cases ha : ttOK l n
  · have HE := Lib.hid (show depI l n bit = false by unfold depI; simp [ha])
    have HA := Lib.hid ha
    clear ha
    go_enter Tryd.func34, Tryd.ntmps34
    go_wp2_with fail
    refine (tt_no v l n _ h HA.out).mono ?_
    rintro e w1 ⟨rfl, hb1⟩
    go_wp2
    go_ret
    exact ⟨ret_bool HE.out.symm, hb1⟩
  · obtain ⟨h0, h6, hv⟩ := ttOK_parts ha
    have HV := Lib.hid hv
    have HA := Lib.hid ha
    clear hv ha
    by_cases hb0 : 0 ≤ bit
    · by_cases hbn : bit < n
      · obtain ⟨j, rfl⟩ := Int.eq_ofNat_of_zero_le hb0
        have hj : j < 6 := by omega
        have HE := Lib.hid (show depI l n (j : Int) = decide (depN (tabN l) j ≠ 0) by unfold depI; rw [HA.out]; simp [hbn])
        go_enter Tryd.func34, Tryd.ntmps34
        go_wp2_with fail
        refine (tt_yes v l n _ h HT.out h0 h6 HV.out).mono ?_
        rintro e w1 ⟨rfl, hb1⟩
        have hT1 := Lib.hid (HT.out.next hb1)
        go_wp2_with fail
        refine (rdep_any (tabN l) j _ (tabN_lt l) hj (hT1.out.cell j hj)).mono ?_
        rintro e w2 ⟨rfl, rfl⟩
        go_wp2
        go_ret
        exact ⟨ret_bool (by rw [HE.out]; simp), hb1⟩
      · have HE := Lib.hid (show depI l n bit = false by unfold depI; simp [hbn])
        go_enter Tryd.func34, Tryd.ntmps34
        go_wp2_with fail
        refine (tt_yes v l n _ h HT.out h0 h6 HV.out).mono ?_
        rintro e w1 ⟨rfl, hb1⟩
        go_wp2
        go_ret
        exact ⟨ret_bool HE.out.symm, hb1⟩
    · have HE := Lib.hid (show depI l n bit = false by unfold depI; simp [hb0])
      go_enter Tryd.func34, Tryd.ntmps34
      go_wp2_with fail
      refine (tt_yes v l n _ h HT.out h0 h6 HV.out).mono ?_
      rintro e w1 ⟨rfl, hb1⟩
      go_wp2
      go_ret
      exact ⟨ret_bool HE.out.symm, hb1⟩
end Go.Proofs.YtbbaojmmjcdliaaDoor
