/- The specification's equivalence, dependence, evaluation, negation, used bits. -/
import Derived.Test.YtbbaojmmjcdliaaDoorSm
import Derived.Test.YtbbaojmmjcdliaaDoorS
namespace Go.Proofs.YtbbaojmmjcdliaaDoor
open Go.RowKit
attribute [local go_sem ↓] Go.wp_at_zero Go.wp_at_succ

def eqvS (xs ys : List Bool) : Bool := decide (xs.length ≠ 0) && decide (xs = ys)
theorem eqvS_tab (a b : List Nd) (n : Int) : eqvS (tabF a n) (tabF b n) = eqvI a b n := by
  unfold eqvS eqvI tabF
  cases ha : ttOK a n
  · simp
  · obtain ⟨h0, h6, hv⟩ := ttOK_parts ha
    obtain ⟨m, rfl⟩ := Int.eq_ofNat_of_zero_le h0
    have hp : 2 ^ m ≠ 0 := Nat.pos_iff_ne_zero.1 (Nat.two_pow_pos m)
    cases hb : ttOK b m
    · simp only [if_true, Bool.false_eq_true, if_false]
      rw [decide_eq_false (p := tabL a (m : Int).toNat = []) (by intro e; have := congrArg List.length e; rw [tabL_length] at this; simp at this)]
      simp
    · obtain ⟨-, -, hv2⟩ := ttOK_parts hb
      simp only [if_true]
      rw [rows_eq (n := m) hv hv2 (by omega), tabL_length]
      simp
theorem eqv_no0 {xs ys : List Bool} (h : xs.length = 0) : eqvS xs ys = false := by unfold eqvS; simp [h]
theorem eqv_nol {xs ys : List Bool} (h : xs.length ≠ ys.length) : eqvS xs ys = false := by
  unfold eqvS; rw [decide_eq_false (p := xs = ys) (fun e => h (by rw [e]))]; simp
theorem eqv_ne {xs ys : List Bool} {k : Nat} (h1 : k < xs.length) (h2 : k < ys.length) (h : xs[k] ≠ ys[k]) : eqvS xs ys = false := by
  unfold eqvS; rw [decide_eq_false (p := xs = ys) (fun e => h (by subst e; rfl))]; simp
theorem eqv_yes {xs ys : List Bool} (h0 : xs.length ≠ 0) (h : xs.length = ys.length) (hp : ∀ (j : Nat) (h1 : j < xs.length) (h2 : j < ys.length), xs[j] = ys[j]) : eqvS xs ys = true := by
  unfold eqvS; rw [decide_eq_true h0, decide_eq_true (List.ext_getElem h fun i h1 h2 => hp i h1 h2)]; rfl
set_option maxHeartbeats 2000000 in
theorem sLogicEquivalent_any (v1 v2 : Value) (a b : List Nd) (n : Int) (w : World) (h1 : NodesR w w.heap.size v1 a) (h2 : NodesR w w.heap.size v2 b) :
    Calls Tryd.prog 25 #[v1, v2, .int .i64 n] w fun e w' => e = .returned (.bool (eqvI a b n)) ∧ Below w.heap.size w w' := by
  have H2 := Lib.hid h2
  clear h2
  rw [← eqvS_tab]
  obtain ⟨xs, hxs⟩ : ∃ xs, xs = tabF a n := ⟨_, rfl⟩
  obtain ⟨ys, hys⟩ : ∃ ys, ys = tabF b n := ⟨_, rfl⟩
  have HX := Lib.hid hxs
  have HY := Lib.hid hys
  have lx : xs.length ≤ 64 := by rw [hxs]; exact tabF_small a n
  have ly : ys.length ≤ 64 := by rw [hys]; exact tabF_small b n
  rw [← hxs, ← hys]
  clear hxs hys
  go_enter Tryd.func25, Tryd.ntmps25
  go_wp2_with fail
  refine (sLogicTable_any v1 a n _ h1).mono ?_
  rintro e w1 ⟨u1, rfl, hO1, hb1⟩
  go_wp2_with fail
  refine (sLogicTable_any v2 b n _ (H2.out.below hb1)).mono ?_
  rintro e w2 ⟨u2, rfl, hO2, hb2⟩
  rw [← HX.out] at hO1
  rw [← HY.out] at hO2
  have hb3 := hb1.trans (hb2.mono hb1.size)
  have hr1 := (hO1.read (by omega)).below hb2
  have hr2 := hO2.read (by omega)
  obtain ⟨A, c, rfl, g1, -⟩ := hr1
  obtain ⟨A2, c2, rfl, g2, -⟩ := hr2
  clear hO1 hO2 hb1 hb2 h1
  by_cases hz : xs.length = 0
  · have q0 : ((xs.length : Int) == 0) = true := by simp [hz]
    have HE := Lib.hid (eqv_no0 (ys := ys) hz)
    clear hz
    go_wp2
    go_ret
    exact ⟨ret_bool HE.out.symm, hb3⟩
  have q0 : ((xs.length : Int) == 0) = false := by rw [beq_eq_false_iff_ne]; omega
  by_cases hne : xs.length = ys.length
  · have q1 : ((xs.length : Int) != (ys.length : Int)) = false := by rw [bne_eq_false_iff_eq]; omega
    have Hne := Lib.hid hne
    have Hz := Lib.hid hz
    clear hne hz
    go_wp2
    go_loopw [9] (fun i wr => ∃ k : Nat, k ≤ xs.length ∧ i = .int .i64 k ∧ agree xs ys k ∧ Below w2.heap.size w2 wr) (fun i _ => xs.length - (intOf i).toNat)
    case atStart => exact ⟨0, by omega, rfl, agree_zero _ _, Below.refl _ _⟩
    case round =>
      obtain ⟨k, hk, rfl, hag, hbr⟩ := hrel
      by_cases hlt : k < xs.length
      · have hlt2 : k < ys.length := by have := Hne.out; omega
        obtain ⟨p, u, rfl, hpb, hu, hc⟩ := g1.one hlt
        obtain ⟨p2, u2, rfl, hpb2, hu2, hc2⟩ := g2.one hlt2
        have hx : u = .bool xs[k] := by rw [List.getElem?_map, List.getElem?_eq_getElem hlt] at hu; simpa using hu.symm
        have hx2 : u2 = .bool ys[k] := by rw [List.getElem?_map, List.getElem?_eq_getElem hlt2] at hu2; simpa using hu2.symm
        subst hx; subst hx2
        have e1 := (hbr.cell (p := p.add k) (by rw [add_block]; exact hpb)).trans hc
        have e2 := (hbr.cell (p := p2.add k) (by rw [add_block]; exact hpb2)).trans hc2
        clear hu hu2 hc hc2 g1 g2
        have i1 : (k : Int) < (xs.length : Int) := by omega
        have i2 : (k : Int) < (ys.length : Int) := by omega
        obtain ⟨x, hx⟩ : ∃ x, x = xs[k] := ⟨_, rfl⟩
        obtain ⟨y, hy⟩ : ∃ y, y = ys[k] := ⟨_, rfl⟩
        rw [← hx] at e1
        rw [← hy] at e2
        have Hx := Lib.hid hx; have Hy := Lib.hid hy
        clear hx hy
        by_cases hxy : x = y
        · have Hag := Lib.hid (agree_succ hag hlt hlt2 (by rw [← Hx.out, ← Hy.out]; exact hxy))
          subst hxy
          clear hag
          cases x
          all_goals
            go_wp2
            go_quiet (fail)
            go_wp2
            go_roundw
            case rel => exact ⟨k + 1, by omega, by go_num, Hag.out, by exact hbr.trans ⟨rfl, rfl, rfl, Nat.le_refl _, fun _ _ => rfl⟩⟩
            case measure => simp [intOf]; omega
        · have Hag := Lib.hid (eqv_ne hlt hlt2 (by rw [← Hx.out, ← Hy.out]; exact hxy))
          clear hag
          have hd : (x != y) = true := by simpa using hxy
          have H3 := Lib.hid hxy
          clear hxy
          cases x <;> cases y
          all_goals first
            | exact absurd rfl H3.out
            | (go_wp2
               go_quiet (fail)
               go_wp2
               go_ret
               exact ⟨ret_bool Hag.out.symm, hb3.trans ((hbr.mono hb3.size).trans ⟨rfl, rfl, rfl, Nat.le_refl _, fun _ _ => rfl⟩)⟩)
      · go_wp2
        go_ret
        exact ⟨ret_bool (eqv_yes Hz.out Hne.out fun j g1 g2 => hag j g1 g2 (by omega)).symm, hb3.trans (hbr.mono hb3.size)⟩
  · have q1 : ((xs.length : Int) != (ys.length : Int)) = true := by rw [bne_iff_ne]; omega
    have HE := Lib.hid (eqv_nol hne)
    clear hne hz
    go_wp2
    go_ret
    exact ⟨ret_bool HE.out.symm, hb3⟩
end Go.Proofs.YtbbaojmmjcdliaaDoor
