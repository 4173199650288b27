/- The contract of a drawn expression that may be invalid: l20Expr. -/
import Derived.Test.YtoagnajljdbobabDoorOs
namespace Go.Proofs.YtoagnajljdbobabDoor
open Go.RowKit
attribute [local go_sem ↓] Go.wp_at_zero Go.wp_at_succ

def ExprPost (g P : Nat) (w : World) (e : Ending) (w' : World) : Prop :=
  ∃ v l, e = .returned v ∧ OwnS w' w.heap.size v l ∧ l.length ≤ 40 ∧ (∀ x ∈ l, smN x) ∧ Rdr w' g (P + 50) ∧ Fr w.heap.size g w w'

set_option maxHeartbeats 2000000 in
theorem expr0_any (g P : Nat) (bad : Int) (w : World) (hw : Rdr w g P) (hP : P + 200 ≤ 1000000) (hb1 : -1000000 ≤ bad) (hb2 : bad ≤ 1000000) :
    Calls Tryd.prog 14 #[.pointer (some ⟨g, 0, none⟩), .int .i64 0, .int .i64 bad] w (ExprPost g P w) := by
  have hgl := hw.lt
  go_enter Tryd.func14, Tryd.ntmps14
  go_wp2_with fail
  refine (pick_any g P 5 _ hw (by omega) (by omega)).mono ?_
  rintro e w1 ⟨r1, rfl, hr1, hR1, hF1⟩
  have hs1 := hF1.size
  clear hw
  go_wp2_with fail
  refine (logic_any g 1 (by omega) (1 + r1).toNat (1 + r1) (P + 1) _ (by omega) (by omega) (by omega) hR1 (by omega)).mono ?_
  rintro e w2 ⟨v2, l2, rfl, hO2, hl2, hsm2, hR2, hF2⟩
  have hs2 := hF2.size
  replace hF2 := hF1.trans (hF2.mono hs1)
  replace hR2 := hR2.mono (Q := P + 37) (by omega)
  have hz2 := hF2.size
  clear hO2 hl2 hsm2 hR1 hF1 hs1 hs2
  go_wp2_with fail
  refine (pick_any g _ 2 _ hR2 (by omega) (by omega)).mono ?_
  rintro e w3 ⟨r3, rfl, hr3, hR3, hF3⟩
  replace hF3 := hF2.trans (hF3.mono hz2)
  have hs3 := hF3.size
  have hOT := OwnS.of (own_litN (W := w3) (base := w.heap.size) (6 + r3) 0 hs3) (by simp)
  have hRT := hR3.below ((Below.refl _ _).alloc (Nat.le_refl _) (.cells #[.int .i64 (6 + r3), .int .i64 0] 49))
  have hFT := hF3.alloc hs3 (.cells #[.int .i64 (6 + r3), .int .i64 0] 49)
  have hsm : ∀ x ∈ [(⟨6 + r3, 0⟩ : Nd)], smN x := by simp [smN]; omega
  replace hRT := hRT.mono (Q := P + 40) (by omega)
  go_wp2_with fail
  obtain ⟨L, hL⟩ : ∃ L, L = [(⟨6 + r3, 0⟩ : Nd)] := ⟨_, rfl⟩
  obtain ⟨V, hV⟩ : ∃ V, V = Value.slice (some ⟨w3.heap.size, 0, none⟩) 1 1 := ⟨_, rfl⟩
  obtain ⟨wt, hwt⟩ : ∃ wt, wt = w3.alloc (.cells #[.int .i64 (6 + r3), .int .i64 0] 49) := ⟨_, rfl⟩
  have hlT : 1 ≤ L.length ∧ L.length ≤ 18 := by rw [hL]; simp
  rw [← hL] at hOT hsm
  rw [← hV] at hOT ⊢
  rw [← hwt] at hOT hRT hFT ⊢
  clear hL hV hwt hR2 hF2 hR3 hF3 hs3 hz2 hr1 hr3
  refine (odd_any g (P + 40) bad _ hRT (by omega) (by omega) (by omega)).mono ?_
  rintro e w4 ⟨b, rfl, hb, hR4, hF4⟩
  have hO4 := hF4.ownS hOT hgl
  replace hF4 := hFT.trans (hF4.mono hFT.size)
  have hs4 := hF4.size
  clear hOT hRT hFT hb
  obtain ⟨B, off, cap, rfl, ⟨hB1, hB2⟩, hcap, hrd4⟩ := hO4.form
  cases b
  · go_wp2
    go_ret
    exact ⟨_, _, rfl, hO4, by omega, hsm, hR4.mono (by omega), hF4⟩
  · go_wp2_with fail
    refine (pick_any g _ (L.length : Int) _ hR4 (by omega) (by omega)).mono ?_
    rintro e w5 ⟨r5, rfl, hr5, hR5, hF5⟩
    have hO5 := hF5.ownS hO4 hgl
    replace hF5 := hF4.trans (hF5.mono hs4)
    have hs5 := hF5.size
    obtain ⟨k, hk⟩ : ∃ k : Nat, r5 = k := ⟨r5.toNat, by omega⟩
    subst hk
    have hkL : k < L.length := by omega
    clear hO4 hR4 hF4 hs4 hr5 hB2 hrd4
    go_wp2_with fail
    refine (pick_any g _ 5 _ hR5 (by omega) (by omega)).mono ?_
    rintro e w6 ⟨r6, rfl, hr6, hR6, hF6⟩
    have hO6 := hF6.ownS hO5 hgl
    replace hF6 := hF5.trans (hF6.mono hs5)
    have hs6 := hF6.size
    clear hO5 hR5 hF5 hs5
    have h6 : r6 = 0 ∨ r6 = 1 ∨ r6 = 2 ∨ r6 = 3 ∨ r6 = 4 := by omega
    clear hr6
    rcases h6 with rfl | rfl | rfl | rfl | rfl
    · have hR6a := hR6.below ((Below.refl _ _).alloc (Nat.le_refl _) (.cells #[.int .i64 0, .int .i64 8, .int .i64 (-1)] 3))
      go_wp2_with fail
      refine (pick_any g _ 3 _ hR6a (by omega) (by omega)).mono ?_
      rintro e w7 ⟨r7, rfl, hr7, hR7, hF7⟩
      obtain ⟨k0, k1, k2⟩ := hF7.kept w6.heap.size (by simp) (by have := hR6.lt; omega) (by simp)
      have hO7 := hF7.ownS (hO6.alloc _) hgl
      replace hF7 := (hF6.alloc hs6 _).trans (hF7.mono (by simp; omega))
      obtain ⟨x, hx, hidx⟩ : ∃ x : Int, (-1 ≤ x ∧ x ≤ 8) ∧ w7.cell? ⟨w6.heap.size, r7.toNat, none⟩ = some (.int .i64 x) := by
        have h3 : r7 = 0 ∨ r7 = 1 ∨ r7 = 2 := by omega
        rcases h3 with rfl | rfl | rfl
        · exact ⟨0, by omega, by simp [k0]⟩
        · exact ⟨8, by omega, by simp [k0]⟩
        · exact ⟨-1, by omega, by simp [k0]⟩
      have hi7 : r7 < 3 := by omega
      clear hR6 hR6a hF6 hO6 hs6 k0 k1 k2
      obtain ⟨q1, q2, q3⟩ := hO7.at_ hkL
      have hO8 := hO7.setO k hkL x
      have hF8 := hF7.setCell (p := ⟨B, off + k * 2, none⟩) (.inl hB1) (.int .i64 x)
      have hR8 := hR7.setCell (p := ⟨B, off + k * 2, none⟩) (by simp; omega) (.int .i64 x)
      go_wp2
      go_ret
      exact ⟨_, L.modify k fun n => ⟨x, n.bit⟩, rfl, hO8, by simp; omega, sm_mod hsm k _ (fun y hy => ⟨by simp; omega, hy.2⟩), hR8.mono (by omega), hF8⟩
    · have hR6a := hR6.below ((Below.refl _ _).alloc (Nat.le_refl _) (.cells #[.int .i64 (-1), .int .i64 0, .int .i64 16, .int .i64 1] 3))
      go_wp2_with fail
      refine (pick_any g _ 4 _ hR6a (by omega) (by omega)).mono ?_
      rintro e w7 ⟨r7, rfl, hr7, hR7, hF7⟩
      obtain ⟨k0, k1, k2⟩ := hF7.kept w6.heap.size (by simp) (by have := hR6.lt; omega) (by simp)
      have hO7 := hF7.ownS (hO6.alloc _) hgl
      replace hF7 := (hF6.alloc hs6 _).trans (hF7.mono (by simp; omega))
      obtain ⟨x, hx, hidx⟩ : ∃ x : Int, (-1 ≤ x ∧ x ≤ 1000) ∧ w7.cell? ⟨w6.heap.size, r7.toNat, none⟩ = some (.int .i64 x) := by
        have h3 : r7 = 0 ∨ r7 = 1 ∨ r7 = 2 ∨ r7 = 3 := by omega
        rcases h3 with rfl | rfl | rfl | rfl
        · exact ⟨-1, by omega, by simp [k0]⟩
        · exact ⟨0, by omega, by simp [k0]⟩
        · exact ⟨16, by omega, by simp [k0]⟩
        · exact ⟨1, by omega, by simp [k0]⟩
      have hi7 : r7 < 4 := by omega
      clear hR6 hR6a hF6 hO6 hs6 k0 k1 k2
      obtain ⟨q1, q2, q3⟩ := hO7.at_ hkL
      have hO8 := hO7.setB k hkL x
      have hF8 := hF7.setCell (p := ⟨B, off + k * 2 + 1, none⟩) (.inl hB1) (.int .i64 x)
      have hR8 := hR7.setCell (p := ⟨B, off + k * 2 + 1, none⟩) (by simp; omega) (.int .i64 x)
      go_wp2
      go_ret
      exact ⟨_, L.modify k fun n => ⟨n.op, x⟩, rfl, hO8, by simp; omega, sm_mod hsm k _ (fun y hy => ⟨hy.1, by simp; omega⟩), hR8.mono (by omega), hF8⟩
    · have hD := hO6.drop 1 hlT.1
      have hdl : (L.drop 1).length = L.length - 1 := by simp
      have hsD : ∀ x ∈ L.drop 1, smN x := fun x hx => hsm x (List.mem_of_mem_drop hx)
      by_cases hc1 : cap = 1
      · subst hc1
        simp only [if_true, Nat.sub_self] at hD
        rw [show L.length - 1 = 0 by omega] at hD
        go_wp2
        go_ret
        exact ⟨_, _, rfl, hD, by omega, hsD, hR6.mono (by omega), hF6⟩
      · rw [if_neg hc1] at hD
        go_wp2
        go_ret
        exact ⟨_, _, rfl, hD, by omega, hsD, hR6.mono (by omega), hF6⟩
    · obtain ⟨B', off', cap', ev, ⟨-, hB2⟩, -, hrd6⟩ := hO6.form
      injection ev with ev1 _ ev2
      injection ev1 with ev1
      injection ev1 with ev1 ev3
      subst ev1; subst ev2; subst ev3
      have hlt := hO6.lt
      go_wp2_with (at_builtin; refine wpl_appendS rfl _ _ 27 rfl elN rfl hO6 rfl rfl hrd6 (by omega) (by omega) hs6 ?_)
      intro v7 w7 hO7 hg7
      have hF7 := hF6.grown hg7 hs6 (fun j hj => .inl (hlt j hj).1)
      have hR7 := hR6.grown hg7 (fun j hj => by have := (hlt j hj).1; omega)
      go_wp2
      go_ret
      exact ⟨_, _, rfl, hO7, by rw [List.length_append]; omega, smN_app hsm hsm, hR7.mono (by omega), hF7⟩
    · go_wp2_with fail
      go_loopw [7] (fun v wr => ∃ l' : List Nd, OwnS wr w.heap.size v l' ∧ l'.length ≤ 25 ∧ (∀ x ∈ l', smN x) ∧ Rdr wr g (P + 43) ∧ Fr w.heap.size g w wr) (fun v _ => 25 - slLen v)
      case atStart => exact ⟨L, hO6, by omega, hsm, hR6, hF6⟩
      case round =>
        obtain ⟨l', hO, hl, hs, hR, hF⟩ := hrel
        clear hR6 hF6 hO6 hs6
        have hsF := hF.size
        obtain ⟨B', off', cap', rfl, ⟨hB1', hB2'⟩, hcap', -⟩ := hO.form
        by_cases h24 : l'.length ≤ 24
        · have hlt := hO.lt
          go_wp2_with (at_builtin; refine wpl_appendS rfl _ _ 27 rfl elN (l2 := [⟨2, 0⟩]) rfl (hO.alloc _) rfl rfl (Rd.newN _ ⟨2, 0⟩ _) (by omega) (by omega) ?_ ?_)
          · simp; omega
          intro v7 w7 hO7 hg7
          have hF7 := (hF.alloc hsF _).grown hg7 (by simp; omega) (fun j hj => .inl (hlt j hj).1)
          have hR7 := (hR.below ((Below.refl _ _).alloc (Nat.le_refl _) _)).grown hg7 (fun j hj => by have := (hlt j hj).1; omega)
          obtain ⟨B7, off7, cap7, rfl, -, -, -⟩ := hO7.form
          go_wp2
          go_roundw
          case rel => exact ⟨l' ++ [⟨2, 0⟩], hO7, by rw [List.length_append]; simp; omega, sm_add hs (by unfold smN; simp), hR7, hF7⟩
          case measure => simp [slLen]; omega
        · go_wp2
          go_ret
          exact ⟨_, _, rfl, hO, by omega, hs, hR.mono (by omega), hF⟩
set_option maxHeartbeats 2000000 in
theorem expr2_any (g P n : Nat) (bad : Int) (w : World) (hw : Rdr w g P) (hP : P + 200 ≤ 1000000) (hn : 2 ≤ n ∧ n ≤ 1000) (hb1 : -1000000 ≤ bad) (hb2 : bad ≤ 1000000) :
    Calls Tryd.prog 14 #[.pointer (some ⟨g, 0, none⟩), .int .i64 n, .int .i64 bad] w (ExprPost g P w) := by
  have hgl := hw.lt
  have hmx : (1 : Int) < n := by omega
  go_enter Tryd.func14, Tryd.ntmps14
  go_wp2_with fail
  refine (pick_any g P 5 _ hw (by omega) (by omega)).mono ?_
  rintro e w1 ⟨r1, rfl, hr1, hR1, hF1⟩
  have hs1 := hF1.size
  clear hw
  go_wp2_with fail
  refine (logic_any g n (by omega) (1 + r1).toNat (1 + r1) (P + 1) _ (by omega) (by omega) (by omega) hR1 (by omega)).mono ?_
  rintro e wt ⟨V, L, rfl, hO2, hl2, hsm, hR2, hF2⟩
  have hFT := hF1.trans (hF2.mono hs1)
  have hRT := hR2.mono (Q := P + 40) (by omega)
  have hlT : 1 ≤ L.length ∧ L.length ≤ 18 := by omega
  have hOT := (OwnS.of hO2 hlT.1).mono (b' := w.heap.size) hs1
  clear hO2 hl2 hR1 hF1 hs1 hR2 hF2 hmx hr1
  go_wp2_with fail
  refine (odd_any g (P + 40) bad _ hRT (by omega) (by omega) (by omega)).mono ?_
  rintro e w4 ⟨b, rfl, hb, hR4, hF4⟩
  have hO4 := hF4.ownS hOT hgl
  replace hF4 := hFT.trans (hF4.mono hFT.size)
  have hs4 := hF4.size
  clear hOT hRT hFT hb
  obtain ⟨B, off, cap, rfl, ⟨hB1, hB2⟩, hcap, hrd4⟩ := hO4.form
  cases b
  · go_wp2
    go_ret
    exact ⟨_, _, rfl, hO4, by omega, hsm, hR4.mono (by omega), hF4⟩
  · go_wp2_with fail
    refine (pick_any g _ (L.length : Int) _ hR4 (by omega) (by omega)).mono ?_
    rintro e w5 ⟨r5, rfl, hr5, hR5, hF5⟩
    have hO5 := hF5.ownS hO4 hgl
    replace hF5 := hF4.trans (hF5.mono hs4)
    have hs5 := hF5.size
    obtain ⟨k, hk⟩ : ∃ k : Nat, r5 = k := ⟨r5.toNat, by omega⟩
    subst hk
    have hkL : k < L.length := by omega
    clear hO4 hR4 hF4 hs4 hr5 hB2 hrd4
    go_wp2_with fail
    refine (pick_any g _ 5 _ hR5 (by omega) (by omega)).mono ?_
    rintro e w6 ⟨r6, rfl, hr6, hR6, hF6⟩
    have hO6 := hF6.ownS hO5 hgl
    replace hF6 := hF5.trans (hF6.mono hs5)
    have hs6 := hF6.size
    clear hO5 hR5 hF5 hs5
    have h6 : r6 = 0 ∨ r6 = 1 ∨ r6 = 2 ∨ r6 = 3 ∨ r6 = 4 := by omega
    clear hr6
    rcases h6 with rfl | rfl | rfl | rfl | rfl
    · have hR6a := hR6.below ((Below.refl _ _).alloc (Nat.le_refl _) (.cells #[.int .i64 0, .int .i64 8, .int .i64 (-1)] 3))
      go_wp2_with fail
      refine (pick_any g _ 3 _ hR6a (by omega) (by omega)).mono ?_
      rintro e w7 ⟨r7, rfl, hr7, hR7, hF7⟩
      obtain ⟨k0, k1, k2⟩ := hF7.kept w6.heap.size (by simp) (by have := hR6.lt; omega) (by simp)
      have hO7 := hF7.ownS (hO6.alloc _) hgl
      replace hF7 := (hF6.alloc hs6 _).trans (hF7.mono (by simp; omega))
      obtain ⟨x, hx, hidx⟩ : ∃ x : Int, (-1 ≤ x ∧ x ≤ 8) ∧ w7.cell? ⟨w6.heap.size, r7.toNat, none⟩ = some (.int .i64 x) := by
        have h3 : r7 = 0 ∨ r7 = 1 ∨ r7 = 2 := by omega
        rcases h3 with rfl | rfl | rfl
        · exact ⟨0, by omega, by simp [k0]⟩
        · exact ⟨8, by omega, by simp [k0]⟩
        · exact ⟨-1, by omega, by simp [k0]⟩
      have hi7 : r7 < 3 := by omega
      clear hR6 hR6a hF6 hO6 hs6 k0 k1 k2
      obtain ⟨q1, q2, q3⟩ := hO7.at_ hkL
      have hO8 := hO7.setO k hkL x
      have hF8 := hF7.setCell (p := ⟨B, off + k * 2, none⟩) (.inl hB1) (.int .i64 x)
      have hR8 := hR7.setCell (p := ⟨B, off + k * 2, none⟩) (by simp; omega) (.int .i64 x)
      go_wp2
      go_ret
      exact ⟨_, L.modify k fun n => ⟨x, n.bit⟩, rfl, hO8, by simp; omega, sm_mod hsm k _ (fun y hy => ⟨by simp; omega, hy.2⟩), hR8.mono (by omega), hF8⟩
    · have hR6a := hR6.below ((Below.refl _ _).alloc (Nat.le_refl _) (.cells #[.int .i64 (-1), .int .i64 n, .int .i64 16, .int .i64 1] 3))
      go_wp2_with fail
      refine (pick_any g _ 4 _ hR6a (by omega) (by omega)).mono ?_
      rintro e w7 ⟨r7, rfl, hr7, hR7, hF7⟩
      obtain ⟨k0, k1, k2⟩ := hF7.kept w6.heap.size (by simp) (by have := hR6.lt; omega) (by simp)
      have hO7 := hF7.ownS (hO6.alloc _) hgl
      replace hF7 := (hF6.alloc hs6 _).trans (hF7.mono (by simp; omega))
      obtain ⟨x, hx, hidx⟩ : ∃ x : Int, (-1 ≤ x ∧ x ≤ 1000) ∧ w7.cell? ⟨w6.heap.size, r7.toNat, none⟩ = some (.int .i64 x) := by
        have h3 : r7 = 0 ∨ r7 = 1 ∨ r7 = 2 ∨ r7 = 3 := by omega
        rcases h3 with rfl | rfl | rfl | rfl
        · exact ⟨-1, by omega, by simp [k0]⟩
        · exact ⟨n, by omega, by simp [k0]⟩
        · exact ⟨16, by omega, by simp [k0]⟩
        · exact ⟨1, by omega, by simp [k0]⟩
      have hi7 : r7 < 4 := by omega
      clear hR6 hR6a hF6 hO6 hs6 k0 k1 k2
      obtain ⟨q1, q2, q3⟩ := hO7.at_ hkL
      have hO8 := hO7.setB k hkL x
      have hF8 := hF7.setCell (p := ⟨B, off + k * 2 + 1, none⟩) (.inl hB1) (.int .i64 x)
      have hR8 := hR7.setCell (p := ⟨B, off + k * 2 + 1, none⟩) (by simp; omega) (.int .i64 x)
      go_wp2
      go_ret
      exact ⟨_, L.modify k fun n => ⟨n.op, x⟩, rfl, hO8, by simp; omega, sm_mod hsm k _ (fun y hy => ⟨hy.1, by simp; omega⟩), hR8.mono (by omega), hF8⟩
    · have hD := hO6.drop 1 hlT.1
      have hdl : (L.drop 1).length = L.length - 1 := by simp
      have hsD : ∀ x ∈ L.drop 1, smN x := fun x hx => hsm x (List.mem_of_mem_drop hx)
      by_cases hc1 : cap = 1
      · subst hc1
        simp only [if_true, Nat.sub_self] at hD
        rw [show L.length - 1 = 0 by omega] at hD
        go_wp2
        go_ret
        exact ⟨_, _, rfl, hD, by omega, hsD, hR6.mono (by omega), hF6⟩
      · rw [if_neg hc1] at hD
        go_wp2
        go_ret
        exact ⟨_, _, rfl, hD, by omega, hsD, hR6.mono (by omega), hF6⟩
    · obtain ⟨B', off', cap', ev, ⟨-, hB2⟩, -, hrd6⟩ := hO6.form
      injection ev with ev1 _ ev2
      injection ev1 with ev1
      injection ev1 with ev1 ev3
      subst ev1; subst ev2; subst ev3
      have hlt := hO6.lt
      go_wp2_with (at_builtin; refine wpl_appendS rfl _ _ 27 rfl elN rfl hO6 rfl rfl hrd6 (by omega) (by omega) hs6 ?_)
      intro v7 w7 hO7 hg7
      have hF7 := hF6.grown hg7 hs6 (fun j hj => .inl (hlt j hj).1)
      have hR7 := hR6.grown hg7 (fun j hj => by have := (hlt j hj).1; omega)
      go_wp2
      go_ret
      exact ⟨_, _, rfl, hO7, by rw [List.length_append]; omega, smN_app hsm hsm, hR7.mono (by omega), hF7⟩
    · go_wp2_with fail
      go_loopw [7] (fun v wr => ∃ l' : List Nd, OwnS wr w.heap.size v l' ∧ l'.length ≤ 25 ∧ (∀ x ∈ l', smN x) ∧ Rdr wr g (P + 43) ∧ Fr w.heap.size g w wr) (fun v _ => 25 - slLen v)
      case atStart => exact ⟨L, hO6, by omega, hsm, hR6, hF6⟩
      case round =>
        obtain ⟨l', hO, hl, hs, hR, hF⟩ := hrel
        clear hR6 hF6 hO6 hs6
        have hsF := hF.size
        obtain ⟨B', off', cap', rfl, ⟨hB1', hB2'⟩, hcap', -⟩ := hO.form
        by_cases h24 : l'.length ≤ 24
        · have hlt := hO.lt
          go_wp2_with (at_builtin; refine wpl_appendS rfl _ _ 27 rfl elN (l2 := [⟨2, 0⟩]) rfl (hO.alloc _) rfl rfl (Rd.newN _ ⟨2, 0⟩ _) (by omega) (by omega) ?_ ?_)
          · simp; omega
          intro v7 w7 hO7 hg7
          have hF7 := (hF.alloc hsF _).grown hg7 (by simp; omega) (fun j hj => .inl (hlt j hj).1)
          have hR7 := (hR.below ((Below.refl _ _).alloc (Nat.le_refl _) _)).grown hg7 (fun j hj => by have := (hlt j hj).1; omega)
          obtain ⟨B7, off7, cap7, rfl, -, -, -⟩ := hO7.form
          go_wp2
          go_roundw
          case rel => exact ⟨l' ++ [⟨2, 0⟩], hO7, by rw [List.length_append]; simp; omega, sm_add hs (by unfold smN; simp), hR7, hF7⟩
          case measure => simp [slLen]; omega
        · go_wp2
          go_ret
          exact ⟨_, _, rfl, hO, by omega, hs, hR.mono (by omega), hF⟩
set_option maxHeartbeats 2000000 in
theorem expr1_any (g P : Nat) (bad : Int) (w : World) (hw : Rdr w g P) (hP : P + 200 ≤ 1000000) (hb1 : -1000000 ≤ bad) (hb2 : bad ≤ 1000000) :
    Calls Tryd.prog 14 #[.pointer (some ⟨g, 0, none⟩), .int .i64 1, .int .i64 bad] w (ExprPost g P w) := by
  have hgl := hw.lt
  go_enter Tryd.func14, Tryd.ntmps14
  go_wp2_with fail
  refine (pick_any g P 5 _ hw (by omega) (by omega)).mono ?_
  rintro e w1 ⟨r1, rfl, hr1, hR1, hF1⟩
  have hs1 := hF1.size
  clear hw
  go_wp2_with fail
  refine (logic_any g 1 (by omega) (1 + r1).toNat (1 + r1) (P + 1) _ (by omega) (by omega) (by omega) hR1 (by omega)).mono ?_
  rintro e wt ⟨V, L, rfl, hO2, hl2, hsm, hR2, hF2⟩
  have hFT := hF1.trans (hF2.mono hs1)
  have hRT := hR2.mono (Q := P + 40) (by omega)
  have hlT : 1 ≤ L.length ∧ L.length ≤ 18 := by omega
  have hOT := (OwnS.of hO2 hlT.1).mono (b' := w.heap.size) hs1
  clear hO2 hl2 hR1 hF1 hs1 hR2 hF2 hr1
  go_wp2_with fail
  refine (odd_any g (P + 40) bad _ hRT (by omega) (by omega) (by omega)).mono ?_
  rintro e w4 ⟨b, rfl, hb, hR4, hF4⟩
  have hO4 := hF4.ownS hOT hgl
  replace hF4 := hFT.trans (hF4.mono hFT.size)
  have hs4 := hF4.size
  clear hOT hRT hFT hb
  obtain ⟨B, off, cap, rfl, ⟨hB1, hB2⟩, hcap, hrd4⟩ := hO4.form
  cases b
  · go_wp2
    go_ret
    exact ⟨_, _, rfl, hO4, by omega, hsm, hR4.mono (by omega), hF4⟩
  · go_wp2_with fail
    refine (pick_any g _ (L.length : Int) _ hR4 (by omega) (by omega)).mono ?_
    rintro e w5 ⟨r5, rfl, hr5, hR5, hF5⟩
    have hO5 := hF5.ownS hO4 hgl
    replace hF5 := hF4.trans (hF5.mono hs4)
    have hs5 := hF5.size
    obtain ⟨k, hk⟩ : ∃ k : Nat, r5 = k := ⟨r5.toNat, by omega⟩
    subst hk
    have hkL : k < L.length := by omega
    clear hO4 hR4 hF4 hs4 hr5 hB2 hrd4
    go_wp2_with fail
    refine (pick_any g _ 5 _ hR5 (by omega) (by omega)).mono ?_
    rintro e w6 ⟨r6, rfl, hr6, hR6, hF6⟩
    have hO6 := hF6.ownS hO5 hgl
    replace hF6 := hF5.trans (hF6.mono hs5)
    have hs6 := hF6.size
    clear hO5 hR5 hF5 hs5
    have h6 : r6 = 0 ∨ r6 = 1 ∨ r6 = 2 ∨ r6 = 3 ∨ r6 = 4 := by omega
    clear hr6
    rcases h6 with rfl | rfl | rfl | rfl | rfl
    · have hR6a := hR6.below ((Below.refl _ _).alloc (Nat.le_refl _) (.cells #[.int .i64 0, .int .i64 8, .int .i64 (-1)] 3))
      go_wp2_with fail
      refine (pick_any g _ 3 _ hR6a (by omega) (by omega)).mono ?_
      rintro e w7 ⟨r7, rfl, hr7, hR7, hF7⟩
      obtain ⟨k0, k1, k2⟩ := hF7.kept w6.heap.size (by simp) (by have := hR6.lt; omega) (by simp)
      have hO7 := hF7.ownS (hO6.alloc _) hgl
      replace hF7 := (hF6.alloc hs6 _).trans (hF7.mono (by simp; omega))
      obtain ⟨x, hx, hidx⟩ : ∃ x : Int, (-1 ≤ x ∧ x ≤ 8) ∧ w7.cell? ⟨w6.heap.size, r7.toNat, none⟩ = some (.int .i64 x) := by
        have h3 : r7 = 0 ∨ r7 = 1 ∨ r7 = 2 := by omega
        rcases h3 with rfl | rfl | rfl
        · exact ⟨0, by omega, by simp [k0]⟩
        · exact ⟨8, by omega, by simp [k0]⟩
        · exact ⟨-1, by omega, by simp [k0]⟩
      have hi7 : r7 < 3 := by omega
      clear hR6 hR6a hF6 hO6 hs6 k0 k1 k2
      obtain ⟨q1, q2, q3⟩ := hO7.at_ hkL
      have hO8 := hO7.setO k hkL x
      have hF8 := hF7.setCell (p := ⟨B, off + k * 2, none⟩) (.inl hB1) (.int .i64 x)
      have hR8 := hR7.setCell (p := ⟨B, off + k * 2, none⟩) (by simp; omega) (.int .i64 x)
      go_wp2
      go_ret
      exact ⟨_, L.modify k fun n => ⟨x, n.bit⟩, rfl, hO8, by simp; omega, sm_mod hsm k _ (fun y hy => ⟨by simp; omega, hy.2⟩), hR8.mono (by omega), hF8⟩
    · have hR6a := hR6.below ((Below.refl _ _).alloc (Nat.le_refl _) (.cells #[.int .i64 (-1), .int .i64 1, .int .i64 16, .int .i64 1] 3))
      go_wp2_with fail
      refine (pick_any g _ 4 _ hR6a (by omega) (by omega)).mono ?_
      rintro e w7 ⟨r7, rfl, hr7, hR7, hF7⟩
      obtain ⟨k0, k1, k2⟩ := hF7.kept w6.heap.size (by simp) (by have := hR6.lt; omega) (by simp)
      have hO7 := hF7.ownS (hO6.alloc _) hgl
      replace hF7 := (hF6.alloc hs6 _).trans (hF7.mono (by simp; omega))
      obtain ⟨x, hx, hidx⟩ : ∃ x : Int, (-1 ≤ x ∧ x ≤ 1000) ∧ w7.cell? ⟨w6.heap.size, r7.toNat, none⟩ = some (.int .i64 x) := by
        have h3 : r7 = 0 ∨ r7 = 1 ∨ r7 = 2 ∨ r7 = 3 := by omega
        rcases h3 with rfl | rfl | rfl | rfl
        · exact ⟨-1, by omega, by simp [k0]⟩
        · exact ⟨1, by omega, by simp [k0]⟩
        · exact ⟨16, by omega, by simp [k0]⟩
        · exact ⟨1, by omega, by simp [k0]⟩
      have hi7 : r7 < 4 := by omega
      clear hR6 hR6a hF6 hO6 hs6 k0 k1 k2
      obtain ⟨q1, q2, q3⟩ := hO7.at_ hkL
      have hO8 := hO7.setB k hkL x
      have hF8 := hF7.setCell (p := ⟨B, off + k * 2 + 1, none⟩) (.inl hB1) (.int .i64 x)
      have hR8 := hR7.setCell (p := ⟨B, off + k * 2 + 1, none⟩) (by simp; omega) (.int .i64 x)
      go_wp2
      go_ret
      exact ⟨_, L.modify k fun n => ⟨n.op, x⟩, rfl, hO8, by simp; omega, sm_mod hsm k _ (fun y hy => ⟨hy.1, by simp; omega⟩), hR8.mono (by omega), hF8⟩
    · have hD := hO6.drop 1 hlT.1
      have hdl : (L.drop 1).length = L.length - 1 := by simp
      have hsD : ∀ x ∈ L.drop 1, smN x := fun x hx => hsm x (List.mem_of_mem_drop hx)
      by_cases hc1 : cap = 1
      · subst hc1
        simp only [if_true, Nat.sub_self] at hD
        rw [show L.length - 1 = 0 by omega] at hD
        go_wp2
        go_ret
        exact ⟨_, _, rfl, hD, by omega, hsD, hR6.mono (by omega), hF6⟩
      · rw [if_neg hc1] at hD
        go_wp2
        go_ret
        exact ⟨_, _, rfl, hD, by omega, hsD, hR6.mono (by omega), hF6⟩
    · obtain ⟨B', off', cap', ev, ⟨-, hB2⟩, -, hrd6⟩ := hO6.form
      injection ev with ev1 _ ev2
      injection ev1 with ev1
      injection ev1 with ev1 ev3
      subst ev1; subst ev2; subst ev3
      have hlt := hO6.lt
      go_wp2_with (at_builtin; refine wpl_appendS rfl _ _ 27 rfl elN rfl hO6 rfl rfl hrd6 (by omega) (by omega) hs6 ?_)
      intro v7 w7 hO7 hg7
      have hF7 := hF6.grown hg7 hs6 (fun j hj => .inl (hlt j hj).1)
      have hR7 := hR6.grown hg7 (fun j hj => by have := (hlt j hj).1; omega)
      go_wp2
      go_ret
      exact ⟨_, _, rfl, hO7, by rw [List.length_append]; omega, smN_app hsm hsm, hR7.mono (by omega), hF7⟩
    · go_wp2_with fail
      go_loopw [7] (fun v wr => ∃ l' : List Nd, OwnS wr w.heap.size v l' ∧ l'.length ≤ 25 ∧ (∀ x ∈ l', smN x) ∧ Rdr wr g (P + 43) ∧ Fr w.heap.size g w wr) (fun v _ => 25 - slLen v)
      case atStart => exact ⟨L, hO6, by omega, hsm, hR6, hF6⟩
      case round =>
        obtain ⟨l', hO, hl, hs, hR, hF⟩ := hrel
        clear hR6 hF6 hO6 hs6
        have hsF := hF.size
        obtain ⟨B', off', cap', rfl, ⟨hB1', hB2'⟩, hcap', -⟩ := hO.form
        by_cases h24 : l'.length ≤ 24
        · have hlt := hO.lt
          go_wp2_with (at_builtin; refine wpl_appendS rfl _ _ 27 rfl elN (l2 := [⟨2, 0⟩]) rfl (hO.alloc _) rfl rfl (Rd.newN _ ⟨2, 0⟩ _) (by omega) (by omega) ?_ ?_)
          · simp; omega
          intro v7 w7 hO7 hg7
          have hF7 := (hF.alloc hsF _).grown hg7 (by simp; omega) (fun j hj => .inl (hlt j hj).1)
          have hR7 := (hR.below ((Below.refl _ _).alloc (Nat.le_refl _) _)).grown hg7 (fun j hj => by have := (hlt j hj).1; omega)
          obtain ⟨B7, off7, cap7, rfl, -, -, -⟩ := hO7.form
          go_wp2
          go_roundw
          case rel => exact ⟨l' ++ [⟨2, 0⟩], hO7, by rw [List.length_append]; simp; omega, sm_add hs (by unfold smN; simp), hR7, hF7⟩
          case measure => simp [slLen]; omega
        · go_wp2
          go_ret
          exact ⟨_, _, rfl, hO, by omega, hs, hR.mono (by omega), hF⟩
theorem expr_any (g P n : Nat) (bad : Int) (w : World) (hw : Rdr w g P) (hP : P + 200 ≤ 1000000) (hn : n ≤ 1000) (hb1 : -1000000 ≤ bad) (hb2 : bad ≤ 1000000) :
    Calls Tryd.prog 14 #[.pointer (some ⟨g, 0, none⟩), .int .i64 n, .int .i64 bad] w (ExprPost g P w) := by
  rcases Nat.eq_zero_or_pos n with h0 | h0
  · subst h0; exact expr0_any g P bad w hw hP hb1 hb2
  · by_cases h1 : n = 1
    · subst h1; exact expr1_any g P bad w hw hP hb1 hb2
    · exact expr2_any g P n bad w hw hP ⟨by omega, hn⟩ hb1 hb2
end Go.Proofs.YtoagnajljdbobabDoor
