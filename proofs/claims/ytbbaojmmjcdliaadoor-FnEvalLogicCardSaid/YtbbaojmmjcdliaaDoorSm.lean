/- The specification's tables, equivalence, dependence, evaluation. -/
import Derived.Test.YtbbaojmmjcdliaaDoorSe
import Derived.Test.YtbbaojmmjcdliaaDoorE
import Derived.Test.YtbbaojmmjcdliaaDoorIq
import Derived.Test.YtbbaojmmjcdliaaDoorIu
namespace Go.Proofs.YtbbaojmmjcdliaaDoor
open Go.RowKit
attribute [local go_sem ↓] Go.wp_at_zero Go.wp_at_succ

theorem bit_form (x k : Nat) : (((x : Int) / 2 ^ k).tmod 2 == 1) = x.testBit k := by
  have e : (x : Int) / 2 ^ k = ((x / 2 ^ k : Nat) : Int) := by simp [Int.natCast_pow]
  rw [e, Int.tmod_eq_emod_of_nonneg (Int.natCast_nonneg _), Nat.testBit_eq_decide_div_mod_eq]
  generalize x / 2 ^ k = y
  rw [Bool.eq_iff_iff]
  simp
  omega
def bitsL (x n : Nat) : List Bool := (List.range n).map x.testBit
theorem bitsL_succ (x n : Nat) : bitsL x (n + 1) = bitsL x n ++ [x.testBit n] := by unfold bitsL; rw [List.range_succ, List.map_append]; rfl
theorem bitsL_len (x n : Nat) : (bitsL x n).length = n := by simp [bitsL]
set_option maxHeartbeats 400000 in
theorem l2Bits_any (x n : Nat) (w : World) (hx : x < 1000) (hn : n ≤ 6) :
    Calls Tryd.prog 59 #[.int .i64 x, .int .i64 n] w (OwnBP (bitsL x n) w) := by
  go_enter Tryd.func59, Tryd.ntmps59
  go_wp2
  go_loopw [5, 6] (fun v i wr => ∃ k : Nat, k ≤ n ∧ i = .int .i64 k ∧ OwnB wr w.heap.size v (bitsL x k) ∧ Below w.heap.size w wr) (fun _ i _ => n - (intOf i).toNat)
  case atStart => exact ⟨0, by omega, rfl, own_lit0 rfl (by omega), (Below.refl _ _).alloc (Nat.le_refl _) _⟩
  case round =>
    obtain ⟨k, hk, rfl, hown, hbr⟩ := hrel
    have hsz := hbr.size
    by_cases hlt : k < n
    · have hS := Lib.hid (bitsL_succ x k)
      have hL := bitsL_len x k
      have HL := Lib.hid hL
      obtain ⟨SA, sc, rfl, -, -⟩ := own_form hown
      rw [hL]
      have hown' : wr.ownsRow w.heap.size 4 1 (.slice SA k sc) k ((bitsL x k).map .bool) := by have := hown; unfold OwnB at this; rwa [HL.out] at this
      have hbf := bit_form x k
      clear hown hL
      go_wp2_with (at_builtin; refine wpl_append rfl _ _ 23 rfl elB rfl (hown'.alloc _) rfl (Rd.new1 _ _ _) ?_ ?_ ?_ ?_ ?_)
      · first | rfl | (intro u hu; simp at hu; subst hu; rfl)
      · omega
      · omega
      · first | omega | (simp; omega)
      intro v' w1 hown1 hg1 _
      have R : OwnB w1 w.heap.size v' (bitsL x (k + 1)) := by unfold OwnB; rw [bitsL_len, hS.out]; have h := hown1; first | (rw [hbf] at h; simpa using h) | simpa using h
      have hb1 : Below w.heap.size w w1 := (hbr.alloc hsz _).grown hg1 (by simp; omega) (fun j hj => (hown'.lt j hj).1)
      clear hown1 hg1 hown' hbr
      go_wp2
      go_roundw
      case rel => exact ⟨k + 1, by omega, by go_num, R, hb1⟩
      case measure => simp [intOf]; omega
    · go_wp2
      go_ret
      obtain rfl : k = n := by omega
      exact ⟨_, rfl, hown, hbr⟩
theorem row_bits {l : List Nd} {m : Nat} (x : Nat) (h : lvalid l m = true) : val (bAlg (bitsL x m)) l = row l x := by
  refine (evb_valid h _ _ fun k h1 h2 => ?_)
  unfold bitsL
  rw [List.getD_eq_getElem?_getD, List.getElem?_map, List.getElem?_range (by omega)]
  rfl
def rowsL (l : List Nd) (x : Nat) : List Bool := (List.range x).map (row l)
theorem rowsL_succ (l : List Nd) (x : Nat) : rowsL l (x + 1) = rowsL l x ++ [row l x] := by unfold rowsL; rw [List.range_succ, List.map_append]; rfl
theorem rowsL_len (l : List Nd) (x : Nat) : (rowsL l x).length = x := by simp [rowsL]
set_option maxHeartbeats 4000000 in
theorem sLogicTable_any (v : Value) (l : List Nd) (n : Int) (w : World) (h : NodesR w w.heap.size v l) :
    Calls Tryd.prog 22 #[v, .int .i64 n] w (OwnBP (tabF l n) w) := by
  have HN := Lib.hid (fun (w' : World) (hb : Below w.heap.size w w') => h.below hb)
  have B0 : ∀ o, Below w.heap.size w (w.alloc o) := fun o => (Below.refl _ _).alloc (Nat.le_refl _) o
  clear h
  cases ho : ttOK l n
  · have HO := Lib.hid (show tabF l n = [] by unfold tabF; rw [if_neg (by rw [ho]; simp)])
    by_cases hr : inB n 0 6 = true
    · have hv : lvalid l n = false := by unfold inB at hr; unfold ttOK at ho; simp at hr; simp [hr] at ho; exact ho
      clear ho
      go_enter Tryd.func22, Tryd.ntmps22
      go_wp2_with fail
      refine (l1In_any n 0 6 _).mono ?_
      rintro e w1 ⟨rfl, rfl⟩
      go_wp2_with fail
      refine (sLogicValid_any v l n _ (HN.out _ (B0 _))).mono ?_
      rintro e w1 ⟨rfl, hb1⟩
      go_wp2
      go_ret
      exact ⟨_, rfl, by rw [HO.out]; exact own_below (own_lit0 rfl (by omega)) hb1, (B0 _).trans (hb1.mono (by simp))⟩
    · have hr' : inB n 0 6 = false := by simpa using hr
      clear hr ho
      go_enter Tryd.func22, Tryd.ntmps22
      go_wp2_with fail
      refine (l1In_any n 0 6 _).mono ?_
      rintro e w1 ⟨rfl, rfl⟩
      go_wp2
      go_ret
      exact ⟨_, rfl, by rw [HO.out]; exact own_lit0 rfl (by omega), B0 _⟩
  · obtain ⟨h0, h6, hv⟩ := ttOK_parts ho
    obtain ⟨m, rfl⟩ := Int.eq_ofNat_of_zero_le h0
    have HO := Lib.hid (show tabF l m = rowsL l (2 ^ m) by unfold tabF; rw [if_pos ho]; rfl)
    have hin : inB (m : Int) 0 6 = true := by unfold inB; simp; omega
    have HV := Lib.hid hv
    clear ho
    have h7 : m = 0 ∨ m = 1 ∨ m = 2 ∨ m = 3 ∨ m = 4 ∨ m = 5 ∨ m = 6 := by omega
    go_enter Tryd.func22, Tryd.ntmps22
    go_wp2_with fail
    refine (l1In_any (m : Int) 0 6 _).mono ?_
    rintro e w1 ⟨rfl, rfl⟩
    go_wp2_with fail
    refine (sLogicValid_any v l m _ (HN.out _ (B0 _))).mono ?_
    rintro e w1 ⟨rfl, hb1⟩
    have hO1 : OwnB w1 w.heap.size (.slice (some ⟨w.heap.size, 0, none⟩) 0 0) [] := own_below (own_lit0 rfl (by omega)) hb1
    have hb1' := (B0 (.cells #[] 4)).trans (hb1.mono (by simp))
    clear hb1
    go_wp2_with fail
    clear hin hv
    rcases h7 with rfl | rfl | rfl | rfl | rfl | rfl | rfl
    · go_loopw [5, 6] (fun sv i wr => ∃ k : Nat, k ≤ 1 ∧ i = .int .i64 k ∧ OwnB wr w.heap.size sv (rowsL l k) ∧ Below w.heap.size w wr) (fun _ i _ => 1 - (intOf i).toNat)
      case atStart => exact ⟨0, by omega, rfl, hO1, hb1'⟩
      case round =>
        obtain ⟨k, hk, rfl, hown, hbr⟩ := hrel
        have hsz := hbr.size
        by_cases hlt : k < 1
        · have hS := Lib.hid (rowsL_succ l k)
          have hL := rowsL_len l k
          have HL := Lib.hid hL
          obtain ⟨SA, sc, rfl, -, -⟩ := own_form hown
          rw [hL]
          have hown' : wr.ownsRow w.heap.size 4 1 (.slice SA k sc) k ((rowsL l k).map .bool) := by have := hown; unfold OwnB at this; rwa [HL.out] at this
          have HRB := Lib.hid (row_bits k HV.out)
          clear hown hL
          go_wp2_with fail
          refine (l2Bits_any k 0 _ (by omega) (by omega)).mono ?_
          rintro e w2 ⟨v2, rfl, hO2, hb2⟩
          have hbr2 := hbr.trans (hb2.mono hsz)
          have hB2 := hO2.read (by rw [bitsL_len]; omega)
          have HB2 := Lib.hid hB2
          obtain ⟨VA, vc, rfl, -, -⟩ := own_form hO2
          have hown2 := own_below hown' hb2
          clear hO2 hB2
          go_wp2_with fail
          refine (sEval_any v _ l (bitsL k 0) _ (HN.out _ hbr2) HB2.out (by rw [bitsL_len]; exact HV.out)).mono ?_
          rintro e w3 ⟨rfl, hb3⟩
          have hbr3 := hbr2.trans (hb3.mono hbr2.size)
          have hown3 := own_below hown2 hb3
          rw [HRB.out]
          obtain ⟨y, hy⟩ : ∃ y, y = row l k := ⟨_, rfl⟩
          rw [← hy]
          have HY := Lib.hid hy
          have hsz3 := hbr3.size
          clear hy hown2 hown' hbr2 hbr hb2 hb3
          go_wp2_with (at_builtin; refine wpl_append rfl _ _ 23 rfl elB rfl (World.ownsRow.alloc hown3 _) rfl (Rd.new1 _ _ _) ?_ ?_ ?_ ?_ ?_)
          · first | rfl | (intro u hu; simp at hu; subst hu; rfl)
          · omega
          · omega
          · first | omega | (simp; omega)
          intro v' w4 hown4 hg4 _
          have R : OwnB w4 w.heap.size v' (rowsL l (k + 1)) := by unfold OwnB; rw [rowsL_len, hS.out, ← HY.out]; simpa using hown4
          have hb4 : Below w.heap.size w w4 := (hbr3.alloc hsz3 _).grown hg4 (by simp; omega) (fun j hj => (hown3.lt j hj).1)
          clear hown4 hg4 hown3 hbr3
          go_wp2
          go_roundw
          case rel => first | exact ⟨k + 1, by omega, by go_num, R, hb4⟩ | ((repeat apply Exists.intro); exact ⟨⟨k + 1, by omega, by go_num, R, hb4⟩, rfl⟩)
          case measure => simp [intOf]; omega
        · go_wp2
          go_ret
          obtain rfl : k = 1 := by omega
          exact ⟨_, rfl, by rw [HO.out]; exact hown, hbr⟩
    · go_loopw [5, 6] (fun sv i wr => ∃ k : Nat, k ≤ 2 ∧ i = .int .i64 k ∧ OwnB wr w.heap.size sv (rowsL l k) ∧ Below w.heap.size w wr) (fun _ i _ => 2 - (intOf i).toNat)
      case atStart => exact ⟨0, by omega, rfl, hO1, hb1'⟩
      case round =>
        obtain ⟨k, hk, rfl, hown, hbr⟩ := hrel
        have hsz := hbr.size
        by_cases hlt : k < 2
        · have hS := Lib.hid (rowsL_succ l k)
          have hL := rowsL_len l k
          have HL := Lib.hid hL
          obtain ⟨SA, sc, rfl, -, -⟩ := own_form hown
          rw [hL]
          have hown' : wr.ownsRow w.heap.size 4 1 (.slice SA k sc) k ((rowsL l k).map .bool) := by have := hown; unfold OwnB at this; rwa [HL.out] at this
          have HRB := Lib.hid (row_bits k HV.out)
          clear hown hL
          go_wp2_with fail
          refine (l2Bits_any k 1 _ (by omega) (by omega)).mono ?_
          rintro e w2 ⟨v2, rfl, hO2, hb2⟩
          have hbr2 := hbr.trans (hb2.mono hsz)
          have hB2 := hO2.read (by rw [bitsL_len]; omega)
          have HB2 := Lib.hid hB2
          obtain ⟨VA, vc, rfl, -, -⟩ := own_form hO2
          have hown2 := own_below hown' hb2
          clear hO2 hB2
          go_wp2_with fail
          refine (sEval_any v _ l (bitsL k 1) _ (HN.out _ hbr2) HB2.out (by rw [bitsL_len]; exact HV.out)).mono ?_
          rintro e w3 ⟨rfl, hb3⟩
          have hbr3 := hbr2.trans (hb3.mono hbr2.size)
          have hown3 := own_below hown2 hb3
          rw [HRB.out]
          obtain ⟨y, hy⟩ : ∃ y, y = row l k := ⟨_, rfl⟩
          rw [← hy]
          have HY := Lib.hid hy
          have hsz3 := hbr3.size
          clear hy hown2 hown' hbr2 hbr hb2 hb3
          go_wp2_with (at_builtin; refine wpl_append rfl _ _ 23 rfl elB rfl (World.ownsRow.alloc hown3 _) rfl (Rd.new1 _ _ _) ?_ ?_ ?_ ?_ ?_)
          · first | rfl | (intro u hu; simp at hu; subst hu; rfl)
          · omega
          · omega
          · first | omega | (simp; omega)
          intro v' w4 hown4 hg4 _
          have R : OwnB w4 w.heap.size v' (rowsL l (k + 1)) := by unfold OwnB; rw [rowsL_len, hS.out, ← HY.out]; simpa using hown4
          have hb4 : Below w.heap.size w w4 := (hbr3.alloc hsz3 _).grown hg4 (by simp; omega) (fun j hj => (hown3.lt j hj).1)
          clear hown4 hg4 hown3 hbr3
          go_wp2
          go_roundw
          case rel => first | exact ⟨k + 1, by omega, by go_num, R, hb4⟩ | ((repeat apply Exists.intro); exact ⟨⟨k + 1, by omega, by go_num, R, hb4⟩, rfl⟩)
          case measure => simp [intOf]; omega
        · go_wp2
          go_ret
          obtain rfl : k = 2 := by omega
          exact ⟨_, rfl, by rw [HO.out]; exact hown, hbr⟩
    · go_loopw [5, 6] (fun sv i wr => ∃ k : Nat, k ≤ 4 ∧ i = .int .i64 k ∧ OwnB wr w.heap.size sv (rowsL l k) ∧ Below w.heap.size w wr) (fun _ i _ => 4 - (intOf i).toNat)
      case atStart => exact ⟨0, by omega, rfl, hO1, hb1'⟩
      case round =>
        obtain ⟨k, hk, rfl, hown, hbr⟩ := hrel
        have hsz := hbr.size
        by_cases hlt : k < 4
        · have hS := Lib.hid (rowsL_succ l k)
          have hL := rowsL_len l k
          have HL := Lib.hid hL
          obtain ⟨SA, sc, rfl, -, -⟩ := own_form hown
          rw [hL]
          have hown' : wr.ownsRow w.heap.size 4 1 (.slice SA k sc) k ((rowsL l k).map .bool) := by have := hown; unfold OwnB at this; rwa [HL.out] at this
          have HRB := Lib.hid (row_bits k HV.out)
          clear hown hL
          go_wp2_with fail
          refine (l2Bits_any k 2 _ (by omega) (by omega)).mono ?_
          rintro e w2 ⟨v2, rfl, hO2, hb2⟩
          have hbr2 := hbr.trans (hb2.mono hsz)
          have hB2 := hO2.read (by rw [bitsL_len]; omega)
          have HB2 := Lib.hid hB2
          obtain ⟨VA, vc, rfl, -, -⟩ := own_form hO2
          have hown2 := own_below hown' hb2
          clear hO2 hB2
          go_wp2_with fail
          refine (sEval_any v _ l (bitsL k 2) _ (HN.out _ hbr2) HB2.out (by rw [bitsL_len]; exact HV.out)).mono ?_
          rintro e w3 ⟨rfl, hb3⟩
          have hbr3 := hbr2.trans (hb3.mono hbr2.size)
          have hown3 := own_below hown2 hb3
          rw [HRB.out]
          obtain ⟨y, hy⟩ : ∃ y, y = row l k := ⟨_, rfl⟩
          rw [← hy]
          have HY := Lib.hid hy
          have hsz3 := hbr3.size
          clear hy hown2 hown' hbr2 hbr hb2 hb3
          go_wp2_with (at_builtin; refine wpl_append rfl _ _ 23 rfl elB rfl (World.ownsRow.alloc hown3 _) rfl (Rd.new1 _ _ _) ?_ ?_ ?_ ?_ ?_)
          · first | rfl | (intro u hu; simp at hu; subst hu; rfl)
          · omega
          · omega
          · first | omega | (simp; omega)
          intro v' w4 hown4 hg4 _
          have R : OwnB w4 w.heap.size v' (rowsL l (k + 1)) := by unfold OwnB; rw [rowsL_len, hS.out, ← HY.out]; simpa using hown4
          have hb4 : Below w.heap.size w w4 := (hbr3.alloc hsz3 _).grown hg4 (by simp; omega) (fun j hj => (hown3.lt j hj).1)
          clear hown4 hg4 hown3 hbr3
          go_wp2
          go_roundw
          case rel => first | exact ⟨k + 1, by omega, by go_num, R, hb4⟩ | ((repeat apply Exists.intro); exact ⟨⟨k + 1, by omega, by go_num, R, hb4⟩, rfl⟩)
          case measure => simp [intOf]; omega
        · go_wp2
          go_ret
          obtain rfl : k = 4 := by omega
          exact ⟨_, rfl, by rw [HO.out]; exact hown, hbr⟩
    · go_loopw [5, 6] (fun sv i wr => ∃ k : Nat, k ≤ 8 ∧ i = .int .i64 k ∧ OwnB wr w.heap.size sv (rowsL l k) ∧ Below w.heap.size w wr) (fun _ i _ => 8 - (intOf i).toNat)
      case atStart => exact ⟨0, by omega, rfl, hO1, hb1'⟩
      case round =>
        obtain ⟨k, hk, rfl, hown, hbr⟩ := hrel
        have hsz := hbr.size
        by_cases hlt : k < 8
        · have hS := Lib.hid (rowsL_succ l k)
          have hL := rowsL_len l k
          have HL := Lib.hid hL
          obtain ⟨SA, sc, rfl, -, -⟩ := own_form hown
          rw [hL]
          have hown' : wr.ownsRow w.heap.size 4 1 (.slice SA k sc) k ((rowsL l k).map .bool) := by have := hown; unfold OwnB at this; rwa [HL.out] at this
          have HRB := Lib.hid (row_bits k HV.out)
          clear hown hL
          go_wp2_with fail
          refine (l2Bits_any k 3 _ (by omega) (by omega)).mono ?_
          rintro e w2 ⟨v2, rfl, hO2, hb2⟩
          have hbr2 := hbr.trans (hb2.mono hsz)
          have hB2 := hO2.read (by rw [bitsL_len]; omega)
          have HB2 := Lib.hid hB2
          obtain ⟨VA, vc, rfl, -, -⟩ := own_form hO2
          have hown2 := own_below hown' hb2
          clear hO2 hB2
          go_wp2_with fail
          refine (sEval_any v _ l (bitsL k 3) _ (HN.out _ hbr2) HB2.out (by rw [bitsL_len]; exact HV.out)).mono ?_
          rintro e w3 ⟨rfl, hb3⟩
          have hbr3 := hbr2.trans (hb3.mono hbr2.size)
          have hown3 := own_below hown2 hb3
          rw [HRB.out]
          obtain ⟨y, hy⟩ : ∃ y, y = row l k := ⟨_, rfl⟩
          rw [← hy]
          have HY := Lib.hid hy
          have hsz3 := hbr3.size
          clear hy hown2 hown' hbr2 hbr hb2 hb3
          go_wp2_with (at_builtin; refine wpl_append rfl _ _ 23 rfl elB rfl (World.ownsRow.alloc hown3 _) rfl (Rd.new1 _ _ _) ?_ ?_ ?_ ?_ ?_)
          · first | rfl | (intro u hu; simp at hu; subst hu; rfl)
          · omega
          · omega
          · first | omega | (simp; omega)
          intro v' w4 hown4 hg4 _
          have R : OwnB w4 w.heap.size v' (rowsL l (k + 1)) := by unfold OwnB; rw [rowsL_len, hS.out, ← HY.out]; simpa using hown4
          have hb4 : Below w.heap.size w w4 := (hbr3.alloc hsz3 _).grown hg4 (by simp; omega) (fun j hj => (hown3.lt j hj).1)
          clear hown4 hg4 hown3 hbr3
          go_wp2
          go_roundw
          case rel => first | exact ⟨k + 1, by omega, by go_num, R, hb4⟩ | ((repeat apply Exists.intro); exact ⟨⟨k + 1, by omega, by go_num, R, hb4⟩, rfl⟩)
          case measure => simp [intOf]; omega
        · go_wp2
          go_ret
          obtain rfl : k = 8 := by omega
          exact ⟨_, rfl, by rw [HO.out]; exact hown, hbr⟩
    · go_loopw [5, 6] (fun sv i wr => ∃ k : Nat, k ≤ 16 ∧ i = .int .i64 k ∧ OwnB wr w.heap.size sv (rowsL l k) ∧ Below w.heap.size w wr) (fun _ i _ => 16 - (intOf i).toNat)
      case atStart => exact ⟨0, by omega, rfl, hO1, hb1'⟩
      case round =>
        obtain ⟨k, hk, rfl, hown, hbr⟩ := hrel
        have hsz := hbr.size
        by_cases hlt : k < 16
        · have hS := Lib.hid (rowsL_succ l k)
          have hL := rowsL_len l k
          have HL := Lib.hid hL
          obtain ⟨SA, sc, rfl, -, -⟩ := own_form hown
          rw [hL]
          have hown' : wr.ownsRow w.heap.size 4 1 (.slice SA k sc) k ((rowsL l k).map .bool) := by have := hown; unfold OwnB at this; rwa [HL.out] at this
          have HRB := Lib.hid (row_bits k HV.out)
          clear hown hL
          go_wp2_with fail
          refine (l2Bits_any k 4 _ (by omega) (by omega)).mono ?_
          rintro e w2 ⟨v2, rfl, hO2, hb2⟩
          have hbr2 := hbr.trans (hb2.mono hsz)
          have hB2 := hO2.read (by rw [bitsL_len]; omega)
          have HB2 := Lib.hid hB2
          obtain ⟨VA, vc, rfl, -, -⟩ := own_form hO2
          have hown2 := own_below hown' hb2
          clear hO2 hB2
          go_wp2_with fail
          refine (sEval_any v _ l (bitsL k 4) _ (HN.out _ hbr2) HB2.out (by rw [bitsL_len]; exact HV.out)).mono ?_
          rintro e w3 ⟨rfl, hb3⟩
          have hbr3 := hbr2.trans (hb3.mono hbr2.size)
          have hown3 := own_below hown2 hb3
          rw [HRB.out]
          obtain ⟨y, hy⟩ : ∃ y, y = row l k := ⟨_, rfl⟩
          rw [← hy]
          have HY := Lib.hid hy
          have hsz3 := hbr3.size
          clear hy hown2 hown' hbr2 hbr hb2 hb3
          go_wp2_with (at_builtin; refine wpl_append rfl _ _ 23 rfl elB rfl (World.ownsRow.alloc hown3 _) rfl (Rd.new1 _ _ _) ?_ ?_ ?_ ?_ ?_)
          · first | rfl | (intro u hu; simp at hu; subst hu; rfl)
          · omega
          · omega
          · first | omega | (simp; omega)
          intro v' w4 hown4 hg4 _
          have R : OwnB w4 w.heap.size v' (rowsL l (k + 1)) := by unfold OwnB; rw [rowsL_len, hS.out, ← HY.out]; simpa using hown4
          have hb4 : Below w.heap.size w w4 := (hbr3.alloc hsz3 _).grown hg4 (by simp; omega) (fun j hj => (hown3.lt j hj).1)
          clear hown4 hg4 hown3 hbr3
          go_wp2
          go_roundw
          case rel => first | exact ⟨k + 1, by omega, by go_num, R, hb4⟩ | ((repeat apply Exists.intro); exact ⟨⟨k + 1, by omega, by go_num, R, hb4⟩, rfl⟩)
          case measure => simp [intOf]; omega
        · go_wp2
          go_ret
          obtain rfl : k = 16 := by omega
          exact ⟨_, rfl, by rw [HO.out]; exact hown, hbr⟩
    · go_loopw [5, 6] (fun sv i wr => ∃ k : Nat, k ≤ 32 ∧ i = .int .i64 k ∧ OwnB wr w.heap.size sv (rowsL l k) ∧ Below w.heap.size w wr) (fun _ i _ => 32 - (intOf i).toNat)
      case atStart => exact ⟨0, by omega, rfl, hO1, hb1'⟩
      case round =>
        obtain ⟨k, hk, rfl, hown, hbr⟩ := hrel
        have hsz := hbr.size
        by_cases hlt : k < 32
        · have hS := Lib.hid (rowsL_succ l k)
          have hL := rowsL_len l k
          have HL := Lib.hid hL
          obtain ⟨SA, sc, rfl, -, -⟩ := own_form hown
          rw [hL]
          have hown' : wr.ownsRow w.heap.size 4 1 (.slice SA k sc) k ((rowsL l k).map .bool) := by have := hown; unfold OwnB at this; rwa [HL.out] at this
          have HRB := Lib.hid (row_bits k HV.out)
          clear hown hL
          go_wp2_with fail
          refine (l2Bits_any k 5 _ (by omega) (by omega)).mono ?_
          rintro e w2 ⟨v2, rfl, hO2, hb2⟩
          have hbr2 := hbr.trans (hb2.mono hsz)
          have hB2 := hO2.read (by rw [bitsL_len]; omega)
          have HB2 := Lib.hid hB2
          obtain ⟨VA, vc, rfl, -, -⟩ := own_form hO2
          have hown2 := own_below hown' hb2
          clear hO2 hB2
          go_wp2_with fail
          refine (sEval_any v _ l (bitsL k 5) _ (HN.out _ hbr2) HB2.out (by rw [bitsL_len]; exact HV.out)).mono ?_
          rintro e w3 ⟨rfl, hb3⟩
          have hbr3 := hbr2.trans (hb3.mono hbr2.size)
          have hown3 := own_below hown2 hb3
          rw [HRB.out]
          obtain ⟨y, hy⟩ : ∃ y, y = row l k := ⟨_, rfl⟩
          rw [← hy]
          have HY := Lib.hid hy
          have hsz3 := hbr3.size
          clear hy hown2 hown' hbr2 hbr hb2 hb3
          go_wp2_with (at_builtin; refine wpl_append rfl _ _ 23 rfl elB rfl (World.ownsRow.alloc hown3 _) rfl (Rd.new1 _ _ _) ?_ ?_ ?_ ?_ ?_)
          · first | rfl | (intro u hu; simp at hu; subst hu; rfl)
          · omega
          · omega
          · first | omega | (simp; omega)
          intro v' w4 hown4 hg4 _
          have R : OwnB w4 w.heap.size v' (rowsL l (k + 1)) := by unfold OwnB; rw [rowsL_len, hS.out, ← HY.out]; simpa using hown4
          have hb4 : Below w.heap.size w w4 := (hbr3.alloc hsz3 _).grown hg4 (by simp; omega) (fun j hj => (hown3.lt j hj).1)
          clear hown4 hg4 hown3 hbr3
          go_wp2
          go_roundw
          case rel => first | exact ⟨k + 1, by omega, by go_num, R, hb4⟩ | ((repeat apply Exists.intro); exact ⟨⟨k + 1, by omega, by go_num, R, hb4⟩, rfl⟩)
          case measure => simp [intOf]; omega
        · go_wp2
          go_ret
          obtain rfl : k = 32 := by omega
          exact ⟨_, rfl, by rw [HO.out]; exact hown, hbr⟩
    · go_loopw [5, 6] (fun sv i wr => ∃ k : Nat, k ≤ 64 ∧ i = .int .i64 k ∧ OwnB wr w.heap.size sv (rowsL l k) ∧ Below w.heap.size w wr) (fun _ i _ => 64 - (intOf i).toNat)
      case atStart => exact ⟨0, by omega, rfl, hO1, hb1'⟩
      case round =>
        obtain ⟨k, hk, rfl, hown, hbr⟩ := hrel
        have hsz := hbr.size
        by_cases hlt : k < 64
        · have hS := Lib.hid (rowsL_succ l k)
          have hL := rowsL_len l k
          have HL := Lib.hid hL
          obtain ⟨SA, sc, rfl, -, -⟩ := own_form hown
          rw [hL]
          have hown' : wr.ownsRow w.heap.size 4 1 (.slice SA k sc) k ((rowsL l k).map .bool) := by have := hown; unfold OwnB at this; rwa [HL.out] at this
          have HRB := Lib.hid (row_bits k HV.out)
          clear hown hL
          go_wp2_with fail
          refine (l2Bits_any k 6 _ (by omega) (by omega)).mono ?_
          rintro e w2 ⟨v2, rfl, hO2, hb2⟩
          have hbr2 := hbr.trans (hb2.mono hsz)
          have hB2 := hO2.read (by rw [bitsL_len]; omega)
          have HB2 := Lib.hid hB2
          obtain ⟨VA, vc, rfl, -, -⟩ := own_form hO2
          have hown2 := own_below hown' hb2
          clear hO2 hB2
          go_wp2_with fail
          refine (sEval_any v _ l (bitsL k 6) _ (HN.out _ hbr2) HB2.out (by rw [bitsL_len]; exact HV.out)).mono ?_
          rintro e w3 ⟨rfl, hb3⟩
          have hbr3 := hbr2.trans (hb3.mono hbr2.size)
          have hown3 := own_below hown2 hb3
          rw [HRB.out]
          obtain ⟨y, hy⟩ : ∃ y, y = row l k := ⟨_, rfl⟩
          rw [← hy]
          have HY := Lib.hid hy
          have hsz3 := hbr3.size
          clear hy hown2 hown' hbr2 hbr hb2 hb3
          go_wp2_with (at_builtin; refine wpl_append rfl _ _ 23 rfl elB rfl (World.ownsRow.alloc hown3 _) rfl (Rd.new1 _ _ _) ?_ ?_ ?_ ?_ ?_)
          · first | rfl | (intro u hu; simp at hu; subst hu; rfl)
          · omega
          · omega
          · first | omega | (simp; omega)
          intro v' w4 hown4 hg4 _
          have R : OwnB w4 w.heap.size v' (rowsL l (k + 1)) := by unfold OwnB; rw [rowsL_len, hS.out, ← HY.out]; simpa using hown4
          have hb4 : Below w.heap.size w w4 := (hbr3.alloc hsz3 _).grown hg4 (by simp; omega) (fun j hj => (hown3.lt j hj).1)
          clear hown4 hg4 hown3 hbr3
          go_wp2
          go_roundw
          case rel => first | exact ⟨k + 1, by omega, by go_num, R, hb4⟩ | ((repeat apply Exists.intro); exact ⟨⟨k + 1, by omega, by go_num, R, hb4⟩, rfl⟩)
          case measure => simp [intOf]; omega
        · go_wp2
          go_ret
          obtain rfl : k = 64 := by omega
          exact ⟨_, rfl, by rw [HO.out]; exact hown, hbr⟩
end Go.Proofs.YtbbaojmmjcdliaaDoor
