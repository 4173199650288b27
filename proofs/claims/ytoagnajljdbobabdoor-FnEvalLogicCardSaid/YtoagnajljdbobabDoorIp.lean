/- Row sets, truth tables, evaluation, equivalence, dependence: the program's functions. -/
import Derived.Test.YtoagnajljdbobabDoorIm
import Derived.Test.YtoagnajljdbobabDoorLaws
namespace Go.Proofs.YtoagnajljdbobabDoor
open Go.RowKit
attribute [local go_sem ↓] Go.wp_at_zero Go.wp_at_succ

theorem rhas_form (s k : Nat) (hs : s < 18446744073709551616) : (bits .and .u64 ((s : Int) / 2 ^ k) 1 == 1) = s.testBit k := by
  have e : (s : Int) / 2 ^ k = ((s / 2 ^ k : Nat) : Int) := by simp [Int.natCast_pow]
  have h1 : s / 2 ^ k < 18446744073709551616 := Nat.lt_of_le_of_lt (Nat.div_le_self _ _) hs
  rw [e, show (1 : Int) = ((1 : Nat) : Int) from rfl, u64_and_nat _ 1 h1 (by omega), Nat.testBit_eq_decide_div_mod_eq, Nat.and_one_is_mod]
  rcases Nat.mod_two_eq_zero_or_one (s / 2 ^ k) with h | h <;> simp [h]
theorem rhas_any (s k : Nat) (w : World) (hs : s < 18446744073709551616) (hk : k < 64) :
    Calls Tryd.prog 36 #[.int .u64 s, .int .i64 k] w fun e w' => e = .returned (.bool (s.testBit k)) ∧ w = w' := by
  have H := Lib.hid hs
  clear hs
  go_enter Tryd.func36, Tryd.ntmps36
  go_wp2
  go_ret
  exact ⟨ret_bool (rhas_form s k H.out), rfl⟩
theorem madeB0 (n : Nat) (f : Nat → Bool) : (madeCells #[Value.bool false] n).toList = ((List.range n).map fun j => decide (j < 0) && f j).map Value.bool := by
  refine (toList_madeCells_one _ _).trans ?_
  apply List.ext_getElem
  · simp
  · intro i h1 h2; simp
theorem map_set_stepB (n k : Nat) (f : Nat → Bool) :
    (((List.range n).map fun j => decide (j < k) && f j).map Value.bool).set k (.bool (f k)) = ((List.range n).map fun j => decide (j < k + 1) && f j).map Value.bool := by
  apply List.ext_getElem
  · simp
  · intro i h1 h2
    rw [List.getElem_set]
    simp only [List.getElem_map, List.getElem_range]
    by_cases e : k = i
    · subst e; simp
    · rw [if_neg e, decide_eq_decide.2 (show i < k ↔ i < k + 1 by omega)]
/-- the first n rows -/
def rowsOf (s n : Nat) : List Bool := (List.range n).map s.testBit
def RBP (s n : Nat) (w : World) (e : Ending) (w' : World) : Prop := ∃ v, e = .returned v ∧ OwnB w' w.heap.size v (rowsOf s n) ∧ Below w.heap.size w w'
set_option maxHeartbeats 400000 in
theorem rbools_any (s n : Nat) (w : World) (hs : s < 18446744073709551616) (hn : n ≤ 64) :
    Calls Tryd.prog 25 #[.int .u64 s, .int .i64 n] w (RBP s n w) := by
  have HS := Lib.hid hs
  clear hs
  go_enter Tryd.func25, Tryd.ntmps25
  go_wp2_with (at_make; refine wpl_make rfl _ _ 23 rfl elB n rfl rfl ?c1 ?c2 ?_)
  case c1 => omega
  case c2 => omega
  intro w1 hown hb1
  rw [madeB0 n s.testBit] at hown
  have hsz := hb1.size
  go_wp2
  go_loopw [11] (fun i wr => ∃ k : Nat, k ≤ n ∧ i = .int .i64 k ∧ wr.ownsRow w.heap.size 4 1 (.slice (some ⟨w.heap.size, 0, none⟩) n n) n (((List.range n).map fun j => decide (j < k) && s.testBit j).map Value.bool) ∧ Below w.heap.size w wr) (fun i _ => n - (intOf i).toNat)
  case atStart => exact ⟨0, by omega, rfl, hown, hb1⟩
  case round =>
    obtain ⟨k, hk, rfl, hown', hbr⟩ := hrel
    by_cases hlt : k < n
    · have hc := hown'.cellAt k (by omega)
      have hz := hown'.frozenAt k
      have hst := hown'.stored k (.bool (s.testBit k))
      rw [map_set_stepB n k s.testBit] at hst
      obtain ⟨u, hu⟩ : ∃ u, (((List.range n).map fun j => decide (j < k) && s.testBit j).map Value.bool)[k]? = some u := ⟨_, List.getElem?_eq_getElem (by simp; omega)⟩
      rw [hu] at hc
      have H := Lib.hid hst
      clear hst hu hown' hown
      go_wp2_with (go_at_call 36; refine (rhas_any s k _ HS.out (by omega)).mono ?_; rintro e w' ⟨rfl, rfl⟩)
      go_roundw
      case rel => exact ⟨k + 1, by omega, by go_num, H.out.1, hbr.setCell (by simp) _⟩
      case measure => simp [intOf]; omega
    · go_wp2
      go_ret
      obtain rfl : k = n := by omega
      refine ⟨_, rfl, ?_, hbr⟩
      unfold OwnB rowsOf
      have e : ((List.range k).map fun j => decide (j < k) && s.testBit j) = (List.range k).map s.testBit := by
        apply List.map_congr_left
        intro j hj
        rw [decide_eq_true (List.mem_range.1 hj), Bool.true_and]
      rw [← e]
      simpa using hown'
theorem col_not : ∀ k, k < 6 → 18446744073709551615 - colN k = 18446744073709551615 ^^^ colN k := by decide
theorem rdep_form (s k : Nat) (hs : s < 18446744073709551616) (hk : k < 6) : (bits .andNot .u64 (bits .xor .u64 (s : Int) ((s : Int) / 2 ^ min (IntKind.u64.wrap (2 ^ k)).toNat 64)) (colN k : Nat) != 0) = decide (depN s k ≠ 0) := by
  have hp : 2 ^ k ≤ 32 := by
    have : 2 ^ k ≤ 2 ^ 5 := Nat.pow_le_pow_right (by omega) (by omega)
    omega
  have e0 : (IntKind.u64.wrap ((2 : Int) ^ k)) = ((2 ^ k : Nat) : Int) := by
    have e : ((2 : Int) ^ k) = ((2 ^ k : Nat) : Int) := by rw [Int.natCast_pow]; rfl
    rw [IntKind.wrap_u64, e]
    generalize (2 ^ k : Nat) = x at hp
    omega
  have e1 : min (IntKind.u64.wrap ((2 : Int) ^ k)).toNat 64 = 2 ^ k := by rw [e0]; generalize (2 ^ k : Nat) = x at hp; omega
  rw [e1]
  have e2 : (s : Int) / 2 ^ (2 ^ k) = ((s / 2 ^ (2 ^ k) : Nat) : Int) := by simp [Int.natCast_pow]
  have h1 : s / 2 ^ (2 ^ k) < 18446744073709551616 := Nat.lt_of_le_of_lt (Nat.div_le_self _ _) hs
  rw [e2, u64_xor_nat s _ hs h1, u64_andNot_nat _ _ (Nat.xor_lt_two_pow (n := 64) hs h1) (colN_lt k), col_not k hk, ← Nat.shiftRight_eq_div_pow]
  unfold depN
  generalize ((s ^^^ s >>> 2 ^ k) &&& (18446744073709551615 ^^^ colN k)) = y
  rw [Bool.eq_iff_iff]
  simp
/-- The table of columns, which the program's start lays. -/
structure Tab (w : World) : Prop where
  pos : 0 < w.heap.size
  cell : ∀ k, k < 6 → w.cell? ⟨0, k, none⟩ = some (.int .u64 (colN k))
theorem Tab.below {w w' : World} {B : Nat} (h : Tab w) (hb : Below B w w') (hB : 0 < B) : Tab w' := ⟨Nat.lt_of_lt_of_le h.pos hb.size, fun k hk => (hb.cell (p := ⟨0, k, none⟩) (by exact hB)).trans (h.cell k hk)⟩
theorem Tab.next {w w' : World} (h : Tab w) (hb : Below w.heap.size w w') : Tab w' := h.below hb h.pos
theorem idx6 (a0 a1 a2 a3 a4 a5 : Value) (w : World) : (Instr.index 72 (.agg #[a0, a1, a2, a3, a4, a5]) (.int .i64 0)).run Tryd.prog w = .ok a0 w ∧ (Instr.index 72 (.agg #[a0, a1, a2, a3, a4, a5]) (.int .i64 1)).run Tryd.prog w = .ok a1 w
    ∧ (Instr.index 72 (.agg #[a0, a1, a2, a3, a4, a5]) (.int .i64 2)).run Tryd.prog w = .ok a2 w ∧ (Instr.index 72 (.agg #[a0, a1, a2, a3, a4, a5]) (.int .i64 3)).run Tryd.prog w = .ok a3 w
    ∧ (Instr.index 72 (.agg #[a0, a1, a2, a3, a4, a5]) (.int .i64 4)).run Tryd.prog w = .ok a4 w ∧ (Instr.index 72 (.agg #[a0, a1, a2, a3, a4, a5]) (.int .i64 5)).run Tryd.prog w = .ok a5 w :=
  ⟨by kernel_rfl, by kernel_rfl, by kernel_rfl, by kernel_rfl, by kernel_rfl, by kernel_rfl⟩
theorem idxT (a : Nat → Value) (k : Nat) (hk : k < 6) (w : World) : (Instr.index 72 (.agg #[a 0, a 1, a 2, a 3, a 4, a 5]) (.int .i64 (k : Int))).run Tryd.prog w = .ok (a k) w := by
  obtain ⟨h0, h1, h2, h3, h4, h5⟩ := idx6 (a 0) (a 1) (a 2) (a 3) (a 4) (a 5) w
  match k, hk with
  | 0, _ => exact h0
  | 1, _ => exact h1
  | 2, _ => exact h2
  | 3, _ => exact h3
  | 4, _ => exact h4
  | 5, _ => exact h5
def colK (k : Nat) (j : Nat) : Int := if j < k then (colN j : Nat) else 0
theorem mCells_put (c : Nat → Int) (v : Value) (k : Nat) (x : Int) (h : k < 16) : (mCells c v).set k (.int .u64 x) = mCells (fun j => if j = k then x else c j) v := by
  unfold mCells
  rw [List.set_append_left _ _ (by simpa using h)]
  congr 1
  apply List.ext_getElem
  · simp
  · intro i h1 h2
    rw [List.getElem_set]
    simp only [List.getElem_map, List.getElem_range]
    by_cases e : k = i
    · subst e; simp
    · rw [if_neg e, if_neg (fun h => e h.symm)]
theorem colK_put (k : Nat) : (fun j => if j = k then ((colN k : Nat) : Int) else colK k j) = colK (k + 1) := by
  funext j
  unfold colK
  by_cases e : j = k
  · subst e; simp
  · rw [if_neg e]
    by_cases h : j < k
    · rw [if_pos h, if_pos (by omega)]
    · rw [if_neg h, if_neg (by omega)]
theorem mZero : mCells (colK 0) (.slice none 0 0) = [.int .u64 0, .int .u64 0, .int .u64 0, .int .u64 0, .int .u64 0, .int .u64 0, .int .u64 0, .int .u64 0, .int .u64 0, .int .u64 0, .int .u64 0, .int .u64 0, .int .u64 0, .int .u64 0, .int .u64 0, .int .u64 0, .slice none 0 0] := by rfl
def ttOK (l : List Nd) (n : Int) : Bool := decide (0 ≤ n) && decide (n ≤ 6) && lvalid l n
def TTP (r : Int) (b : Bool) (w : World) (e : Ending) (w' : World) : Prop := e = .returned (.tuple #[.int .u64 r, .bool b]) ∧ Below w.heap.size w w'
set_option maxHeartbeats 1000000 in
theorem tt_no (v : Value) (l : List Nd) (n : Int) (w : World) (h : NodesR w w.heap.size v l) (ho : ttOK l n = false) :
    Calls Tryd.prog 24 #[v, .int .i64 n] w (TTP 0 false w) := by
  by_cases h0 : 0 ≤ n
  · by_cases h6 : n ≤ 6
    · have hv : lvalid l n = false := by unfold ttOK at ho; simp [h0, h6] at ho; exact ho
      go_enter Tryd.func24, Tryd.ntmps24
      go_wp2_with fail
      refine (iLogicValid_any v l n _ h).mono ?_
      rintro e w1 ⟨rfl, hb1⟩
      go_wp2
      go_ret2
      exact ⟨rfl, hb1⟩
    · go_enter Tryd.func24, Tryd.ntmps24
      go_wp2
      go_ret2
      exact ⟨rfl, Below.refl _ _⟩
  · go_enter Tryd.func24, Tryd.ntmps24
    go_wp2
    go_ret2
    exact ⟨rfl, Below.refl _ _⟩
set_option maxHeartbeats 2000000 in
theorem tt_yes (v : Value) (l : List Nd) (n : Int) (w : World) (h : NodesR w w.heap.size v l) (hT : Tab w) (h0 : 0 ≤ n) (h6 : n ≤ 6) (hv : lvalid l n = true) :
    Calls Tryd.prog 24 #[v, .int .i64 n] w (TTP (tabN l) true w) := by
  have HV := Lib.hid hv
  have HT := Lib.hid hT
  have HK := Lib.hid (fun (w' : World) (hb : Below w.heap.size w w') => h.keep (fun _ hp => hb.cell hp) (Nat.le_refl _))
  clear hT hv
  go_enter Tryd.func24, Tryd.ntmps24
  go_wp2_with fail
  refine (iLogicValid_any v l n _ h).mono ?_
  rintro e w1 ⟨rfl, hb1⟩
  have hT1 := HT.out.next hb1
  have q0 := hT1.cell 0 (by omega)
  have q1 := hT1.cell 1 (by omega)
  have q2 := hT1.cell 2 (by omega)
  have q3 := hT1.cell 3 (by omega)
  have q4 := hT1.cell 4 (by omega)
  have q5 := hT1.cell 5 (by omega)
  have qp := hT1.pos
  have hv := HV.out
  clear hT1 h
  go_wp2
  clear hv
  go_loopw [22] (fun i wr => ∃ k : Nat, k ≤ 6 ∧ i = .int .i64 k ∧ wr.heap[w1.heap.size]? = some (.cells (mCells (colK k) (.slice none 0 0)).toArray 68 (0, 0)) ∧ Below w1.heap.size w1 wr ∧ wr.heap.size = w1.heap.size + 1) (fun i _ => 6 - (intOf i).toNat)
  case atStart => exact ⟨0, by omega, rfl, by rw [mZero]; exact heap_alloc_new _ _, (Below.refl _ _).alloc (Nat.le_refl _) _, by simp⟩
  case round =>
    obtain ⟨k, hk, rfl, hblk, hbr, hsz⟩ := hrel
    by_cases hlt : k < 6
    · have hix := idxT (fun j => .int .u64 ((colN j : Nat) : Int)) k hlt
      have i1 : (k : Int) < 16 := by omega
      have c1 : wr.cell? ⟨w1.heap.size, k, none⟩ = some (.int .u64 (colK k k)) := by rw [cell_of_row wr _ k _ _ _ hblk, List.getElem?_toArray]; exact mCells_col _ _ k (by omega)
      have z1 : wr.frozen? ⟨w1.heap.size, k, none⟩ = false := frozen_of_row wr _ k _ _ hblk
      have R := heap_setCell_same wr _ k _ _ (.int .u64 (colN k : Nat)) hblk
      rw [List.setIfInBounds_toArray, mCells_put _ _ k _ (by omega), colK_put] at R
      have HR := Lib.hid R
      have HZ := Lib.hid hsz
      clear R hblk hsz
      go_wp2
      go_roundw
      case rel => exact ⟨k + 1, by omega, by go_num, HR.out, hbr.setCell (Nat.le_refl _) _, by simp [World.setCell]; exact HZ.out⟩
      case measure => simp [intOf]; omega
    · obtain rfl : k = 6 := by omega
      have hM : Mach wr w1.heap.size wr.heap.size (colK 6) [] := ⟨_, hblk, World.ownsRow_nil _ _ _ _, by omega⟩
      have hNr : NodesR wr w.heap.size v l := HK.out wr (hb1.trans (hbr.mono hb1.size))
      have hval : val (iAlg (colK 6)) l = ((tabN l : Nat) : Int) := iAlg_val (colK 6) colT l (fun x hx h1 => by
        have hb := valid_bits (lvalid_dep HV.out) x hx h1
        refine ⟨?_, colN_lt _⟩
        unfold colK colT; rw [if_pos (by omega)])
      have HVal := Lib.hid hval
      have HZ := Lib.hid hsz
      clear hval hblk hsz
      obtain ⟨m, rfl⟩ := Int.eq_ofNat_of_zero_le h0
      go_wp2_with fail
      refine (run_any w1.heap.size wr.heap.size w.heap.size (colK 6) v l m wr hM hNr hb1.size HV.out (by omega) (Nat.le_refl _)).mono ?_
      rintro e w3 ⟨rfl, hb3⟩
      go_wp2
      go_ret2
      exact ⟨by rw [HVal.out]; rfl, (hb1.trans (hbr.mono hb1.size)).trans hb3⟩
end Go.Proofs.YtoagnajljdbobabDoor
