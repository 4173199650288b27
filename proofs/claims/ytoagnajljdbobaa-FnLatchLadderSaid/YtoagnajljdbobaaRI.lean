/- Rungs: the program's functions that only read: validity, coils, independence. Rungs: the program's coils: LadderCoils, DoubleCoils. Rungs: the program's RungsIndependent. Rungs: the program's way to execute one rung; the list of steps. Rungs: the program's RunLadder and RunRung. -/
import Derived.Test.YtoagnajljdbobaaRS
import Derived.Test.YtoagnajljdbobaaIv
namespace Go.Proofs.Ytoagnajljdbobaa
open Go.RowKit
attribute [local go_sem ↓] Go.wp_at_zero Go.wp_at_succ

theorem kindKnown_any (ki : Int) (w : World) :
    Calls Try.prog 134 #[.int .i64 ki] w fun e w' => e = .returned (.bool (inB ki 1 3)) ∧ w = w' := by
  have hI : inB ki 1 3 = (decide (1 ≤ ki) && decide (ki ≤ 3)) := rfl
  by_cases h1 : ki = 1
  · subst h1
    go_enter Try.func134, Try.ntmps134
    go_wp2
    go_ret
    exact ⟨ret_bool (by decide), rfl⟩
  · by_cases h2 : ki = 2
    · subst h2
      go_enter Try.func134, Try.ntmps134
      go_wp2
      go_ret
      exact ⟨ret_bool (by decide), rfl⟩
    · by_cases h3 : ki = 3
      · subst h3
        go_enter Try.func134, Try.ntmps134
        go_wp2
        go_ret
        exact ⟨ret_bool (by decide), rfl⟩
      · have H := Lib.hid (show false = inB ki 1 3 by rw [hI]; simp; omega)
        have e1 : (ki == 1) = false := by simpa using h1
        have e2 : (ki == 2) = false := by simpa using h2
        have e3 : (ki == 3) = false := by simpa using h3
        clear h1 h2 h3 hI
        go_enter Try.func134, Try.ntmps134
        go_wp2
        go_ret
        exact ⟨ret_bool H.out, rfl⟩
set_option maxHeartbeats 400000 in
theorem iRungValid_any (v : Value) (r : Rg) (bits : Int) (w : World) (h : RungR w w.heap.size v r) :
    Calls Try.prog 114 #[v, .int .i64 bits] w fun e w' => e = .returned (.bool (rvalid r bits)) ∧ Below w.heap.size w w' := by
  obtain ⟨u, rfl, hn, hf⟩ := h
  have HN := Lib.hid (fun (w' : World) (hb : Below w.heap.size w w') => hn.below hb)
  obtain ⟨A, c, rfl, -⟩ := hn
  have HE := Lib.hid (rv_eq r bits)
  obtain ⟨lg, co, ki⟩ := r
  unfold rgV
  simp only at HN HE ⊢
  go_enter Try.func114, Try.ntmps114
  go_wp2_with fail
  refine (iLogicValid_any _ lg bits _ (HN.out _ ((Below.refl _ _).alloc (Nat.le_refl _) _))).mono ?_
  rintro e w1 ⟨rfl, hb1⟩
  obtain ⟨k0, f0, l0⟩ := kept hb1 w.heap.size (by simp)
  replace hb1 := ((Below.refl _ _).alloc (Nat.le_refl _) (.cells #[.slice A lg.length c, .int .i64 co, .int .i64 ki] 58)).trans (hb1.mono (by simp))
  generalize lvalid lg bits = V at *
  cases V
  · go_wp2
    go_ret
    exact ⟨ret_bool (by rw [HE.out]; rfl), hb1⟩
  · by_cases h0 : 0 ≤ co
    · by_cases h1 : co < bits
      · go_wp2_with fail
        refine (kindKnown_any ki _).mono ?_
        rintro e w2 ⟨rfl, rfl⟩
        have HE2 := Lib.hid (show rvalid ⟨lg, co, ki⟩ bits = inB ki 1 3 by rw [HE.out]; simp [h0, h1])
        generalize inB ki 1 3 = q at *
        go_wp2
        go_ret
        exact ⟨ret_bool (by rw [HE2.out]), hb1⟩
      · have HE2 := Lib.hid (show rvalid ⟨lg, co, ki⟩ bits = false by rw [HE.out]; simp [h1])
        go_wp2
        go_ret
        exact ⟨ret_bool (by rw [HE2.out]), hb1⟩
    · have HE2 := Lib.hid (show rvalid ⟨lg, co, ki⟩ bits = false by rw [HE.out]; simp [h0])
      go_wp2
      go_ret
      exact ⟨ret_bool (by rw [HE2.out]), hb1⟩
set_option maxHeartbeats 1000000 in
theorem iLadderValid_any (v : Value) (ps : List (Value × Rg)) (bits : Int) (w : World) (h : LadR w w.heap.size v ps) :
    Calls Try.prog 109 #[v, .int .i64 bits] w fun e w' => e = .returned (.bool (ladvalid (lads ps) bits)) ∧ Below w.heap.size w w' := by
  obtain ⟨A, c, rfl, hr, hl, h3⟩ := h
  have HE := Lib.hid (ladvalid_eq ps bits)
  have H3 := Lib.hid h3
  clear h3
  by_cases h12 : 12 < ps.length
  · have HE2 := Lib.hid (show ladvalid (lads ps) bits = false by rw [HE.out, decide_eq_false (by omega)]; simp)
    have i12 : (12 : Int) < (ps.length : Int) := by omega
    clear hr
    go_enter Try.func109, Try.ntmps109
    go_wp2
    go_ret
    exact ⟨ret_bool (by rw [HE2.out]), Below.refl _ _⟩
  · have HE1 := Lib.hid (show ladvalid (lads ps) bits = ps.all fun p => rvalid p.2 bits by rw [HE.out, decide_eq_true (by omega)]; simp)
    have i12 : (ps.length : Int) ≤ 12 := by omega
    go_enter Try.func109, Try.ntmps109
    go_wp2_with fail
    go_loopw [12] (fun i wr => ∃ k : Nat, k ≤ ps.length ∧ i = .int .i64 k ∧ ((ps.take k).all fun p => rvalid p.2 bits) = true ∧ Below w.heap.size w wr) (fun i _ => ps.length - (intOf i).toNat)
    case atStart => exact ⟨0, by omega, rfl, by simp, Below.refl _ _⟩
    case round =>
      obtain ⟨k, hk, rfl, hal, hbr⟩ := hrel
      have hsz := hbr.size
      by_cases hlt : k < ps.length
      · obtain ⟨p, rfl, hpb, c0, c1, c2⟩ := hr.three hlt
        obtain ⟨hn, hf⟩ := H3.out ps[k] (List.getElem_mem hlt)
        have hS := Lib.hid (all_take_succ (fun p : Value × Rg => rvalid p.2 bits) ps k hlt)
        have hF := Lib.hid (fun (hf : rvalid ps[k].2 bits = false) => all_take_false (f := fun p : Value × Rg => rvalid p.2 bits) hlt hf)
        generalize ps[k] = x at c0 c1 c2 hn hf hS hF
        obtain ⟨u, r⟩ := x
        simp only at c0 c1 c2 hn hf hS hF
        have hR : ∀ o, RungR (wr.alloc o) (wr.alloc o).heap.size (rgV u r) r := fun o => ⟨u, rfl, hn.keep (fun _ hp => (hbr.alloc hsz o).cell hp) (by simp; omega), hf⟩
        have hlt' := hn
        obtain ⟨Au, cu, rfl, -⟩ := hlt'
        have g0 := (hbr.cell (p := p.add (k * 3)) (by rw [add_block]; exact hpb)).trans c0
        have g1 := (hbr.cell (p := ⟨(p.add (k * 3)).block, (p.add (k * 3)).off + 1, none⟩) (by show (p.add (k * 3)).block < _; rw [add_block]; exact hpb)).trans c1
        have g2 := (hbr.cell (p := ⟨(p.add (k * 3)).block, (p.add (k * 3)).off + 2, none⟩) (by show (p.add (k * 3)).block < _; rw [add_block]; exact hpb)).trans c2
        have hV := Lib.hid (fun o => iRungValid_any (rgV (.slice Au r.logic.length cu) r) r bits (wr.alloc o) (hR o))
        obtain ⟨lg, co, ki⟩ := r
        unfold rgV at hV
        simp only at g0 g1 g2 hV
        have i1 : (k : Int) < (ps.length : Int) := by omega
        have Hal := Lib.hid hal
        clear c0 c1 c2 hn hf hR hr hal
        go_wp2_with fail
        refine (hV.out _).mono ?_
        rintro e w2 ⟨rfl, hb2⟩
        have hbr2 := (hbr.alloc hsz (.cells #[.slice Au lg.length cu, .int .i64 co, .int .i64 ki] 58)).trans (hb2.mono (by simp; omega))
        generalize rvalid ⟨lg, co, ki⟩ bits = V at *
        cases V
        · go_wp2
          go_ret
          exact ⟨ret_bool (by rw [HE1.out, hF.out (by trivial)]), hbr2⟩
        · go_wp2
          exact ⟨⟨k + 1, by omega, by go_num, by rw [hS.out, Hal.out]; rfl, hbr2⟩, by simp [intOf]; omega⟩
      · obtain rfl : k = ps.length := by omega
        rw [List.take_length] at hal
        have HE2 := Lib.hid (show ladvalid (lads ps) bits = true by rw [HE1.out, hal])
        clear hal
        go_wp2
        go_ret
        exact ⟨ret_bool (by rw [HE2.out]), hbr⟩
end Go.Proofs.Ytoagnajljdbobaa

namespace Go.Proofs.Ytoagnajljdbobaa
open Go.RowKit
attribute [local go_sem ↓] Go.wp_at_zero Go.wp_at_succ

/-- The set of the bit that a coil drives. -/
def coilS (co : Int) : Nat := withN 0 co true
theorem coilS_lt (co : Int) : coilS co < 65536 := withN_lt _ _ _ (by omega)
theorem coilS_bit (co : Int) (n : Nat) (hn : n < 16) : (coilS co).testBit n = decide (co = (n : Int)) := by
  unfold coilS withN
  split
  · rename_i h
    rw [testBit_bset 0 _ n true (by omega) (by omega)]
    by_cases e : n = co.toNat
    · rw [if_pos e, decide_eq_true (by omega)]
    · rw [if_neg e, decide_eq_false (by omega)]; simp
  · rw [decide_eq_false (by omega)]; simp
theorem numsTo_congr {s t : Nat} {n : Nat} (h : ∀ k, k < n → s.testBit k = t.testBit k) : numsTo s n = numsTo t n := by
  unfold numsTo
  rw [List.filter_congr fun k hk => h k (List.mem_range.1 hk)]
/-- The driven bits of the first rungs. -/
def coilsS (l : List Rg) : Nat := l.foldl (fun s r => s ||| coilS r.coil) 0
theorem or16_lt {a b : Nat} (ha : a < 65536) (hb : b < 65536) : a ||| b < 65536 := Nat.or_lt_two_pow (n := 16) ha hb
theorem and16_lt {a b : Nat} (_ha : a < 65536) (hb : b < 65536) : a &&& b < 65536 := Nat.and_lt_two_pow (n := 16) _ hb
theorem coilsS_lt (l : List Rg) : coilsS l < 65536 := by
  unfold coilsS
  suffices all : ∀ (l : List Rg) (s : Nat), s < 65536 → l.foldl (fun s r => s ||| coilS r.coil) s < 65536 from all l 0 (by omega)
  intro l
  induction l with
  | nil => exact fun s h => h
  | cons x l ih => exact fun s h => ih _ (or16_lt h (coilS_lt _))
theorem coilsS_snoc (l : List Rg) (r : Rg) : coilsS (l ++ [r]) = coilsS l ||| coilS r.coil := by unfold coilsS; rw [List.foldl_append]; rfl
theorem coilsS_bit (l : List Rg) (n : Nat) (hn : n < 16) : (coilsS l).testBit n = l.any fun r => decide (r.coil = (n : Int)) := by
  unfold coilsS
  suffices all : ∀ (l : List Rg) (s : Nat), (l.foldl (fun s r => s ||| coilS r.coil) s).testBit n = (s.testBit n || l.any fun r => decide (r.coil = (n : Int))) by
    rw [all l 0]; simp
  intro l
  induction l with
  | nil => intro s; simp
  | cons x l ih => intro s; rw [List.foldl_cons, ih, Nat.testBit_or, coilS_bit _ _ hn, List.any_cons, Bool.or_assoc]
theorem coilsL_set (l : List Rg) : numsTo (coilsS l) 16 = coilsL l := by
  unfold numsTo coilsL coilsTo
  rw [List.filter_congr fun k hk => coilsS_bit l k (List.mem_range.1 hk)]
/-- The bits assigned once and twice by the first rungs. -/
def dblStep (s : Nat × Nat) (r : Rg) : Nat × Nat := if r.kind = 1 then (s.1 ||| coilS r.coil, s.2 ||| (s.1 &&& coilS r.coil)) else s
def dblS (l : List Rg) : Nat × Nat := l.foldl dblStep (0, 0)
theorem dblS_snoc (l : List Rg) (r : Rg) : dblS (l ++ [r]) = dblStep (dblS l) r := by unfold dblS; rw [List.foldl_append]; rfl
theorem dblS_lt (l : List Rg) : (dblS l).1 < 65536 ∧ (dblS l).2 < 65536 := by
  unfold dblS
  suffices all : ∀ (l : List Rg) (s : Nat × Nat), s.1 < 65536 ∧ s.2 < 65536 → (l.foldl dblStep s).1 < 65536 ∧ (l.foldl dblStep s).2 < 65536 from all l (0, 0) (by decide)
  intro l
  induction l with
  | nil => exact fun s h => h
  | cons x l ih =>
    intro s h
    refine ih _ ?_
    unfold dblStep; split
    · exact ⟨or16_lt h.1 (coilS_lt _), or16_lt h.2 (and16_lt h.1 (coilS_lt _))⟩
    · exact h
theorem dblS_bit (n : Nat) (hn : n < 16) (l : List Rg) : (dblS l).1.testBit n = decide (1 ≤ manyC l n) ∧ (dblS l).2.testBit n = decide (2 ≤ manyC l n) := by
  unfold dblS
  suffices all : ∀ (l : List Rg) (s : Nat × Nat) (m : Nat), s.1.testBit n = decide (1 ≤ m) ∧ s.2.testBit n = decide (2 ≤ m) → (l.foldl dblStep s).1.testBit n = decide (1 ≤ m + manyC l n) ∧ (l.foldl dblStep s).2.testBit n = decide (2 ≤ m + manyC l n) by
    have := all l (0, 0) 0 (by simp); simpa using this
  intro l
  induction l with
  | nil => intro s m h; exact h
  | cons x l ih =>
    intro s m h
    rw [List.foldl_cons]
    have hm : manyC (x :: l) n = (if x.coil = (n : Int) ∧ x.kind = 1 then 1 else 0) + manyC l n := by
      unfold manyC; rw [List.countP_cons]
      by_cases h1 : x.coil = (n : Int) <;> by_cases h2 : x.kind = 1 <;> simp [h1, h2, Nat.add_comm]
    rw [hm, ← Nat.add_assoc]
    refine ih _ _ ?_
    unfold dblStep
    by_cases h2 : x.kind = 1
    · rw [if_pos h2]
      simp only [Nat.testBit_or, Nat.testBit_and, coilS_bit _ _ hn, h.1, h.2]
      by_cases h1 : x.coil = (n : Int)
      · simp [h1, h2]
        by_cases hm2 : 2 ≤ m <;> by_cases hm1 : 1 ≤ m <;> simp [hm1, hm2] <;> omega
      · simp [h1]
    · rw [if_neg h2]; simpa [h2] using h
theorem doubleL_set (l : List Rg) : numsTo (dblS l).2 16 = doubleL l := by
  unfold numsTo doubleL doubleTo
  rw [List.filter_congr fun k hk => (dblS_bit k (List.mem_range.1 hk) l).2]
  rfl
theorem lads_take (ps : List (Value × Rg)) (k : Nat) (h : k < ps.length) : lads (ps.take (k + 1)) = lads (ps.take k) ++ [ps[k].2] := by
  unfold lads; rw [List.take_succ_eq_append_getElem h, List.map_append]; rfl
set_option maxHeartbeats 400000 in
theorem coilSet_any (A : Option Addr) (n c : Nat) (co ki : Int) (w : World) :
    Calls Try.prog 113 #[.agg #[.slice A n c, .int .i64 co, .int .i64 ki]] w fun e w' => e = .returned (.int .u16 (coilS co)) ∧ w.alloc (.cells #[.slice A n c, .int .i64 co, .int .i64 ki] 58) = w' := by
  have H := Lib.hid fun W => with_any 0 co true W (by omega)
  go_enter Try.func113, Try.ntmps113
  go_wp2_with fail
  refine (H.out _).mono ?_
  rintro e w1 ⟨rfl, rfl⟩
  go_wp2
  go_ret
  exact ⟨rfl, rfl⟩
set_option maxHeartbeats 1000000 in
theorem iLadderCoils_any (v : Value) (ps : List (Value × Rg)) (w : World) (h : LadR w w.heap.size v ps) :
    Calls Try.prog 58 #[v] w (OwnIP (coilsL (lads ps)) w) := by
  obtain ⟨A, c, rfl, hr, hl, h3⟩ := h
  have HE := Lib.hid (coilsL_set (lads ps))
  have H3 := Lib.hid (fun (p : Value × Rg) (hp : p ∈ ps) => (h3 p hp).1)
  clear h3
  go_enter Try.func58, Try.ntmps58
  go_wp2_with fail
  go_loopw [3, 8] (fun s i wr => ∃ k : Nat, k ≤ ps.length ∧ i = .int .i64 k ∧ s = .int .u16 (coilsS (lads (ps.take k))) ∧ Below w.heap.size w wr) (fun _ i _ => ps.length - (intOf i).toNat)
  case atStart => exact ⟨0, by omega, rfl, rfl, Below.refl _ _⟩
  case round =>
    obtain ⟨k, hk, rfl, rfl, hbr⟩ := hrel
    have hsz := hbr.size
    have hlt16 := coilsS_lt (lads (ps.take k))
    by_cases hlt : k < ps.length
    · obtain ⟨p, rfl, hpb, c0, c1, c2⟩ := hr.three hlt
      have hn := H3.out ps[k] (List.getElem_mem hlt)
      have hS := Lib.hid (show coilsS (lads (ps.take (k + 1))) = coilsS (lads (ps.take k)) ||| coilS ps[k].2.coil by rw [lads_take ps k hlt, coilsS_snoc])
      generalize ps[k] = x at c0 c1 c2 hn hS
      obtain ⟨u, lg, co, ki⟩ := x
      simp only at c0 c1 c2 hn hS
      obtain ⟨Au, cu, rfl, -⟩ := hn
      have g0 := (hbr.cell (p := p.add (k * 3)) (by rw [add_block]; exact hpb)).trans c0
      have g1 := (hbr.cell (p := ⟨(p.add (k * 3)).block, (p.add (k * 3)).off + 1, none⟩) (by show (p.add (k * 3)).block < _; rw [add_block]; exact hpb)).trans c1
      have g2 := (hbr.cell (p := ⟨(p.add (k * 3)).block, (p.add (k * 3)).off + 2, none⟩) (by show (p.add (k * 3)).block < _; rw [add_block]; exact hpb)).trans c2
      have i1 : (k : Int) < (ps.length : Int) := by omega
      obtain ⟨S, hs⟩ : ∃ S, S = coilsS (lads (ps.take k)) := ⟨_, rfl⟩
      rw [← hs] at hlt16 ⊢
      have Hs := Lib.hid hs
      have HO := Lib.hid (u16_or_nat S (coilS co) hlt16 (coilS_lt co))
      clear c0 c1 c2 hr hs
      go_wp2_with fail
      refine (coilSet_any Au lg.length cu co ki _).mono ?_
      rintro e w2 ⟨rfl, rfl⟩
      go_wp2
      go_roundw
      case rel => exact ⟨k + 1, by omega, by go_num, by rw [hS.out, ← Hs.out, HO.out], (hbr.alloc hsz _).alloc (by simp; omega) _⟩
      case measure => simp [intOf]; omega
    · obtain rfl : k = ps.length := by omega
      rw [List.take_length] at hlt16 ⊢
      obtain ⟨S, hs⟩ : ∃ S, S = coilsS (lads ps) := ⟨_, rfl⟩
      rw [← hs] at hlt16 ⊢
      have Hs := Lib.hid hs
      clear hs hr
      go_wp2_with fail
      refine (numbers_any S _ hlt16).mono ?_
      rintro e w2 ⟨v2, rfl, hO, hb2⟩
      go_wp2
      go_ret
      rw [Hs.out, HE.out] at hO
      exact ⟨_, rfl, mono_own hO hsz, hbr.trans (hb2.mono hsz)⟩
set_option maxHeartbeats 2000000 in
theorem iDoubleCoils_any (v : Value) (ps : List (Value × Rg)) (w : World) (h : LadR w w.heap.size v ps) :
    Calls Try.prog 63 #[v] w (OwnIP (doubleL (lads ps)) w) := by
  obtain ⟨A, c, rfl, hr, hl, h3⟩ := h
  have HE := Lib.hid (doubleL_set (lads ps))
  have H3 := Lib.hid (fun (p : Value × Rg) (hp : p ∈ ps) => (h3 p hp).1)
  clear h3
  go_enter Try.func63, Try.ntmps63
  go_wp2_with fail
  go_loopw [3, 4, 9] (fun s t i wr => ∃ k : Nat, k ≤ ps.length ∧ i = .int .i64 k ∧ s = .int .u16 (dblS (lads (ps.take k))).1 ∧ t = .int .u16 (dblS (lads (ps.take k))).2 ∧ Below w.heap.size w wr) (fun _ _ i _ => ps.length - (intOf i).toNat)
  case atStart => exact ⟨0, by omega, rfl, rfl, rfl, Below.refl _ _⟩
  case round =>
    obtain ⟨k, hk, rfl, rfl, rfl, hbr⟩ := hrel
    have hsz := hbr.size
    obtain ⟨ha16, hb16⟩ := dblS_lt (lads (ps.take k))
    by_cases hlt : k < ps.length
    · obtain ⟨p, rfl, hpb, c0, c1, c2⟩ := hr.three hlt
      have hn := H3.out ps[k] (List.getElem_mem hlt)
      have hS := Lib.hid (show dblS (lads (ps.take (k + 1))) = dblStep (dblS (lads (ps.take k))) ps[k].2 by rw [lads_take ps k hlt, dblS_snoc])
      generalize ps[k] = x at c0 c1 c2 hn hS
      obtain ⟨u, lg, co, ki⟩ := x
      simp only at c0 c1 c2 hn hS
      obtain ⟨Au, cu, rfl, -⟩ := hn
      have g0 := (hbr.cell (p := p.add (k * 3)) (by rw [add_block]; exact hpb)).trans c0
      have g1 := (hbr.cell (p := ⟨(p.add (k * 3)).block, (p.add (k * 3)).off + 1, none⟩) (by show (p.add (k * 3)).block < _; rw [add_block]; exact hpb)).trans c1
      have g2 := (hbr.cell (p := ⟨(p.add (k * 3)).block, (p.add (k * 3)).off + 2, none⟩) (by show (p.add (k * 3)).block < _; rw [add_block]; exact hpb)).trans c2
      have i1 : (k : Int) < (ps.length : Int) := by omega
      generalize dblS (lads (ps.take k)) = D at hS ha16 hb16
      obtain ⟨S, T⟩ := D
      simp only at ha16 hb16 ⊢
      have HO := Lib.hid (u16_or_nat S (coilS co) ha16 (coilS_lt co))
      have HA := Lib.hid (u16_and_nat S (coilS co) ha16 (coilS_lt co))
      have HT := Lib.hid (u16_or_nat T (S &&& coilS co) hb16 (and16_lt ha16 (coilS_lt co)))
      clear c0 c1 c2 hr
      by_cases h1 : ki = 1
      · subst h1
        have HS := Lib.hid (show dblS (lads (ps.take (k + 1))) = (S ||| coilS co, T ||| (S &&& coilS co)) by rw [hS.out]; rfl)
        go_wp2_with (go_at_call 113; refine (coilSet_any Au lg.length cu co 1 _).mono ?_; rintro e w2 ⟨rfl, rfl⟩)
        go_roundw
        case rel => exact ⟨k + 1, by omega, by go_num, by rw [HS.out, HO.out], by rw [HS.out, HA.out, HT.out], ((hbr.alloc hsz _).alloc (by simp; omega) _).alloc (by simp; omega) _⟩
        case measure => simp [intOf]; omega
      · have HS := Lib.hid (show dblS (lads (ps.take (k + 1))) = (S, T) by rw [hS.out]; unfold dblStep; rw [if_neg h1])
        have e1 : (ki == 1) = false := by simpa using h1
        clear h1
        go_wp2
        go_roundw
        case rel => exact ⟨k + 1, by omega, by go_num, by rw [HS.out], by rw [HS.out], hbr.alloc hsz _⟩
        case measure => simp [intOf]; omega
    · obtain rfl : k = ps.length := by omega
      rw [List.take_length] at hb16 ⊢
      generalize (dblS (lads ps)).1 = S1 at *
      obtain ⟨S, hs⟩ : ∃ S, S = (dblS (lads ps)).2 := ⟨_, rfl⟩
      rw [← hs] at hb16 ⊢
      have Hs := Lib.hid hs
      clear hs hr
      go_wp2_with fail
      refine (numbers_any S _ hb16).mono ?_
      rintro e w2 ⟨v2, rfl, hO, hb2⟩
      go_wp2
      go_ret
      rw [Hs.out, HE.out] at hO
      exact ⟨_, rfl, mono_own hO hsz, hbr.trans (hb2.mono hsz)⟩
end Go.Proofs.Ytoagnajljdbobaa

namespace Go.Proofs.Ytoagnajljdbobaa
open Go.RowKit
attribute [local go_sem ↓] Go.wp_at_zero Go.wp_at_succ

theorem coilS_inj {a b : Int} (ha : 0 ≤ a ∧ a < 16) (_hb : 0 ≤ b ∧ b < 16) : coilS a = coilS b ↔ a = b := by
  refine ⟨fun h => ?_, fun h => by rw [h]⟩
  have h1 := coilS_bit a a.toNat (by omega)
  rw [h, coilS_bit b a.toNat (by omega), decide_eq_true (show a = (a.toNat : Int) by omega)] at h1
  simp at h1; omega
theorem and_coil {U : Nat} {c : Int} (hc : 0 ≤ c ∧ c < 16) : U &&& coilS c = 0 ↔ U.testBit c.toNat = false := by
  constructor
  · intro h
    have h1 : (U &&& coilS c).testBit c.toNat = false := by rw [h]; simp
    rw [Nat.testBit_and, coilS_bit c c.toNat (by omega), decide_eq_true (show c = (c.toNat : Int) by omega), Bool.and_true] at h1
    exact h1
  · intro h
    apply Nat.eq_of_testBit_eq
    intro i
    rw [Nat.testBit_and, Nat.zero_testBit]
    by_cases hi : i < 16
    · rw [coilS_bit c i hi]
      by_cases e : c = (i : Int)
      · have : i = c.toNat := by omega
        rw [this, h]; rfl
      · rw [decide_eq_false e, Bool.and_false]
    · rw [Nat.testBit_lt_two_pow (x := coilS c) (Nat.lt_of_lt_of_le (coilS_lt c) (by have : 2 ^ 16 ≤ 2 ^ i := Nat.pow_le_pow_right (by omega) (by omega); omega)), Bool.and_false]
theorem used_has {l : List Nd} {c : Int} (hc : 0 ≤ c ∧ c < 16) : (usedL l).contains c = (usedS l).testBit c.toNat := by
  rw [Bool.eq_iff_iff, List.contains_iff_mem]
  unfold usedL
  rw [mem_numsTo]
  exact ⟨fun ⟨k, _, h2, h3⟩ => by rw [show c.toNat = k by omega]; exact h2, fun h => ⟨c.toNat, by omega, h, by omega⟩⟩
theorem apart_set {a b : Rg} (ha : rvalid a 16 = true) (hb : rvalid b 16 = true) :
    apart a b = (decide (coilS a.coil ≠ coilS b.coil) && (decide (usedS a.logic &&& coilS b.coil = 0) && decide (usedS b.logic &&& coilS a.coil = 0))) := by
  have h1 := (rvalid_parts ha).2.1
  have h2 := (rvalid_parts hb).2.1
  unfold apart
  rw [used_has h2, used_has h1, Bool.eq_iff_iff]
  simp only [Bool.and_eq_true, Bool.not_eq_true', decide_eq_true_eq, and_coil h1, and_coil h2, ne_eq, coilS_inj h1 h2]
  exact ⟨fun ⟨x, y, z⟩ => ⟨z, x, y⟩, fun ⟨z, x, y⟩ => ⟨x, y, z⟩⟩
def CoilP (co : Int) (w : World) (e : Ending) (w' : World) : Prop := e = .returned (.int .u16 (coilS co)) ∧ Below w.heap.size w w'
theorem coilSet_b (A : Option Addr) (n c : Nat) (co ki : Int) (w : World) :
    Calls Try.prog 113 #[.agg #[.slice A n c, .int .i64 co, .int .i64 ki]] w (CoilP co w) :=
  (coilSet_any A n c co ki w).mono fun e w' ⟨h1, h2⟩ => ⟨h1, by subst h2; exact (Below.refl _ _).alloc (Nat.le_refl _) _⟩
theorem blk3k {w : World} {k t : Nat} {x y z : Value} (h : w.heap[k]? = some (.cells #[x, y, z] t (0, 0))) :
    w.cell? ⟨k, 0, none⟩ = some x ∧ w.cell? ⟨k, 1, none⟩ = some y ∧ w.cell? ⟨k, 2, none⟩ = some z :=
  ⟨blk_cell h 0, blk_cell h 1, blk_cell h 2⟩
set_option maxHeartbeats 2000000 in
theorem iRungsIndependent_any (va vb : Value) (a b : Rg) (w : World) (ha : RungR w w.heap.size va a) (hb : RungR w w.heap.size vb b) :
    Calls Try.prog 60 #[va, vb] w fun e w' => e = .returned (.bool (indep a b)) ∧ Below w.heap.size w w' := by
  have HA := Lib.hid (fun (w' : World) (hb : Below w.heap.size w w') => ha.below hb)
  have HB := Lib.hid (fun (w' : World) (hb' : Below w.heap.size w w') => hb.below hb')
  obtain ⟨ua, rfl, hna, -⟩ := ha
  obtain ⟨ub, rfl, hnb, -⟩ := hb
  have NA := Lib.hid (fun (w' : World) (hb : Below w.heap.size w w') => hna.below hb)
  have NB := Lib.hid (fun (w' : World) (hb : Below w.heap.size w w') => hnb.below hb)
  obtain ⟨A1, c1, rfl, -⟩ := hna
  obtain ⟨A2, c2, rfl, -⟩ := hnb
  have HE := Lib.hid (show indep a b = (rvalid a 16 && (rvalid b 16 && apart a b)) from rfl)
  have HS := Lib.hid (fun (ha : rvalid a 16 = true) (hb : rvalid b 16 = true) => apart_set ha hb)
  obtain ⟨lg, co, ki⟩ := a
  obtain ⟨lg2, co2, ki2⟩ := b
  unfold rgV at *
  simp only at HA HB NA NB HE HS ⊢
  go_enter Try.func60, Try.ntmps60
  go_wp2_with fail
  refine (iRungValid_any _ ⟨lg, co, ki⟩ 16 _ (HA.out _ (((Below.refl _ _).alloc (Nat.le_refl _) _).alloc (by simp) _))).mono ?_
  rintro e w1 ⟨rfl, hb1⟩
  have m0 := blk_alloc (heap_alloc_new w (.cells #[.slice A1 lg.length c1, .int .i64 co, .int .i64 ki] 58)) (.cells #[.slice A2 lg2.length c2, .int .i64 co2, .int .i64 ki2] 58)
  have r0 := heap_alloc_new (w.alloc (.cells #[.slice A1 lg.length c1, .int .i64 co, .int .i64 ki] 58)) (.cells #[.slice A2 lg2.length c2, .int .i64 co2, .int .i64 ki2] 58)
  simp only [World.size_alloc] at r0
  have m1 := (hb1.block _ (blk_lt m0)).trans m0
  have r1 := (hb1.block _ (blk_lt r0)).trans r0
  have b1 : Below w.heap.size w w1 := (((Below.refl _ _).alloc (Nat.le_refl _) _).alloc (by simp) _).trans (hb1.mono (by simp; omega))
  clear m0 r0 hb1
  obtain ⟨a0, a1, a2⟩ := blk3k m1
  obtain ⟨e0, e1, e2⟩ := blk3k r1
  have M1 := Lib.hid m1
  have R1 := Lib.hid r1
  clear m1 r1
  cases hv : rvalid ⟨lg, co, ki⟩ 16
  · have HZ := Lib.hid (show indep ⟨lg, co, ki⟩ ⟨lg2, co2, ki2⟩ = false by rw [HE.out, hv]; rfl)
    go_wp2
    go_ret
    exact ⟨ret_bool HZ.out.symm, b1⟩
  · have HV := Lib.hid hv
    go_wp2_with fail
    refine (iRungValid_any _ ⟨lg2, co2, ki2⟩ 16 _ (HB.out _ b1)).mono ?_
    rintro e w2 ⟨rfl, hb2⟩
    have m2 := (hb2.block _ (blk_lt M1.out)).trans M1.out
    have r2 := (hb2.block _ (blk_lt R1.out)).trans R1.out
    have b2 := b1.trans (hb2.mono b1.size)
    clear a0 a1 a2 e0 e1 e2 hb2 M1 R1
    obtain ⟨a0, a1, a2⟩ := blk3k m2
    obtain ⟨e0, e1, e2⟩ := blk3k r2
    have M2 := Lib.hid m2
    have R2 := Lib.hid r2
    clear m2 r2
    cases hv2 : rvalid ⟨lg2, co2, ki2⟩ 16
    · have HZ := Lib.hid (show indep ⟨lg, co, ki⟩ ⟨lg2, co2, ki2⟩ = false by rw [HE.out, hv2]; simp)
      go_wp2
      go_ret
      exact ⟨ret_bool HZ.out.symm, b2⟩
    · have HZ := Lib.hid (show indep ⟨lg, co, ki⟩ ⟨lg2, co2, ki2⟩ = _ by rw [HE.out, hv2, HV.out, HS.out HV.out hv2, Bool.true_and, Bool.true_and])
      clear hv hv2
      have D2 : Below w2.heap.size w2 w2.drew := (Below.refl _ _).drew
      go_wp2_with fail
      go_region_held3 (fun w' => (w'.cell? ⟨w.heap.size, 0, none⟩ = some (.slice A1 lg.length c1) ∧ w'.cell? ⟨w.heap.size, 1, none⟩ = some (.int .i64 co) ∧ w'.cell? ⟨w.heap.size, 2, none⟩ = some (.int .i64 ki)) ∧ (w'.cell? ⟨w.heap.size + 1, 0, none⟩ = some (.slice A2 lg2.length c2) ∧ w'.cell? ⟨w.heap.size + 1, 1, none⟩ = some (.int .i64 co2) ∧ w'.cell? ⟨w.heap.size + 1, 2, none⟩ = some (.int .i64 ki2))) (first | go_keep)
        (first
          | (go_at_call 113; have tell := b3; (with_reducible refine (coilSet_b A2 lg2.length c2 co2 ki2 _).mono ?_); rintro e w4 ⟨rfl, hb4⟩; have m4 := (hb4.block _ (blk_lt m3)).trans m3; have r4 := (hb4.block _ (blk_lt r3)).trans r3; have b4 := b3.trans (hb4.mono b3.size); obtain ⟨a0, a1, a2⟩ := blk3k m4; obtain ⟨e0, e1, e2⟩ := blk3k r4)
          | (go_at_call 113; (with_reducible refine (coilSet_b A1 lg.length c1 co ki _).mono ?_); rintro e w3 ⟨rfl, hb3⟩; have m3 := (hb3.block _ (blk_lt M2.out)).trans M2.out; have r3 := (hb3.block _ (blk_lt R2.out)).trans R2.out; have b3 := (b2.drew).trans (hb3.mono b2.size); obtain ⟨a0, a1, a2⟩ := blk3k m3; obtain ⟨e0, e1, e2⟩ := blk3k r3))
      have M4 := Lib.hid m4
      have R4 := Lib.hid r4
      have hX := coilS_lt co
      have hY := coilS_lt co2
      have hU := usedS_lt lg
      have hV := usedS_lt lg2
      have UA := Lib.hid (usedSet_any _ lg _ (NA.out _ b4))
      have UB := Lib.hid (fun (W : World) (hb : Below w.heap.size w W) => usedSet_any _ lg2 W (NB.out _ hb))
      clear m3 r3 m4 r4 tell
      generalize coilS co = X at *
      generalize coilS co2 = Y at *
      generalize usedS lg = U at *
      generalize usedS lg2 = V at *
      have EA := u16_and_nat U Y hU hY
      have EB := u16_and_nat V X hV hX
      by_cases hxy : X = Y
      · have HF := Lib.hid (show indep ⟨lg, co, ki⟩ ⟨lg2, co2, ki2⟩ = false by rw [HZ.out, decide_eq_false (by simpa using hxy)]; rfl)
        have e1 : ((X : Int) != (Y : Int)) = false := by simp [hxy]
        clear hxy EA EB
        go_wp2
        go_ret
        exact ⟨ret_bool HF.out.symm, b4⟩
      · have e1 : ((X : Int) != (Y : Int)) = true := by simp; omega
        by_cases hu : U &&& Y = 0
        · have e2 : (bits .and .u16 (U : Int) (Y : Int) == 0) = true := by rw [EA, hu]; rfl
          by_cases hv : V &&& X = 0
          · have HF := Lib.hid (show indep ⟨lg, co, ki⟩ ⟨lg2, co2, ki2⟩ = true by rw [HZ.out, decide_eq_true hxy, decide_eq_true hu, decide_eq_true hv]; rfl)
            have e3 : (bits .and .u16 (V : Int) (X : Int) == 0) = true := by rw [EB, hv]; rfl
            clear hxy hu hv EA EB
            go_wp2_with fail
            refine UA.out.mono ?_
            rintro e w5 ⟨rfl, hb5⟩
            have b5 := b4.trans (hb5.mono b4.size)
            have r5 := (hb5.block _ (blk_lt R4.out)).trans R4.out
            obtain ⟨x0, x1, x2⟩ := blk3k r5
            clear r5
            go_wp2_with fail
            refine (UB.out _ b5).mono ?_
            rintro e w6 ⟨rfl, hb6⟩
            go_wp2
            go_ret
            exact ⟨ret_bool HF.out.symm, b5.trans (hb6.mono b5.size)⟩
          · have HF := Lib.hid (show indep ⟨lg, co, ki⟩ ⟨lg2, co2, ki2⟩ = false by rw [HZ.out, decide_eq_false hv]; simp)
            have e3 : (bits .and .u16 (V : Int) (X : Int) == 0) = false := by rw [EB]; simp; omega
            clear hxy hu hv EA EB
            go_wp2_with fail
            refine UA.out.mono ?_
            rintro e w5 ⟨rfl, hb5⟩
            have b5 := b4.trans (hb5.mono b4.size)
            have r5 := (hb5.block _ (blk_lt R4.out)).trans R4.out
            obtain ⟨x0, x1, x2⟩ := blk3k r5
            clear r5
            go_wp2_with fail
            refine (UB.out _ b5).mono ?_
            rintro e w6 ⟨rfl, hb6⟩
            go_wp2
            go_ret
            exact ⟨ret_bool HF.out.symm, b5.trans (hb6.mono b5.size)⟩
        · have HF := Lib.hid (show indep ⟨lg, co, ki⟩ ⟨lg2, co2, ki2⟩ = false by rw [HZ.out, decide_eq_false hu]; simp)
          have e2 : (bits .and .u16 (U : Int) (Y : Int) == 0) = false := by rw [EA]; simp; omega
          clear hxy hu EA EB
          go_wp2_with fail
          refine UA.out.mono ?_
          rintro e w5 ⟨rfl, hb5⟩
          go_wp2
          go_ret
          exact ⟨ret_bool HF.out.symm, b4.trans (hb5.mono b4.size)⟩
end Go.Proofs.Ytoagnajljdbobaa

namespace Go.Proofs.Ytoagnajljdbobaa
open Go.RowKit
attribute [local go_sem ↓] Go.wp_at_zero Go.wp_at_succ

/-- A rung executed on a set of bits. -/
def runS (s : Nat) (r : Rg) : Nat := if r.kind = 1 then withN s r.coil (evs s r.logic) else if evs s r.logic = true then withN s r.coil (r.kind == 2) else s
theorem runS_lt (s : Nat) (r : Rg) (h : s < 65536) : runS s r < 65536 := by
  unfold runS
  repeat' split
  all_goals first | exact withN_lt _ _ _ h | exact h
theorem boolsOf_get (s n k : Nat) (hk : k < n) (h16 : n ≤ 16) : (boolsOf s n).getD k false = s.testBit k := by
  unfold boolsOf
  rw [List.getD_eq_getElem?_getD, List.getElem?_map, List.getElem?_range hk]
  simp; omega
theorem boolsOf_length (s n : Nat) : (boolsOf s n).length = n := by simp [boolsOf]
theorem evs_evL (s n : Nat) (l : List Nd) (hv : lvalid l n = true) (h16 : n ≤ 16) : evs s l = evL (boolsOf s n) l := by
  unfold evs evL
  exact evb_valid hv _ _ fun k h0 h1 => (boolsOf_get s n k.toNat (by omega) h16).symm
theorem boolsOf_with (s n : Nat) (co : Int) (b : Bool) (hs : s < 65536) (hc : 0 ≤ co ∧ co < n) (h16 : n ≤ 16) : boolsOf (withN s co b) n = (boolsOf s n).set co.toNat b := by
  have e : withN s co b = bset s co.toNat b := by unfold withN; rw [if_pos (by omega)]
  rw [e]
  unfold boolsOf
  apply List.ext_getElem
  · simp
  · intro j h1 h2
    have hj : j < n := by simpa using h1
    rw [List.getElem_set]
    simp only [List.getElem_map, List.getElem_range]
    rw [testBit_bset s _ j b hs (by omega)]
    by_cases e : co.toNat = j
    · subst e; simp; omega
    · rw [if_neg e, if_neg (fun h => e h.symm)]
theorem runS_bools (s n : Nat) (r : Rg) (hs : s < 65536) (hv : rvalid r n = true) (h16 : n ≤ 16) : boolsOf (runS s r) n = runB (boolsOf s n) r := by
  obtain ⟨h1, h2, -⟩ := rvalid_parts hv
  unfold runS runB
  rw [← evs_evL s n r.logic h1 h16]
  split
  · exact boolsOf_with s n _ _ hs h2 h16
  · split
    · rw [boolsOf_with s n _ _ hs h2 h16]; rfl
    · rfl
def runSL (s : Nat) (l : List Rg) : Nat := l.foldl runS s
theorem runSL_lt (s : Nat) (l : List Rg) (h : s < 65536) : runSL s l < 65536 := by
  unfold runSL
  induction l generalizing s with
  | nil => exact h
  | cons r l ih => exact ih _ (runS_lt s r h)
theorem runSL_snoc (s : Nat) (l : List Rg) (r : Rg) : runSL s (l ++ [r]) = runS (runSL s l) r := by unfold runSL; rw [List.foldl_append]; rfl
theorem runSL_bools (s n : Nat) (l : List Rg) (hs : s < 65536) (hv : ∀ r ∈ l, rvalid r n = true) (h16 : n ≤ 16) : boolsOf (runSL s l) n = runL (boolsOf s n) l := by
  unfold runSL runL
  induction l generalizing s with
  | nil => rfl
  | cons r l ih =>
    rw [List.foldl_cons, List.foldl_cons, ih _ (runS_lt s r hs) (fun x hx => hv x (List.mem_cons_of_mem _ hx)), runS_bools s n r hs (hv r List.mem_cons_self) h16]
def DriveP (s : Nat) (r : Rg) (w : World) (e : Ending) (w' : World) : Prop := e = .returned (.int .u16 (runS s r)) ∧ Below w.heap.size w w'
set_option maxHeartbeats 1000000 in
theorem drive_any (v : Value) (r : Rg) (s n : Nat) (w : World) (hs : s < 65536) (h : NodesR w w.heap.size v r.logic) (hv : rvalid r n = true) (h16 : n ≤ 16) :
    Calls Try.prog 133 #[rgV v r, .int .u16 s] w (DriveP s r w) := by
  have HN := Lib.hid (fun (w' : World) (hb : Below w.heap.size w w') => h.below hb)
  obtain ⟨hl, -, -⟩ := rvalid_parts hv
  obtain ⟨A, c, rfl, -⟩ := h
  obtain ⟨lg, co, ki⟩ := r
  have HL := Lib.hid hl
  have HR := Lib.hid (show runS s ⟨lg, co, ki⟩ = if ki = 1 then withN s co (evs s lg) else if evs s lg = true then withN s co (ki == 2) else s from rfl)
  unfold rgV
  simp only at HN HL ⊢
  clear hl hv
  go_enter Try.func133, Try.ntmps133
  go_wp2_with fail
  refine (logicValue_any s _ lg n _ hs (HN.out _ ((Below.refl _ _).alloc (Nat.le_refl _) _)) HL.out h16).mono ?_
  rintro e w1 ⟨rfl, hb1⟩
  have m0 := heap_alloc_new w (.cells #[.slice A lg.length c, .int .i64 co, .int .i64 ki] 58)
  have m1 := (hb1.block _ (blk_lt m0)).trans m0
  have b1 : Below w.heap.size w w1 := ((Below.refl _ _).alloc (Nat.le_refl _) _).trans (hb1.mono (by simp))
  obtain ⟨a0, a1, a2⟩ := blk3k m1
  clear m0 m1 hb1
  by_cases h1 : ki = 1
  · subst h1
    have HZ := Lib.hid (show runS s ⟨lg, co, 1⟩ = withN s co (evs s lg) by rw [HR.out, if_pos rfl])
    generalize evs s lg = V at *
    go_wp2_with fail
    refine (with_any s co V _ hs).mono ?_
    rintro e w2 ⟨rfl, rfl⟩
    go_wp2
    go_ret
    exact ⟨u16_ret (by rw [HZ.out]), b1⟩
  · have e1 : (ki == 1) = false := by simpa using h1
    cases hV : evs s lg
    · have HZ := Lib.hid (show runS s ⟨lg, co, ki⟩ = s by rw [HR.out, if_neg h1, hV]; rfl)
      clear h1 hV
      go_wp2
      go_ret
      exact ⟨u16_ret (by rw [HZ.out]), b1⟩
    · have HZ := Lib.hid (show runS s ⟨lg, co, ki⟩ = withN s co (ki == 2) by rw [HR.out, if_neg h1, hV]; rfl)
      clear h1 hV
      go_wp2_with fail
      refine (with_any s co (ki == 2) _ hs).mono ?_
      rintro e w2 ⟨rfl, rfl⟩
      go_wp2
      go_ret
      exact ⟨u16_ret (by rw [HZ.out]), b1⟩
/-- The step of a rung: the method's value, the rung bound to it. -/
def stepV (p : Value × Rg) : Value := .func (.func 133) #[rgV p.1 p.2] #[]
theorem elF : Elem Try.prog 122 125 .nilFunc 1 8 := ⟨Try.underlying122, by kernel_rfl, rfl, by decide⟩
/-- The first k steps are laid. -/
def stepsTo (ps : List (Value × Rg)) (k : Nat) : List Value := (ps.take k).map stepV ++ List.replicate (ps.length - k) .nilFunc
theorem stepsTo_zero (ps : List (Value × Rg)) : (madeCells #[Value.nilFunc] ps.length).toList = stepsTo ps 0 := by
  refine (toList_madeCells_one _ _).trans ?_
  simp [stepsTo]
theorem stepsTo_set (ps : List (Value × Rg)) (k : Nat) (h : k < ps.length) : (stepsTo ps k).set k (stepV ps[k]) = stepsTo ps (k + 1) := by
  unfold stepsTo
  rw [List.take_succ_eq_append_getElem h, List.map_append, List.set_append_right _ _ (by simp; omega)]
  have e : ps.length - k = (ps.length - (k + 1)) + 1 := by omega
  rw [e, List.replicate_succ]
  simp [Nat.min_eq_left (Nat.le_of_lt h)]
theorem stepsTo_all (ps : List (Value × Rg)) : stepsTo ps ps.length = ps.map stepV := by simp [stepsTo]
def StepsP (ps : List (Value × Rg)) (w : World) (e : Ending) (w' : World) : Prop := ∃ v, e = .returned v ∧ w'.ownsRow w.heap.size 125 1 v ps.length (ps.map stepV) ∧ Below w.heap.size w w'
set_option maxHeartbeats 1000000 in
theorem rungSteps_any (v : Value) (ps : List (Value × Rg)) (w : World) (h : LadR w w.heap.size v ps) (hl24 : ps.length ≤ 12) :
    Calls Try.prog 110 #[v] w (StepsP ps w) := by
  obtain ⟨A, c, rfl, hr, hl, h3⟩ := h
  have H3 := Lib.hid (fun (p : Value × Rg) (hp : p ∈ ps) => (h3 p hp).1)
  clear h3
  have hmf : ∀ (fn : Fn) (first cap : Array Value) (w : World), (Instr.makeFunc fn first cap).run Try.prog w = .ok (.func fn first cap) w := fun _ _ _ _ => rfl
  have hsf := fun (a : Addr) (fn : Fn) (x c : Array Value) (w : World) => run_store Try.prog w a (.func fn x c) .plain rfl
  go_enter Try.func110, Try.ntmps110
  go_wp2_with (at_make; refine wpl_make rfl _ _ 122 rfl elF ps.length rfl rfl ?c1 ?c2 ?_)
  case c1 => omega
  case c2 => omega
  intro w1 hown hb1
  rw [stepsTo_zero] at hown
  have hsz1 : w.heap.size < w1.heap.size := (hown.lt _ rfl).2
  go_wp2
  go_loopw [11] (fun i wr => ∃ k : Nat, k ≤ ps.length ∧ i = .int .i64 k ∧ wr.ownsRow w.heap.size 125 1 (.slice (some ⟨w.heap.size, 0, none⟩) ps.length ps.length) ps.length (stepsTo ps k) ∧ Below w.heap.size w wr ∧ w.heap.size < wr.heap.size) (fun i _ => ps.length - (intOf i).toNat)
  case atStart => exact ⟨0, by omega, rfl, hown, hb1, hsz1⟩
  case round =>
    obtain ⟨k, hk, rfl, hownr, hbr, hszr⟩ := hrel
    by_cases hlt : k < ps.length
    · obtain ⟨p, rfl, hpb, c0, c1, c2⟩ := hr.three hlt
      have hn := H3.out ps[k] (List.getElem_mem hlt)
      have hS := stepsTo_set ps k hlt
      generalize ps[k] = x at c0 c1 c2 hn hS
      obtain ⟨u, lg, co, ki⟩ := x
      simp only at c0 c1 c2 hn hS
      obtain ⟨Au, cu, rfl, -⟩ := hn
      have g0 := (hbr.cell (p := p.add (k * 3)) (by rw [add_block]; exact hpb)).trans c0
      have g1 := (hbr.cell (p := ⟨(p.add (k * 3)).block, (p.add (k * 3)).off + 1, none⟩) (by show (p.add (k * 3)).block < _; rw [add_block]; exact hpb)).trans c1
      have g2 := (hbr.cell (p := ⟨(p.add (k * 3)).block, (p.add (k * 3)).off + 2, none⟩) (by show (p.add (k * 3)).block < _; rw [add_block]; exact hpb)).trans c2
      have i1 : (k : Int) < (ps.length : Int) := by omega
      have hc := hownr.cellAt k (by omega)
      have hz := hownr.frozenAt k
      have hst := (hownr.stored k (stepV (.slice Au lg.length cu, ⟨lg, co, ki⟩))).1
      rw [hS] at hst
      obtain ⟨u0, hu0⟩ : ∃ u0, (stepsTo ps k)[k]? = some u0 := ⟨_, List.getElem?_eq_getElem (by simp [stepsTo]; omega)⟩
      rw [hu0] at hc
      have HST := Lib.hid hst
      clear c0 c1 c2 hr hS hst hu0 hownr hown
      go_wp2
      go_roundw
      case rel => exact ⟨k + 1, by omega, by go_num, HST.out.alloc _, (hbr.setCell (by simp) _).alloc (by simp; omega) _, by simp; omega⟩
      case measure => simp [intOf]; omega
    · obtain rfl : k = ps.length := by omega
      rw [stepsTo_all] at hownr
      go_wp2
      go_ret
      exact ⟨_, rfl, hownr, hbr⟩
end Go.Proofs.Ytoagnajljdbobaa

namespace Go.Proofs.Ytoagnajljdbobaa
open Go.RowKit
attribute [local go_sem ↓] Go.wp_at_zero Go.wp_at_succ

theorem runLad_bits (m : Img) (ps : List (Value × Rg)) (h1 : imgOK m = true) (h2 : ladvalid (lads ps) m.bits.length = true) :
    runLadM m (lads ps) = ⟨boolsOf (runSL (setTo m.bits m.bits.length) (lads ps)) m.bits.length, m.words⟩ := by
  have h16 : m.bits.length ≤ 16 := by unfold imgOK at h1; simp at h1; exact h1.1
  have hv : ∀ r ∈ lads ps, rvalid r m.bits.length = true := by
    unfold ladvalid at h2; simp only [Bool.and_eq_true, List.all_eq_true] at h2; exact h2.1
  rw [runSL_bools _ _ _ (setTo_lt _ _) hv h16, boolsOf_setTo m.bits h16]
  unfold runLadM; simp [h1, h2]
set_option maxHeartbeats 2000000 in
theorem iRunLadder_any (vm vl : Value) (m : Img) (ps : List (Value × Rg)) (w : World) (hm : ImgR w w.heap.size vm m) (h : LadR w w.heap.size vl ps) :
    Calls Try.prog 55 #[vm, vl] w (RgRunP (runLadM m (lads ps)) w) := by
  have HM := Lib.hid (fun (w' : World) (hb : Below w.heap.size w w') => hm.below hb)
  have HL := Lib.hid (fun (w' : World) (hb : Below w.heap.size w w') => h.below hb)
  obtain ⟨v1, v2, rfl, hB, hW⟩ := hm
  have HB := Lib.hid (fun (w' : World) (hb : Below w.heap.size w w') => hB.below hb)
  have HW := Lib.hid (fun (w' : World) (hb : Below w.heap.size w w') => hW.below hb)
  obtain ⟨A1, c1, rfl, -, -⟩ := hB
  obtain ⟨A2, c2, rfl, -, -⟩ := hW
  obtain ⟨A, c, rfl, -, -, h3⟩ := h
  have H3 := Lib.hid (fun (w' : World) (hb : Below w.heap.size w w') (p : Value × Rg) (hp : p ∈ ps) => (h3 p hp).1.below hb)
  clear h3
  go_enter Try.func55, Try.ntmps55
  go_wp2_with fail
  refine (iImageValid_any _ m _ (HM.out _ (((Below.refl _ _).alloc (Nat.le_refl _) _).alloc (by simp) _))).mono ?_
  rintro e w1 ⟨rfl, hb1⟩
  have m0 := blk_alloc (heap_alloc_new w (.cells #[.slice A1 m.bits.length c1, .slice A2 m.words.length c2] 26)) (.cells #[.slice none 0 0, .slice none 0 0] 26)
  have r0 := heap_alloc_new (w.alloc (.cells #[.slice A1 m.bits.length c1, .slice A2 m.words.length c2] 26)) (.cells #[.slice none 0 0, .slice none 0 0] 26)
  simp only [World.size_alloc] at r0
  have m1 := (hb1.block _ (blk_lt m0)).trans m0
  have r1 := (hb1.block _ (blk_lt r0)).trans r0
  have b1 : Below w.heap.size w w1 := (((Below.refl _ _).alloc (Nat.le_refl _) _).alloc (by simp) _).trans (hb1.mono (by simp; omega))
  clear m0 r0 hb1
  obtain ⟨a0, a1, -, -⟩ := blk2 m1
  obtain ⟨e0, e1, f0, f1⟩ := blk2 r1
  have M1 := Lib.hid m1
  have R1 := Lib.hid r1
  clear m1 r1
  cases hi : imgOK m
  · have HZ := Lib.hid (show runLadM m (lads ps) = ⟨[], []⟩ by unfold runLadM; simp [hi])
    have lt1 := blk_lt R1.out
    go_wp2
    refine bodyPost_ret (v := .agg #[.slice none 0 0, .slice none 0 0]) (by simp [results, Try.results55, go_sem, *]) rfl ⟨_, rfl, by rw [HZ.out]; exact ⟨_, _, rfl, World.ownsRow_nil _ _ _ _, World.ownsRow_nil _ _ _ _⟩, ?_⟩
    exact (b1.setCell (by simp) _).setCell (by simp) _
  · have HI := Lib.hid hi
    have h16 : m.bits.length ≤ 16 ∧ m.words.length ≤ 8 := by unfold imgOK at hi; simp at hi; exact ⟨hi.1, hi.2.1⟩
    go_wp2_with fail
    refine (iLadderValid_any _ ps m.bits.length _ (HL.out _ b1)).mono ?_
    rintro e w2 ⟨rfl, hb2⟩
    have m2 := (hb2.block _ (blk_lt M1.out)).trans M1.out
    have r2 := (hb2.block _ (blk_lt R1.out)).trans R1.out
    have b2 := b1.trans (hb2.mono b1.size)
    clear a0 a1 e0 e1 f0 f1 hb2 M1 R1
    obtain ⟨a0, a1, -, -⟩ := blk2 m2
    obtain ⟨e0, e1, f0, f1⟩ := blk2 r2
    have M2 := Lib.hid m2
    have R2 := Lib.hid r2
    clear m2 r2
    cases hv : ladvalid (lads ps) m.bits.length
    · have HZ := Lib.hid (show runLadM m (lads ps) = ⟨[], []⟩ by unfold runLadM; simp [hv])
      have lt1 := blk_lt R2.out
      go_wp2
      refine bodyPost_ret (v := .agg #[.slice none 0 0, .slice none 0 0]) (by simp [results, Try.results55, go_sem, *]) rfl ⟨_, rfl, by rw [HZ.out]; exact ⟨_, _, rfl, World.ownsRow_nil _ _ _ _, World.ownsRow_nil _ _ _ _⟩, ?_⟩
      exact (b2.setCell (by simp) _).setCell (by simp) _
    · have HZ := Lib.hid (runLad_bits m ps hi hv)
      have hall : ∀ p ∈ ps, rvalid p.2 m.bits.length = true := by
        rw [ladvalid_eq] at hv; simp only [Bool.and_eq_true, List.all_eq_true] at hv; exact hv.1
      have h12 : ps.length ≤ 12 := by
        rw [ladvalid_eq] at hv; simp only [Bool.and_eq_true, decide_eq_true_eq] at hv; exact hv.2
      have HALL := Lib.hid hall
      have hlt := setTo_lt m.bits m.bits.length
      obtain ⟨S, hS⟩ : ∃ S, S = setTo m.bits m.bits.length := ⟨_, rfl⟩
      rw [← hS] at hlt
      have HS := Lib.hid hS
      clear hall hS
      go_wp2_with fail
      refine (bitSetOf_any _ m.bits _ (HB.out _ b2)).mono ?_
      rintro e w3 ⟨rfl, rfl⟩
      rw [← HS.out]
      go_wp2_with fail
      refine (rungSteps_any _ ps _ (HL.out _ b2) h12).mono ?_
      rintro e w3 ⟨vs, rfl, hO, hb3⟩
      obtain ⟨As, cs, rfl, -, -⟩ := own_form hO
      have m3 := (hb3.block _ (blk_lt M2.out)).trans M2.out
      have r3 := (hb3.block _ (blk_lt R2.out)).trans R2.out
      have b3 := b2.trans (hb3.mono b2.size)
      clear a0 a1 e0 e1 f0 f1 hb3 M2 R2 hi hv
      have M3 := Lib.hid m3
      have R3 := Lib.hid r3
      clear m3 r3
      go_wp2_with fail
      go_loopw [5, 26] (fun s i wr => ∃ k : Nat, k ≤ ps.length ∧ i = .int .i64 k ∧ s = .int .u16 (runSL S (lads (ps.take k))) ∧ Below w3.heap.size w3 wr) (fun _ i _ => ps.length - (intOf i).toNat)
      case atStart => exact ⟨0, by omega, rfl, rfl, Below.refl _ _⟩
      case round =>
        obtain ⟨k, hk, rfl, rfl, hbr⟩ := hrel
        have hrl := runSL_lt S (lads (ps.take k)) hlt
        by_cases hlk : k < ps.length
        · obtain ⟨g, rfl, hg1, hg2⟩ := own_addr hO (by omega)
          have hc := hO.cellAt k (by omega)
          rw [List.getElem?_map, List.getElem?_eq_getElem hlk] at hc
          simp only [Option.map_some] at hc
          have hR := HALL.out ps[k] (List.getElem_mem hlk)
          have hN := H3.out wr (b3.trans (hbr.mono b3.size)) ps[k] (List.getElem_mem hlk)
          have hT := Lib.hid (show runSL S (lads (ps.take (k + 1))) = runS (runSL S (lads (ps.take k))) ps[k].2 by rw [lads_take ps k hlk, runSL_snoc])
          generalize ps[k] = x at hc hR hN hT
          obtain ⟨u, r⟩ := x
          simp only [stepV] at hc hR hN hT
          have hc' := (hbr.cell (p := ⟨g, k, none⟩) hg2).trans hc
          have i1 : (k : Int) < (ps.length : Int) := by omega
          generalize runSL S (lads (ps.take k)) = T at *
          have HD := Lib.hid (drive_any u r T m.bits.length wr hrl hN hR h16.1)
          clear hc hR hN hO
          go_wp2_with fail
          refine HD.out.mono ?_
          rintro e w4 ⟨rfl, hb4⟩
          go_wp2
          go_roundw
          case rel => exact ⟨k + 1, by omega, by go_num, by rw [hT.out], hbr.trans (hb4.mono hbr.size)⟩
          case measure => simp [intOf]; omega
        · obtain rfl : k = ps.length := by omega
          rw [List.take_length] at hrl ⊢
          have b4 := b3.trans (hbr.mono b3.size)
          have m4 := (hbr.block _ (blk_lt M3.out)).trans M3.out
          have r4 := (hbr.block _ (blk_lt R3.out)).trans R3.out
          have l4 := blk_lt r4
          obtain ⟨a0, a1, -, -⟩ := blk2 m4
          have M4 := Lib.hid m4
          have R4 := Lib.hid r4
          obtain ⟨T, hT⟩ : ∃ T, T = runSL S (lads ps) := ⟨_, rfl⟩
          rw [← hT] at hrl ⊢
          have HT := Lib.hid hT
          have HWb := Lib.hid (fun (W : World) (hb : Below w.heap.size w W) => clone_any _ m.words W (HW.out _ hb))
          have hlen := h16.1
          clear m4 r4 hT hO hbr
          go_wp2_with fail
          go_region_held3 (fun w' => w'.cell? ⟨w.heap.size, 0, none⟩ = some (.slice A1 m.bits.length c1) ∧ w'.cell? ⟨w.heap.size, 1, none⟩ = some (.slice A2 m.words.length c2)) (first | go_keep)
            (first
              | (go_at_call 83; refine (bools_any _ m.bits.length _ hrl (by omega)).mono ?_; rintro e w5 ⟨v', rfl, hown, hb5⟩; obtain ⟨A', c', rfl, -, -⟩ := own_form hown; have m5 := (hb5.block _ (blk_lt M4.out)).trans M4.out; have r5 := (hb5.block _ (blk_lt R4.out)).trans R4.out; have l5 := blk_lt r5; obtain ⟨c20, c21, -, -⟩ := blk2 m5; have B5 := (b4.drew).trans (hb5.mono b4.size))
              | (go_at_call 86; refine (HWb.out _ B5).mono ?_; rintro e w6 ⟨v3, rfl, hown3, hb6⟩; obtain ⟨A3, c3, rfl, -, -⟩ := own_form hown3; have m6 := (hb6.block _ (blk_lt m5)).trans m5; have r6 := (hb6.block _ (blk_lt r5)).trans r5; have l6 := blk_lt r6; obtain ⟨c30, c31, -, -⟩ := blk2 m6; obtain ⟨e0, e1, f0, f1⟩ := blk2 r6))
          go_wp2
          refine bodyPost_ret (v := .agg #[.slice A' (boolsOf T m.bits.length).length c', .slice A3 m.words.length c3]) (by simp [results, Try.results55, go_sem, *]) rfl ⟨_, rfl, ?_, ?_⟩
          · rw [HZ.out, ← HS.out, ← HT.out]
            refine ⟨_, _, rfl, ?_, ?_⟩
            · exact mono_own (ownsRow_setCell_below (a := ⟨w.heap.size + 1, 1, none⟩) (ownsRow_setCell_below (a := ⟨w.heap.size + 1, 0, none⟩) (own_below hown hb6) l4 _) l4 _) (by simp; omega)
            · exact mono_own (ownsRow_setCell_below (a := ⟨w.heap.size + 1, 1, none⟩) (ownsRow_setCell_below (a := ⟨w.heap.size + 1, 0, none⟩) hown3 l5 _) l5 _) (by omega)
          · exact ((B5.trans (hb6.mono B5.size)).setCell (by simp) _).setCell (by simp) _
theorem Rd.new3 (w : World) (u : Value) (r : Rg) (t : TypeId) : Rd (w.alloc (.cells #[u, .int .i64 r.coil, .int .i64 r.kind] t)) (w.heap.size + 1) 3 (some ⟨w.heap.size, 0, none⟩) 1 (cellsR [(u, r)]) := by
  refine ⟨rfl, fun _ => ⟨_, rfl, Nat.lt_succ_self _, fun j v hj => ?_⟩⟩
  match j, hj with
  | 0, hj => simp [cellsR] at hj; subst hj; simp [Addr.add]
  | 1, hj => simp [cellsR] at hj; subst hj; simp [Addr.add]
  | 2, hj => simp [cellsR] at hj; subst hj; simp [Addr.add]
theorem LadR.single {w : World} {B B' : Nat} {A : Option Addr} {u : Value} {r : Rg} (h : Rd w B 3 A 1 (cellsR [(u, r)])) (hn : NodesR w B' u r.logic) (hf : rgFit r) (e : B = B') : LadR w B' (.slice A 1 1) [(u, r)] := by
  subst e; exact ⟨A, 1, rfl, h, by simp, fun p hp => by simp at hp; subst hp; exact ⟨hn, hf⟩⟩
set_option maxHeartbeats 1000000 in
theorem iRunRung_any (vm vr : Value) (m : Img) (r : Rg) (w : World) (hm : ImgR w w.heap.size vm m) (h : RungR w w.heap.size vr r) :
    Calls Try.prog 50 #[vm, vr] w (RgRunP (runRungM m r) w) := by
  have HM := Lib.hid (fun (w' : World) (hb : Below w.heap.size w w') => hm.below hb)
  have HR := Lib.hid (fun (w' : World) (hb : Below w.heap.size w w') => h.below hb)
  obtain ⟨v1, v2, rfl, ⟨A1, c1, rfl, -, -⟩, ⟨A2, c2, rfl, -, -⟩⟩ := hm
  obtain ⟨u, rfl, hn, -⟩ := h
  obtain ⟨A, c, rfl, -⟩ := hn
  have HZ := Lib.hid (show runLadM m [r] = runRungM m r by unfold runLadM runRungM ladvalid runL; simp)
  obtain ⟨lg, co, ki⟩ := r
  unfold rgV at *
  simp only at HR ⊢
  go_enter Try.func50, Try.ntmps50
  go_wp2_with fail
  have B0 := ((((Below.refl w.heap.size w).alloc (Nat.le_refl _) (.cells #[.slice A1 m.bits.length c1, .slice A2 m.words.length c2] 26)).alloc (by simp) (.cells #[.slice A lg.length c, .int .i64 co, .int .i64 ki] 58)).alloc (by simp; omega) (.cells #[.slice none 0 0, .slice none 0 0] 26)).alloc (by simp; omega) (.cells #[.slice A lg.length c, .int .i64 co, .int .i64 ki] 58)
  have r0 := blk_alloc (heap_alloc_new ((w.alloc (.cells #[.slice A1 m.bits.length c1, .slice A2 m.words.length c2] 26)).alloc (.cells #[.slice A lg.length c, .int .i64 co, .int .i64 ki] 58)) (.cells #[.slice none 0 0, .slice none 0 0] 26)) (.cells #[.slice A lg.length c, .int .i64 co, .int .i64 ki] 58)
  have hRd := Rd.new3 (((w.alloc (.cells #[.slice A1 m.bits.length c1, .slice A2 m.words.length c2] 26)).alloc (.cells #[.slice A lg.length c, .int .i64 co, .int .i64 ki] 58)).alloc (.cells #[.slice none 0 0, .slice none 0 0] 26)) (.slice A lg.length c) ⟨lg, co, ki⟩ 58
  obtain ⟨u0, e0, hnn, hff⟩ := HR.out _ B0
  unfold rgV at e0
  simp only [Value.agg.injEq, Array.mk.injEq, List.cons.injEq, and_true] at e0
  obtain rfl := e0
  have hL := LadR.single hRd hnn hff (by simp)
  simp only [World.size_alloc] at hL
  have HC := Lib.hid (iRunLadder_any _ _ m [(.slice A lg.length c, (⟨lg, co, ki⟩ : Rg))] _ (HM.out _ B0) (by simpa only [World.size_alloc] using hL))
  simp only [World.size_alloc] at r0
  clear hRd hnn hff hL
  refine HC.out.mono ?_
  rintro e w1 ⟨u1, rfl, hO, hb1⟩
  rw [show lads [(.slice A lg.length c, (⟨lg, co, ki⟩ : Rg))] = [⟨lg, co, ki⟩] from rfl, HZ.out] at hO
  obtain ⟨U1, d1, U2, d2, rfl, hO1, hO2⟩ := hO.form
  have r1 := (hb1.block _ (blk_lt r0)).trans r0
  have l1 := blk_lt r1
  have b1 := B0.trans (hb1.mono (by simp; omega))
  obtain ⟨e0, e1, f0, f1⟩ := blk2 r1
  clear r0 r1 B0 hO
  go_wp2
  refine bodyPost_ret (v := .agg #[.slice U1 (runRungM m ⟨lg, co, ki⟩).bits.length d1, .slice U2 (runRungM m ⟨lg, co, ki⟩).words.length d2]) (by simp [results, Try.results50, go_sem, *]) rfl ⟨_, rfl, ⟨_, _, rfl, ?_, ?_⟩, ?_⟩
  · exact mono_own (ownsRow_setCell_below (a := ⟨w.heap.size + 1 + 1, 1, none⟩) (ownsRow_setCell_below (a := ⟨w.heap.size + 1 + 1, 0, none⟩) hO1 (by simp) _) (by simp) _) (by simp; omega)
  · exact mono_own (ownsRow_setCell_below (a := ⟨w.heap.size + 1 + 1, 1, none⟩) (ownsRow_setCell_below (a := ⟨w.heap.size + 1 + 1, 0, none⟩) hO2 (by simp) _) (by simp) _) (by simp; omega)
  · exact (b1.setCell (by simp; omega) _).setCell (by simp; omega) _
end Go.Proofs.Ytoagnajljdbobaa
