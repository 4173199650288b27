/- Rungs: the program's coils: LadderCoils, DoubleCoils. -/
import Derived.Test.YtlpoeijjlkdceaaRa
import Derived.Test.YtlpoeijjlkdceaaRu
namespace Go.Proofs.Ytlpoeijjlkdceaa
open Go.RowKit
attribute [local go_sem ↓] Go.wp_at_zero Go.wp_at_succ

/-- The set of the bit that a coil drives. -/
def coilS (co : Int) : Nat := withN 0 co true
theorem coilS_lt (co : Int) : coilS co < 65536 := withN_lt _ _ _ (by omega)
theorem coilS_bit (co : Int) (n : Nat) (hn : n < 16) : (coilS co).testBit n = decide (co = (n : Int)) := by
  unfold coilS withN
  split
  · rename_i h
    rw [testBit_bset 0 _ n true (by omega) (by omega)]
    by_cases e : n = co.toNat
    · rw [if_pos e, decide_eq_true (by omega)]
    · rw [if_neg e, decide_eq_false (by omega)]; simp
  · rw [decide_eq_false (by omega)]; simp
theorem numsTo_congr {s t : Nat} {n : Nat} (h : ∀ k, k < n → s.testBit k = t.testBit k) : numsTo s n = numsTo t n := by
  unfold numsTo
  rw [List.filter_congr fun k hk => h k (List.mem_range.1 hk)]
/-- The driven bits of the first rungs. -/
def coilsS (l : List Rg) : Nat := l.foldl (fun s r => s ||| coilS r.coil) 0
theorem or16_lt {a b : Nat} (ha : a < 65536) (hb : b < 65536) : a ||| b < 65536 := Nat.or_lt_two_pow (n := 16) ha hb
theorem and16_lt {a b : Nat} (_ha : a < 65536) (hb : b < 65536) : a &&& b < 65536 := Nat.and_lt_two_pow (n := 16) _ hb
theorem coilsS_lt (l : List Rg) : coilsS l < 65536 := by
  unfold coilsS
  suffices all : ∀ (l : List Rg) (s : Nat), s < 65536 → l.foldl (fun s r => s ||| coilS r.coil) s < 65536 from all l 0 (by omega)
  intro l
  induction l with
  | nil => exact fun s h => h
  | cons x l ih => exact fun s h => ih _ (or16_lt h (coilS_lt _))
theorem coilsS_snoc (l : List Rg) (r : Rg) : coilsS (l ++ [r]) = coilsS l ||| coilS r.coil := by unfold coilsS; rw [List.foldl_append]; rfl
theorem coilsS_bit (l : List Rg) (n : Nat) (hn : n < 16) : (coilsS l).testBit n = l.any fun r => decide (r.coil = (n : Int)) := by
  unfold coilsS
  suffices all : ∀ (l : List Rg) (s : Nat), (l.foldl (fun s r => s ||| coilS r.coil) s).testBit n = (s.testBit n || l.any fun r => decide (r.coil = (n : Int))) by
    rw [all l 0]; simp
  intro l
  induction l with
  | nil => intro s; simp
  | cons x l ih => intro s; rw [List.foldl_cons, ih, Nat.testBit_or, coilS_bit _ _ hn, List.any_cons, Bool.or_assoc]
theorem coilsL_set (l : List Rg) : numsTo (coilsS l) 16 = coilsL l := by
  unfold numsTo coilsL coilsTo
  rw [List.filter_congr fun k hk => coilsS_bit l k (List.mem_range.1 hk)]
/-- The bits assigned once and twice by the first rungs. -/
def dblStep (s : Nat × Nat) (r : Rg) : Nat × Nat := if r.kind = 1 then (s.1 ||| coilS r.coil, s.2 ||| (s.1 &&& coilS r.coil)) else s
def dblS (l : List Rg) : Nat × Nat := l.foldl dblStep (0, 0)
theorem dblS_snoc (l : List Rg) (r : Rg) : dblS (l ++ [r]) = dblStep (dblS l) r := by unfold dblS; rw [List.foldl_append]; rfl
theorem dblS_lt (l : List Rg) : (dblS l).1 < 65536 ∧ (dblS l).2 < 65536 := by
  unfold dblS
  suffices all : ∀ (l : List Rg) (s : Nat × Nat), s.1 < 65536 ∧ s.2 < 65536 → (l.foldl dblStep s).1 < 65536 ∧ (l.foldl dblStep s).2 < 65536 from all l (0, 0) (by decide)
  intro l
  induction l with
  | nil => exact fun s h => h
  | cons x l ih =>
    intro s h
    refine ih _ ?_
    unfold dblStep; split
    · exact ⟨or16_lt h.1 (coilS_lt _), or16_lt h.2 (and16_lt h.1 (coilS_lt _))⟩
    · exact h
theorem dblS_bit (n : Nat) (hn : n < 16) (l : List Rg) : (dblS l).1.testBit n = decide (1 ≤ manyC l n) ∧ (dblS l).2.testBit n = decide (2 ≤ manyC l n) := by
  unfold dblS
  suffices all : ∀ (l : List Rg) (s : Nat × Nat) (m : Nat), s.1.testBit n = decide (1 ≤ m) ∧ s.2.testBit n = decide (2 ≤ m) → (l.foldl dblStep s).1.testBit n = decide (1 ≤ m + manyC l n) ∧ (l.foldl dblStep s).2.testBit n = decide (2 ≤ m + manyC l n) by
    have := all l (0, 0) 0 (by simp); simpa using this
  intro l
  induction l with
  | nil => intro s m h; exact h
  | cons x l ih =>
    intro s m h
    rw [List.foldl_cons]
    have hm : manyC (x :: l) n = (if x.coil = (n : Int) ∧ x.kind = 1 then 1 else 0) + manyC l n := by
      unfold manyC; rw [List.countP_cons]
      by_cases h1 : x.coil = (n : Int) <;> by_cases h2 : x.kind = 1 <;> simp [h1, h2, Nat.add_comm]
    rw [hm, ← Nat.add_assoc]
    refine ih _ _ ?_
    unfold dblStep
    by_cases h2 : x.kind = 1
    · rw [if_pos h2]
      simp only [Nat.testBit_or, Nat.testBit_and, coilS_bit _ _ hn, h.1, h.2]
      by_cases h1 : x.coil = (n : Int)
      · simp [h1, h2]
        by_cases hm2 : 2 ≤ m <;> by_cases hm1 : 1 ≤ m <;> simp [hm1, hm2] <;> omega
      · simp [h1]
    · rw [if_neg h2]; simpa [h2] using h
theorem doubleL_set (l : List Rg) : numsTo (dblS l).2 16 = doubleL l := by
  unfold numsTo doubleL doubleTo
  rw [List.filter_congr fun k hk => (dblS_bit k (List.mem_range.1 hk) l).2]
  rfl
theorem lads_take (ps : List (Value × Rg)) (k : Nat) (h : k < ps.length) : lads (ps.take (k + 1)) = lads (ps.take k) ++ [ps[k].2] := by
  unfold lads; rw [List.take_succ_eq_append_getElem h, List.map_append]; rfl
set_option maxHeartbeats 400000 in
theorem coilSet_any (A : Option Addr) (n c : Nat) (co ki : Int) (w : World) :
    Calls Try.prog 88 #[.agg #[.slice A n c, .int .i64 co, .int .i64 ki]] w fun e w' => e = .returned (.int .u16 (coilS co)) ∧ w.alloc (.cells #[.slice A n c, .int .i64 co, .int .i64 ki] 25) = w' := by
  have H := Lib.hid fun W => with_any 0 co true W (by omega)
  go_enter Try.func88, Try.ntmps88
  go_wp2_with fail
  refine (H.out _).mono ?_
  rintro e w1 ⟨rfl, rfl⟩
  go_wp2
  go_ret
  exact ⟨rfl, rfl⟩
set_option maxHeartbeats 1000000 in
theorem iLadderCoils_any (v : Value) (ps : List (Value × Rg)) (w : World) (h : LadR w w.heap.size v ps) :
    Calls Try.prog 35 #[v] w (OwnIP (coilsL (lads ps)) w) := by
  obtain ⟨A, c, rfl, hr, hl, h3⟩ := h
  have HE := Lib.hid (coilsL_set (lads ps))
  have H3 := Lib.hid (fun (p : Value × Rg) (hp : p ∈ ps) => (h3 p hp).1)
  clear h3
  go_enter Try.func35, Try.ntmps35
  go_wp2_with fail
  go_loopw [3, 8] (fun s i wr => ∃ k : Nat, k ≤ ps.length ∧ i = .int .i64 k ∧ s = .int .u16 (coilsS (lads (ps.take k))) ∧ Below w.heap.size w wr) (fun _ i _ => ps.length - (intOf i).toNat)
  case atStart => exact ⟨0, by omega, rfl, rfl, Below.refl _ _⟩
  case round =>
    obtain ⟨k, hk, rfl, rfl, hbr⟩ := hrel
    have hsz := hbr.size
    have hlt16 := coilsS_lt (lads (ps.take k))
    by_cases hlt : k < ps.length
    · obtain ⟨p, rfl, hpb, c0, c1, c2⟩ := hr.three hlt
      have hn := H3.out ps[k] (List.getElem_mem hlt)
      have hS := Lib.hid (show coilsS (lads (ps.take (k + 1))) = coilsS (lads (ps.take k)) ||| coilS ps[k].2.coil by rw [lads_take ps k hlt, coilsS_snoc])
      generalize ps[k] = x at c0 c1 c2 hn hS
      obtain ⟨u, lg, co, ki⟩ := x
      simp only at c0 c1 c2 hn hS
      obtain ⟨Au, cu, rfl, -⟩ := hn
      have g0 := (hbr.cell (p := p.add (k * 3)) (by rw [add_block]; exact hpb)).trans c0
      have g1 := (hbr.cell (p := ⟨(p.add (k * 3)).block, (p.add (k * 3)).off + 1, none⟩) (by show (p.add (k * 3)).block < _; rw [add_block]; exact hpb)).trans c1
      have g2 := (hbr.cell (p := ⟨(p.add (k * 3)).block, (p.add (k * 3)).off + 2, none⟩) (by show (p.add (k * 3)).block < _; rw [add_block]; exact hpb)).trans c2
      have i1 : (k : Int) < (ps.length : Int) := by omega
      obtain ⟨S, hs⟩ : ∃ S, S = coilsS (lads (ps.take k)) := ⟨_, rfl⟩
      rw [← hs] at hlt16 ⊢
      have Hs := Lib.hid hs
      have HO := Lib.hid (u16_or_nat S (coilS co) hlt16 (coilS_lt co))
      clear c0 c1 c2 hr hs
      go_wp2_with fail
      refine (coilSet_any Au lg.length cu co ki _).mono ?_
      rintro e w2 ⟨rfl, rfl⟩
      go_wp2
      go_roundw
      case rel => exact ⟨k + 1, by omega, by go_num, by rw [hS.out, ← Hs.out, HO.out], (hbr.alloc hsz _).alloc (by simp; omega) _⟩
      case measure => simp [intOf]; omega
    · obtain rfl : k = ps.length := by omega
      rw [List.take_length] at hlt16 ⊢
      obtain ⟨S, hs⟩ : ∃ S, S = coilsS (lads ps) := ⟨_, rfl⟩
      rw [← hs] at hlt16 ⊢
      have Hs := Lib.hid hs
      clear hs hr
      go_wp2_with fail
      refine (numbers_any S _ hlt16).mono ?_
      rintro e w2 ⟨v2, rfl, hO, hb2⟩
      go_wp2
      go_ret
      rw [Hs.out, HE.out] at hO
      exact ⟨_, rfl, mono_own hO hsz, hbr.trans (hb2.mono hsz)⟩
set_option maxHeartbeats 2000000 in
theorem iDoubleCoils_any (v : Value) (ps : List (Value × Rg)) (w : World) (h : LadR w w.heap.size v ps) :
    Calls Try.prog 38 #[v] w (OwnIP (doubleL (lads ps)) w) := by
  obtain ⟨A, c, rfl, hr, hl, h3⟩ := h
  have HE := Lib.hid (doubleL_set (lads ps))
  have H3 := Lib.hid (fun (p : Value × Rg) (hp : p ∈ ps) => (h3 p hp).1)
  clear h3
  go_enter Try.func38, Try.ntmps38
  go_wp2_with fail
  go_loopw [3, 4, 9] (fun s t i wr => ∃ k : Nat, k ≤ ps.length ∧ i = .int .i64 k ∧ s = .int .u16 (dblS (lads (ps.take k))).1 ∧ t = .int .u16 (dblS (lads (ps.take k))).2 ∧ Below w.heap.size w wr) (fun _ _ i _ => ps.length - (intOf i).toNat)
  case atStart => exact ⟨0, by omega, rfl, rfl, rfl, Below.refl _ _⟩
  case round =>
    obtain ⟨k, hk, rfl, rfl, rfl, hbr⟩ := hrel
    have hsz := hbr.size
    obtain ⟨ha16, hb16⟩ := dblS_lt (lads (ps.take k))
    by_cases hlt : k < ps.length
    · obtain ⟨p, rfl, hpb, c0, c1, c2⟩ := hr.three hlt
      have hn := H3.out ps[k] (List.getElem_mem hlt)
      have hS := Lib.hid (show dblS (lads (ps.take (k + 1))) = dblStep (dblS (lads (ps.take k))) ps[k].2 by rw [lads_take ps k hlt, dblS_snoc])
      generalize ps[k] = x at c0 c1 c2 hn hS
      obtain ⟨u, lg, co, ki⟩ := x
      simp only at c0 c1 c2 hn hS
      obtain ⟨Au, cu, rfl, -⟩ := hn
      have g0 := (hbr.cell (p := p.add (k * 3)) (by rw [add_block]; exact hpb)).trans c0
      have g1 := (hbr.cell (p := ⟨(p.add (k * 3)).block, (p.add (k * 3)).off + 1, none⟩) (by show (p.add (k * 3)).block < _; rw [add_block]; exact hpb)).trans c1
      have g2 := (hbr.cell (p := ⟨(p.add (k * 3)).block, (p.add (k * 3)).off + 2, none⟩) (by show (p.add (k * 3)).block < _; rw [add_block]; exact hpb)).trans c2
      have i1 : (k : Int) < (ps.length : Int) := by omega
      generalize dblS (lads (ps.take k)) = D at hS ha16 hb16
      obtain ⟨S, T⟩ := D
      simp only at ha16 hb16 ⊢
      have HO := Lib.hid (u16_or_nat S (coilS co) ha16 (coilS_lt co))
      have HA := Lib.hid (u16_and_nat S (coilS co) ha16 (coilS_lt co))
      have HT := Lib.hid (u16_or_nat T (S &&& coilS co) hb16 (and16_lt ha16 (coilS_lt co)))
      clear c0 c1 c2 hr
      by_cases h1 : ki = 1
      · subst h1
        have HS := Lib.hid (show dblS (lads (ps.take (k + 1))) = (S ||| coilS co, T ||| (S &&& coilS co)) by rw [hS.out]; rfl)
        go_wp2_with (go_at_call 88; refine (coilSet_any Au lg.length cu co 1 _).mono ?_; rintro e w2 ⟨rfl, rfl⟩)
        go_roundw
        case rel => exact ⟨k + 1, by omega, by go_num, by rw [HS.out, HO.out], by rw [HS.out, HA.out, HT.out], ((hbr.alloc hsz _).alloc (by simp; omega) _).alloc (by simp; omega) _⟩
        case measure => simp [intOf]; omega
      · have HS := Lib.hid (show dblS (lads (ps.take (k + 1))) = (S, T) by rw [hS.out]; unfold dblStep; rw [if_neg h1])
        have e1 : (ki == 1) = false := by simpa using h1
        clear h1
        go_wp2
        go_roundw
        case rel => exact ⟨k + 1, by omega, by go_num, by rw [HS.out], by rw [HS.out], hbr.alloc hsz _⟩
        case measure => simp [intOf]; omega
    · obtain rfl : k = ps.length := by omega
      rw [List.take_length] at hb16 ⊢
      generalize (dblS (lads ps)).1 = S1 at *
      obtain ⟨S, hs⟩ : ∃ S, S = (dblS (lads ps)).2 := ⟨_, rfl⟩
      rw [← hs] at hb16 ⊢
      have Hs := Lib.hid hs
      clear hs hr
      go_wp2_with fail
      refine (numbers_any S _ hb16).mono ?_
      rintro e w2 ⟨v2, rfl, hO, hb2⟩
      go_wp2
      go_ret
      rw [Hs.out, HE.out] at hO
      exact ⟨_, rfl, mono_own hO hsz, hbr.trans (hb2.mono hsz)⟩
end Go.Proofs.Ytlpoeijjlkdceaa
