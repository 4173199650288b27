/- Contracts of the exact laws' helpers: sizes, copies, marks. Contracts of the exact laws' helpers: marks in lists. -/
import Derived.Test.YtoagnajljdbobabD
import Derived.IntWalk
namespace Go.Proofs.Ytoagnajljdbobab
open Go.RowKit
attribute [local go_sem ↓] Go.wp_at_zero Go.wp_at_succ

/-- All that lies outside [lo, hi) is as it was. -/
structure Out (lo hi : Nat) (w w' : World) : Prop where
  os : w'.os = w.os
  tape : w'.tape = w.tape
  output : w'.output = w.output
  size : w.heap.size ≤ w'.heap.size
  block : ∀ k, k < w.heap.size → (k < lo ∨ hi ≤ k) → w'.heap[k]? = w.heap[k]?
theorem Out.refl (lo hi : Nat) (w : World) : Out lo hi w w := ⟨rfl, rfl, rfl, Nat.le_refl _, fun _ _ _ => rfl⟩
theorem Out.trans {lo hi : Nat} {a b c : World} (h : Out lo hi a b) (k : Out lo hi b c) : Out lo hi a c :=
  ⟨k.os.trans h.os, k.tape.trans h.tape, k.output.trans h.output, Nat.le_trans h.size k.size, fun i hi' ho => (k.block i (Nat.lt_of_lt_of_le hi' h.size) ho).trans (h.block i hi' ho)⟩
theorem Out.of_below {lo hi : Nat} {a b : World} (h : Below a.heap.size a b) : Out lo hi a b := ⟨h.os, h.tape, h.output, h.size, fun k hk _ => h.block k hk⟩
theorem Out.setCell {lo hi : Nat} {w : World} {p : Addr} (h1 : lo ≤ p.block) (h2 : p.block < hi) (u : Value) : Out lo hi w (w.setCell p u) :=
  ⟨rfl, rfl, rfl, by simp [World.setCell], fun k _ ho => Below.heap_setCell _ _ _ _ (by omega)⟩
theorem Out.below {lo hi B : Nat} {a b : World} (h : Out lo hi a b) (hB : B ≤ lo) (hs : B ≤ a.heap.size) : Below B a b := ⟨h.os, h.tape, h.output, h.size, fun k hk => h.block k (by omega) (.inl (by omega))⟩

/-- A row of the call's own, in a block of [lo, hi). -/
def OwnX (w : World) (lo hi e sz : Nat) (v : Value) (n : Nat) (xs : List Value) : Prop := w.ownsRow lo e sz v n xs ∧ ∀ k, v.ownBlock = some k → k < hi
theorem OwnX.of {w : World} {lo e sz n : Nat} {v : Value} {xs : List Value} (h : w.ownsRow lo e sz v n xs) : OwnX w lo w.heap.size e sz v n xs := ⟨h, fun k hk => (h.lt k hk).2⟩
theorem OwnX.out {w w' : World} {lo hi lo2 hi2 e sz n : Nat} {v : Value} {xs : List Value} (h : OwnX w lo hi e sz v n xs) (ho : Out lo2 hi2 w w') (hd : hi ≤ lo2 ∨ hi2 ≤ lo) : OwnX w' lo hi e sz v n xs := by
  refine ⟨⟨h.1.1, ?_⟩, h.2⟩
  rcases h.1.2 with h' | ⟨g, cap, cur, rfl, h1, h2, h3⟩
  · exact .inl h'
  · have hg := h.2 g rfl
    exact .inr ⟨g, cap, cur, rfl, h1, (ho.block g (Array.getElem?_eq_some_iff.1 h2).1 (by omega)).trans h2, h3⟩
theorem OwnX.below {w w' : World} {lo hi e sz n : Nat} {v : Value} {xs : List Value} (h : OwnX w lo hi e sz v n xs) (hb : Below w.heap.size w w') : OwnX w' lo hi e sz v n xs := ⟨own_below h.1 hb, h.2⟩
def szL (n : Nat) (left : Int) : Int := if left - n < 0 then -1 else left - n

theorem szBoolS_any (v : Value) (l : List Bool) (left : Int) (w : World) (h : BoolsR w w.heap.size v l) (h1 : -1 ≤ left ∧ left ≤ 1048576) :
    Calls Try.prog 12 #[v, .int .i64 left] w fun e w' => e = .returned (.int .i64 (szL l.length left)) ∧ w = w' := by
  obtain ⟨A, c, rfl, hr, hl⟩ := h
  have hl' : l.length ≤ 140737488355328 := by omega
  clear hr hl
  by_cases h0 : left - l.length < 0
  all_goals
    go_enter Try.func12, Try.ntmps12
    go_wp2
    go_ret
    exact ⟨ret_int (by unfold szL; omega), rfl⟩

theorem szIntS_any (v : Value) (l : List Int) (left : Int) (w : World) (h : IntsR w w.heap.size v l) (h1 : -1 ≤ left ∧ left ≤ 1048576) :
    Calls Try.prog 13 #[v, .int .i64 left] w fun e w' => e = .returned (.int .i64 (szL l.length left)) ∧ w = w' := by
  obtain ⟨A, c, rfl, hr, hl⟩ := h
  have hl' : l.length ≤ 140737488355328 := by omega
  clear hr hl
  by_cases h0 : left - l.length < 0
  all_goals
    go_enter Try.func13, Try.ntmps13
    go_wp2
    go_ret
    exact ⟨ret_int (by unfold szL; omega), rfl⟩

theorem toBoolS_step (l : List Bool) (k : Nat) (h : k < l.length) : ((l.take k ++ List.replicate (l.length - k) false).map (Value.bool)).set k (Value.bool l[k]) = (l.take (k + 1) ++ List.replicate (l.length - (k + 1)) false).map (Value.bool) := by
  rw [← List.map_set]
  congr 1
  rw [show l.length - k = (l.length - (k + 1)) + 1 by omega, List.replicate_succ, List.set_append]
  rw [if_neg (by simp; omega)]
  have e : k - (l.take k).length = 0 := by simp; omega
  rw [e, List.set_cons_zero, List.take_succ_eq_append_getElem h, List.append_assoc]
  rfl
set_option maxHeartbeats 400000 in
theorem toBoolS_any (v : Value) (l : List Bool) (w : World) (h : BoolsR w w.heap.size v l) :
    Calls Try.prog 17 #[v] w fun e w' => ∃ v', e = .returned v' ∧ OwnB w' w.heap.size v' l ∧ Below w.heap.size w w' := by
  obtain ⟨A, c, rfl, hr, hl⟩ := h
  go_enter Try.func17, Try.ntmps17
  go_wp2_with (at_make; refine wpl_make rfl _ _ 22 rfl elB l.length rfl rfl ?c1 ?c2 ?_)
  case c1 => omega
  case c2 => omega
  intro w1 hown hb1
  rw [toList_madeCells_one] at hown
  have hs1 := hb1.size
  go_wp2
  go_loopw [4] (fun i wr => ∃ k : Nat, k ≤ l.length ∧ i = .int .i64 k ∧ wr.ownsRow w.heap.size 4 1 (.slice (some ⟨w.heap.size, 0, none⟩) l.length l.length) l.length ((l.take k ++ List.replicate (l.length - k) false).map (Value.bool)) ∧ Below w.heap.size w wr) (fun i _ => l.length - (intOf i).toNat)
  case atStart => exact ⟨0, by omega, rfl, by simpa using hown, hb1⟩
  case round =>
    obtain ⟨k, hk, rfl, hown', hbr⟩ := hrel
    clear hown hb1 hs1
    by_cases hlt : k < l.length
    · obtain ⟨p, u, rfl, hpb, hu, hc⟩ := hr.one hlt
      have hx : u = Value.bool l[k] := by rw [List.getElem?_map, List.getElem?_eq_getElem hlt] at hu; simpa using hu.symm
      subst hx
      clear hu
      have g1 := (hbr.cell (p := p.add k) (by rw [add_block]; exact hpb)).trans hc
      have hc' := hown'.cellAt k (by omega)
      have hz := hown'.frozenAt k
      have hst := hown'.stored k (Value.bool l[k])
      rw [toBoolS_step l k hlt] at hst
      obtain ⟨y, hy⟩ : ∃ y, (List.map (Value.bool) (l.take k ++ List.replicate (l.length - k) false))[k]? = some y := ⟨_, List.getElem?_eq_getElem (by simp; omega)⟩
      rw [hy] at hc'
      have H := Lib.hid hst
      have i1 : (k : Int) < (l.length : Int) := by omega
      clear hst hy hown' hc
      go_wp2
      go_roundw
      case rel => exact ⟨k + 1, by omega, by go_num, H.out.1, hbr.setCell (by simp) _⟩
      case measure => simp [intOf]; omega
    · go_wp2
      go_ret
      obtain rfl : k = l.length := by omega
      refine ⟨_, rfl, ?_, hbr⟩
      unfold OwnB
      simpa using hown'

theorem toIntS_step (l : List Int) (k : Nat) (h : k < l.length) : ((l.take k ++ List.replicate (l.length - k) 0).map (Value.int .i64)).set k (Value.int .i64 l[k]) = (l.take (k + 1) ++ List.replicate (l.length - (k + 1)) 0).map (Value.int .i64) := by
  rw [← List.map_set]
  congr 1
  rw [show l.length - k = (l.length - (k + 1)) + 1 by omega, List.replicate_succ, List.set_append]
  rw [if_neg (by simp; omega)]
  have e : k - (l.take k).length = 0 := by simp; omega
  rw [e, List.set_cons_zero, List.take_succ_eq_append_getElem h, List.append_assoc]
  rfl
set_option maxHeartbeats 400000 in
theorem toIntS_any (v : Value) (l : List Int) (w : World) (h : IntsR w w.heap.size v l) :
    Calls Try.prog 18 #[v] w fun e w' => ∃ v', e = .returned v' ∧ OwnI w' w.heap.size v' l ∧ Below w.heap.size w w' := by
  obtain ⟨A, c, rfl, hr, hl, hbd⟩ := h
  go_enter Try.func18, Try.ntmps18
  go_wp2_with (at_make; refine wpl_make rfl _ _ 23 rfl elI l.length rfl rfl ?c1 ?c2 ?_)
  case c1 => omega
  case c2 => omega
  intro w1 hown hb1
  rw [toList_madeCells_one] at hown
  have hs1 := hb1.size
  go_wp2
  go_loopw [4] (fun i wr => ∃ k : Nat, k ≤ l.length ∧ i = .int .i64 k ∧ wr.ownsRow w.heap.size 3 1 (.slice (some ⟨w.heap.size, 0, none⟩) l.length l.length) l.length ((l.take k ++ List.replicate (l.length - k) 0).map (Value.int .i64)) ∧ Below w.heap.size w wr) (fun i _ => l.length - (intOf i).toNat)
  case atStart => exact ⟨0, by omega, rfl, by simpa using hown, hb1⟩
  case round =>
    obtain ⟨k, hk, rfl, hown', hbr⟩ := hrel
    clear hown hb1 hs1
    by_cases hlt : k < l.length
    · obtain ⟨p, u, rfl, hpb, hu, hc⟩ := hr.one hlt
      have hx : u = Value.int .i64 l[k] := by rw [List.getElem?_map, List.getElem?_eq_getElem hlt] at hu; simpa using hu.symm
      subst hx
      clear hu
      have g1 := (hbr.cell (p := p.add k) (by rw [add_block]; exact hpb)).trans hc
      have hc' := hown'.cellAt k (by omega)
      have hz := hown'.frozenAt k
      have hst := hown'.stored k (Value.int .i64 l[k])
      rw [toIntS_step l k hlt] at hst
      obtain ⟨y, hy⟩ : ∃ y, (List.map (Value.int .i64) (l.take k ++ List.replicate (l.length - k) 0))[k]? = some y := ⟨_, List.getElem?_eq_getElem (by simp; omega)⟩
      rw [hy] at hc'
      have H := Lib.hid hst
      have i1 : (k : Int) < (l.length : Int) := by omega
      clear hst hy hown' hc
      go_wp2
      go_roundw
      case rel => exact ⟨k + 1, by omega, by go_num, H.out.1, hbr.setCell (by simp) _⟩
      case measure => simp [intOf]; omega
    · go_wp2
      go_ret
      obtain rfl : k = l.length := by omega
      refine ⟨_, rfl, ?_, hbr⟩
      unfold OwnI
      simpa using hown'
end Go.Proofs.Ytoagnajljdbobab

namespace Go.Proofs.Ytoagnajljdbobab
open Go.RowKit
attribute [local go_sem ↓] Go.wp_at_zero Go.wp_at_succ

def markB (n k : Nat) : List Bool := (List.range n).map fun i => (((k + i : Nat) : Int) % 3 == 0)
def markI (n k : Nat) : List Int := (List.range n).map fun i => ((k + i : Nat) : Int)
theorem markB_len (n k : Nat) : (markB n k).length = n := by simp [markB]
theorem markI_len (n k : Nat) : (markI n k).length = n := by simp [markI]
theorem gb_trans {a b c : World} {r : Option Nat} (h : a.grownBy b r) (k : b.grownBy c r) : a.grownBy c r :=
  ⟨k.os.trans h.os, k.tape.trans h.tape, k.output.trans h.output, Nat.le_trans h.size k.size, fun i hi hn => (k.block i (Nat.lt_of_lt_of_le hi h.size) hn).trans (h.block i hi hn)⟩
theorem out_of_gb {lo hi : Nat} {a b : World} {r : Option Nat} (h : a.grownBy b r) (hr : ∀ k, r = some k → lo ≤ k ∧ k < hi) : Out lo hi a b :=
  ⟨h.os, h.tape, h.output, h.size, fun k hk ho => h.block k hk (fun e => by have := hr k e.symm; omega)⟩
theorem mark_step {α : Type} (f : Nat → α) (l : List α) (i : Nat) (h : i < l.length) : (((List.range i).map f) ++ l.drop i).set i (f i) = ((List.range (i + 1)).map f) ++ l.drop (i + 1) := by
  rw [List.set_append, if_neg (by simp)]
  have e : i - ((List.range i).map f).length = 0 := by simp
  rw [e, List.drop_eq_getElem_cons h, List.set_cons_zero, List.range_succ, List.map_append, List.append_assoc]
  rfl

end Go.Proofs.Ytoagnajljdbobab
