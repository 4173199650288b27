/- Rungs and ladders in memory; what a ladder does to bits. Rungs: the contracts of the specification's functions that only read. Rungs: the specification's functions that run them on bits. Ladders: the specification's lists of coils. Rungs: the specification's copies, and RunRung, RunLadder. Rungs: the specification's RungsIndependent. Rungs: what a ladder leaves: an image of the call's own; blocks of two and three cells. -/
import Derived.Test.YtoagnajljdbobaaOs
import Derived.Test.YtoagnajljdbobaaWP
import Derived.Test.YtoagnajljdbobaaSl
import Derived.Test.YtoagnajljdbobaaSe
import Derived.Test.YtoagnajljdbobaaIu
import Derived.Test.YtoagnajljdbobaaED
import Derived.Test.YtoagnajljdbobaaE
import Derived.Test.YtoagnajljdbobaaSq
namespace Go.Proofs.Ytoagnajljdbobaa
open Go.RowKit

theorem NodesR.fitL {w : World} {B : Nat} {v : Value} {l : List Nd} (h : NodesR w B v l) : ∀ x ∈ l, ndFit x := by
  obtain ⟨_, _, _, _, _, hf⟩ := h; exact hf
theorem OwnS.set_o {w : World} {base : Nat} {v : Value} {l : List Nd} (h : OwnS w base v l) {p : Addr} (hp : p.block < base) (u : Value) : OwnS (w.setCell p u) base v l :=
  h.kept fun k hk => Below.heap_setCell _ _ _ _ (by have := (h.lt k hk).1; omega)
/-- A store into a block of another element type. -/
theorem OwnS.set_s {w : World} {base : Nat} {v : Value} {l : List Nd} (h : OwnS w base v l) {p : Addr} (t : TypeId) {cs : Array Value} (hk : w.heap[p.block]? = some (.cells cs t (0, 0))) (ht : (92 == t) = false) (u : Value) : OwnS (w.setCell p u) base v l :=
  h.kept fun k hk' => Below.heap_setCell _ _ _ _ (by
    obtain ⟨g, off, cap, cur, rfl, h1, h2, h3⟩ := h
    simp only [Value.ownBlock, Option.some.injEq] at hk'
    subst hk'
    rintro rfl
    rw [h2] at hk
    injection hk with hk
    injection hk with _ e _
    rw [e] at ht
    simp at ht)
theorem blk_set1 {w : World} {k t : Nat} {cs : Array Value} (h : w.heap[k]? = some (.cells cs t (0, 0))) (i : Nat) (u : Value) : (w.setCell ⟨k, i, none⟩ u).heap[k]? = some (.cells (cs.setIfInBounds i u) t (0, 0)) := Go.heap_setCell_same w k i cs t u h
structure Rg where
  logic : List Nd
  coil : Int
  kind : Int
def fit64 (x : Int) : Prop := -9223372036854775808 ≤ x ∧ x ≤ 9223372036854775807
def rgFit (r : Rg) : Prop := fit64 r.coil ∧ fit64 r.kind
/-- A rung's value: its expression's slice v. -/
def rgV (v : Value) (r : Rg) : Value := .agg #[v, .int .i64 r.coil, .int .i64 r.kind]
/-- A rung as an argument reads as r. -/
def RungR (w : World) (B : Nat) (v : Value) (r : Rg) : Prop := ∃ u, v = rgV u r ∧ NodesR w B u r.logic ∧ rgFit r
theorem RungR.keep {w w' : World} {B B' : Nat} {v : Value} {r : Rg} (h : RungR w B v r) (hk : ∀ p : Addr, p.block < B → w'.cell? p = w.cell? p) (hB : B ≤ B') : RungR w' B' v r := by
  obtain ⟨u, rfl, h1, h2⟩ := h; exact ⟨u, rfl, h1.keep hk hB, h2⟩
theorem RungR.below {w w' : World} {v : Value} {r : Rg} (h : RungR w w.heap.size v r) (hb : Below w.heap.size w w') : RungR w' w'.heap.size v r := h.keep (fun _ hp => hb.cell hp) hb.size
/-- The cells of a ladder: p.1 is the slice of the rung's expression. -/
def cellsR (l : List (Value × Rg)) : List Value := l.flatMap fun p => [p.1, .int .i64 p.2.coil, .int .i64 p.2.kind]
theorem cellsR_cons (x : Value × Rg) (l : List (Value × Rg)) : cellsR (x :: l) = x.1 :: .int .i64 x.2.coil :: .int .i64 x.2.kind :: cellsR l := rfl
theorem cellsR_append (a b : List (Value × Rg)) : cellsR (a ++ b) = cellsR a ++ cellsR b := by simp [cellsR]
theorem cellsR_length (l : List (Value × Rg)) : (cellsR l).length = l.length * 3 := by
  induction l with
  | nil => rfl
  | cons x l ih => rw [cellsR_cons]; simp [ih]; omega
theorem cellsR_at (l : List (Value × Rg)) (k : Nat) (h : k < l.length) :
    (cellsR l)[k * 3]? = some l[k].1 ∧ (cellsR l)[k * 3 + 1]? = some (.int .i64 l[k].2.coil) ∧ (cellsR l)[k * 3 + 2]? = some (.int .i64 l[k].2.kind) := by
  induction l generalizing k with
  | nil => simp at h
  | cons x l ih =>
    cases k with
    | zero => exact ⟨rfl, rfl, rfl⟩
    | succ k =>
      rw [cellsR_cons, show (k + 1) * 3 = k * 3 + 1 + 1 + 1 by omega]
      simp only [List.getElem?_cons_succ, List.getElem_cons_succ]
      exact ih k (by simpa using h)
theorem cellsR_take (l : List (Value × Rg)) (k : Nat) : (cellsR l).take (k * 3) = cellsR (l.take k) := by
  induction k generalizing l with
  | zero => simp [cellsR]
  | succ k ih =>
    cases l with
    | nil => simp [cellsR]
    | cons x l => rw [cellsR_cons, List.take_succ_cons, cellsR_cons, show (k + 1) * 3 = k * 3 + 1 + 1 + 1 by omega, List.take_succ_cons, List.take_succ_cons, List.take_succ_cons, ih]
theorem cellsR_drop (l : List (Value × Rg)) (k : Nat) : (cellsR l).drop (k * 3) = cellsR (l.drop k) := by
  induction l generalizing k with
  | nil => simp [cellsR]
  | cons x l ih =>
    cases k with
    | zero => simp
    | succ k => rw [cellsR_cons, show (k + 1) * 3 = k * 3 + 1 + 1 + 1 by omega]; simpa using ih k
/-- A ladder as an argument. -/
def LadR (w : World) (B : Nat) (v : Value) (l : List (Value × Rg)) : Prop :=
  ∃ A c, v = .slice A l.length c ∧ Rd w B 3 A l.length (cellsR l) ∧ (l.length ≤ c ∧ l.length ≤ 4398046511104) ∧ ∀ p ∈ l, NodesR w B p.1 p.2.logic ∧ rgFit p.2
theorem LadR.keep {w w' : World} {B B' : Nat} {v : Value} {l : List (Value × Rg)} (h : LadR w B v l) (hk : ∀ p : Addr, p.block < B → w'.cell? p = w.cell? p) (hB : B ≤ B') : LadR w' B' v l := by
  obtain ⟨A, c, rfl, h1, h2, h3⟩ := h; exact ⟨A, c, rfl, h1.keep hk hB, h2, fun p hp => ⟨(h3 p hp).1.keep hk hB, (h3 p hp).2⟩⟩
theorem LadR.below {w w' : World} {v : Value} {l : List (Value × Rg)} (h : LadR w w.heap.size v l) (hb : Below w.heap.size w w') : LadR w' w'.heap.size v l := h.keep (fun _ hp => hb.cell hp) hb.size
theorem LadR.nil (w : World) (B : Nat) : LadR w B (.slice none 0 0) [] := ⟨none, 0, rfl, Rd.none_, by simp, by simp⟩
theorem at_next2 (q : Addr) : (⟨q.block, q.off + 2, none⟩ : Addr) = q.add 2 := by simp [Addr.add]
theorem Rd.three {w : World} {B : Nat} {A : Option Addr} {l : List (Value × Rg)} (h : Rd w B 3 A l.length (cellsR l)) {k : Nat} (hk : k < l.length) :
    ∃ p, A = some p ∧ p.block < B ∧ w.cell? (p.add (k * 3)) = some l[k].1 ∧ w.cell? ⟨(p.add (k * 3)).block, (p.add (k * 3)).off + 1, none⟩ = some (.int .i64 l[k].2.coil) ∧ w.cell? ⟨(p.add (k * 3)).block, (p.add (k * 3)).off + 2, none⟩ = some (.int .i64 l[k].2.kind) := by
  obtain ⟨p, e, hb, hc⟩ := h.at_ (by omega)
  obtain ⟨c0, c1, c2⟩ := cellsR_at l k hk
  exact ⟨p, e, hb, hc _ _ c0, by rw [at_next, add_add]; exact hc _ _ c1, by rw [at_next2, add_add]; exact hc _ _ c2⟩
/-- A part of a ladder at its front. -/
theorem LadR.front {w : World} {B : Nat} {A : Option Addr} {c : Nat} {l : List (Value × Rg)} (h : LadR w B (.slice A l.length c) l) (k : Nat) (hk : k ≤ l.length) : LadR w B (.slice A k c) (l.take k) := by
  obtain ⟨A', c', e, h1, h2, h3⟩ := h
  injection e with e1 _ e2
  subst e1; subst e2
  have hl : (l.take k).length = k := by rw [List.length_take]; omega
  refine ⟨A, c, by rw [hl], ?_, by rw [hl]; omega, fun p hp => h3 p (List.mem_of_mem_take hp)⟩
  rw [hl, ← cellsR_take]
  exact h1.take hk
/-- The rest of a ladder. -/
theorem LadR.rest {w : World} {B : Nat} {p : Addr} {c : Nat} {l : List (Value × Rg)} (h : LadR w B (.slice (some p) l.length c) l) (k : Nat) (hk : k ≤ l.length) (q : Addr) (hq : k < l.length → q = p.add (k * 3)) : LadR w B (.slice (some q) (l.length - k) (c - k)) (l.drop k) := by
  obtain ⟨A', c', e, h1, h2, h3⟩ := h
  injection e with e1 _ e2
  subst e1; subst e2
  have hl : (l.drop k).length = l.length - k := List.length_drop
  refine ⟨some q, c - k, by rw [hl], ⟨?_, fun hn => ?_⟩, by rw [hl]; omega, fun p hp => h3 p (List.mem_of_mem_drop hp)⟩
  · rw [hl, cellsR_length, hl]
  · rw [hl] at hn
    obtain ⟨p', e, hb, hc⟩ := h1.at_ (by omega)
    injection e with e; subst e
    refine ⟨q, rfl, by rw [hq (by omega), add_block]; exact hb, fun j u hu => ?_⟩
    rw [hq (by omega), add_add]
    refine hc _ _ ?_
    rw [← cellsR_drop, List.getElem?_drop] at hu
    exact hu

/-! ### What rungs do -/
def rvalid (r : Rg) (bits : Int) : Bool := lvalid r.logic bits && (decide (0 ≤ r.coil) && (decide (r.coil < bits) && (decide (1 ≤ r.kind) && decide (r.kind ≤ 3))))
def ladvalid (l : List Rg) (bits : Int) : Bool := (l.all fun r => rvalid r bits) && decide (l.length ≤ 12)
theorem rvalid_parts {r : Rg} {bits : Int} (h : rvalid r bits = true) : lvalid r.logic bits = true ∧ (0 ≤ r.coil ∧ r.coil < bits) ∧ (1 ≤ r.kind ∧ r.kind ≤ 3) := by
  unfold rvalid at h; simp at h; exact ⟨h.1, ⟨h.2.1, h.2.2.1⟩, h.2.2.2⟩
theorem rvalid_make {r : Rg} {bits : Int} (h1 : lvalid r.logic bits = true) (h2 : 0 ≤ r.coil ∧ r.coil < bits) (h3 : 1 ≤ r.kind ∧ r.kind ≤ 3) : rvalid r bits = true := by
  unfold rvalid; simp [h1, h2, h3]
/-- The value of an expression for a list of bits. -/
def evL (bs : List Bool) (l : List Nd) : Bool := evb l fun k => bs.getD k.toNat false
/-- A rung executed on bits. -/
def runB (bs : List Bool) (r : Rg) : List Bool :=
  if r.kind = 1 then bs.set r.coil.toNat (evL bs r.logic) else if evL bs r.logic then bs.set r.coil.toNat (decide (r.kind = 2)) else bs
theorem runB_length (bs : List Bool) (r : Rg) : (runB bs r).length = bs.length := by
  unfold runB
  repeat' split
  all_goals simp
def runL (bs : List Bool) (l : List Rg) : List Bool := l.foldl runB bs
theorem runL_length (bs : List Bool) (l : List Rg) : (runL bs l).length = bs.length := by
  induction l generalizing bs with
  | nil => rfl
  | cons r l ih => exact (ih _).trans (runB_length _ _)
theorem runL_append (bs : List Bool) (a b : List Rg) : runL bs (a ++ b) = runL (runL bs a) b := by unfold runL; rw [List.foldl_append]
theorem runL_take (bs : List Bool) (l : List Rg) (k : Nat) (h : k < l.length) : runL bs (l.take (k + 1)) = runB (runL bs (l.take k)) l[k] := by
  unfold runL; rw [List.take_succ_eq_append_getElem h, List.foldl_append]; rfl
def runRungM (m : Img) (r : Rg) : Img := if imgOK m && rvalid r m.bits.length then ⟨runB m.bits r, m.words⟩ else ⟨[], []⟩
def runLadM (m : Img) (l : List Rg) : Img := if imgOK m && ladvalid l m.bits.length then ⟨runL m.bits l, m.words⟩ else ⟨[], []⟩
/-- The driven bits, ascending. -/
def coilsTo (l : List Rg) (n : Nat) : List Int := ((List.range n).filter fun (k : Nat) => l.any fun r => decide (r.coil = (k : Int))).map fun (k : Nat) => (k : Int)
def coilsL (l : List Rg) : List Int := coilsTo l 16
def manyC (l : List Rg) (k : Nat) : Nat := l.countP fun r => decide (r.coil = (k : Int)) && decide (r.kind = 1)
def doubleTo (l : List Rg) (n : Nat) : List Int := ((List.range n).filter fun k => decide (1 < manyC l k)).map fun (k : Nat) => (k : Int)
def doubleL (l : List Rg) : List Int := doubleTo l 16
theorem coilsTo_succ (l : List Rg) (n : Nat) : coilsTo l (n + 1) = if l.any fun r => decide (r.coil = (n : Int)) then coilsTo l n ++ [(n : Int)] else coilsTo l n := by
  unfold coilsTo; rw [List.range_succ, List.filter_append]
  cases h : (l.any fun r => decide (r.coil = (n : Int))) <;> simp [h]
theorem doubleTo_succ (l : List Rg) (n : Nat) : doubleTo l (n + 1) = if decide (1 < manyC l n) then doubleTo l n ++ [(n : Int)] else doubleTo l n := by
  unfold doubleTo; rw [List.range_succ, List.filter_append]
  cases h : decide (1 < manyC l n) <;> simp [h]
theorem coilsTo_length (l : List Rg) (n : Nat) : (coilsTo l n).length ≤ n := by
  unfold coilsTo; rw [List.length_map]; exact Nat.le_trans (List.length_filter_le _ _) (by simp)
theorem doubleTo_length (l : List Rg) (n : Nat) : (doubleTo l n).length ≤ n := by
  unfold doubleTo; rw [List.length_map]; exact Nat.le_trans (List.length_filter_le _ _) (by simp)
def apart (a b : Rg) : Bool := (!(usedL a.logic).contains b.coil) && ((!(usedL b.logic).contains a.coil) && decide (a.coil ≠ b.coil))
def indep (a b : Rg) : Bool := rvalid a 16 && (rvalid b 16 && apart a b)
end Go.Proofs.Ytoagnajljdbobaa

namespace Go.Proofs.Ytoagnajljdbobaa
open Go.RowKit
attribute [local go_sem ↓] Go.wp_at_zero Go.wp_at_succ

theorem rv_eq (r : Rg) (bits : Int) : rvalid r bits = (lvalid r.logic bits && (decide (0 ≤ r.coil) && (decide (r.coil < bits) && inB r.kind 1 3))) := rfl
set_option maxHeartbeats 400000 in
theorem sRungValid_any (v : Value) (r : Rg) (bits : Int) (w : World) (h : RungR w w.heap.size v r) :
    Calls Try.prog 52 #[v, .int .i64 bits] w fun e w' => e = .returned (.bool (rvalid r bits)) ∧ Below w.heap.size w w' := by
  obtain ⟨u, rfl, hn, hf⟩ := h
  have HN := Lib.hid (fun (w' : World) (hb : Below w.heap.size w w') => hn.below hb)
  obtain ⟨A, c, rfl, -⟩ := hn
  have HE := Lib.hid (rv_eq r bits)
  obtain ⟨lg, co, ki⟩ := r
  unfold rgV
  simp only at HN HE ⊢
  go_enter Try.func52, Try.ntmps52
  go_wp2_with fail
  refine (sLogicValid_any _ lg bits _ (HN.out _ ((Below.refl _ _).alloc (Nat.le_refl _) _))).mono ?_
  rintro e w1 ⟨rfl, hb1⟩
  obtain ⟨k0, f0, l0⟩ := kept hb1 w.heap.size (by simp)
  replace hb1 := ((Below.refl _ _).alloc (Nat.le_refl _) (.cells #[.slice A lg.length c, .int .i64 co, .int .i64 ki] 58)).trans (hb1.mono (by simp))
  generalize lvalid lg bits = V at *
  cases V
  · go_wp2
    go_ret
    exact ⟨ret_bool (by rw [HE.out]; rfl), hb1⟩
  · by_cases h0 : 0 ≤ co
    · by_cases h1 : co < bits
      · go_wp2_with fail
        refine (l1In_any ki 1 3 _).mono ?_
        rintro e w2 ⟨rfl, rfl⟩
        have HE2 := Lib.hid (show rvalid ⟨lg, co, ki⟩ bits = inB ki 1 3 by rw [HE.out]; simp [h0, h1])
        generalize inB ki 1 3 = q at *
        go_wp2
        go_ret
        exact ⟨ret_bool (by rw [HE2.out]), hb1⟩
      · have HE2 := Lib.hid (show rvalid ⟨lg, co, ki⟩ bits = false by rw [HE.out]; simp [h1])
        go_wp2
        go_ret
        exact ⟨ret_bool (by rw [HE2.out]), hb1⟩
    · have HE2 := Lib.hid (show rvalid ⟨lg, co, ki⟩ bits = false by rw [HE.out]; simp [h0])
      go_wp2
      go_ret
      exact ⟨ret_bool (by rw [HE2.out]), hb1⟩
theorem all_take_succ {α : Type} (f : α → Bool) (l : List α) (k : Nat) (h : k < l.length) : (l.take (k + 1)).all f = ((l.take k).all f && f l[k]) := by
  rw [List.take_succ_eq_append_getElem h, List.all_append]; simp
theorem all_take_false {α : Type} {f : α → Bool} {l : List α} {k : Nat} (h : k < l.length) (hf : f l[k] = false) : l.all f = false := by
  rw [List.all_eq_false]; exact ⟨l[k], List.getElem_mem h, by simp [hf]⟩
def lads (ps : List (Value × Rg)) : List Rg := ps.map (·.2)
theorem lads_all (ps : List (Value × Rg)) (bits : Int) : ((lads ps).all fun r => rvalid r bits) = ps.all fun p => rvalid p.2 bits := by unfold lads; rw [List.all_map]; rfl
theorem ladvalid_eq (ps : List (Value × Rg)) (bits : Int) : ladvalid (lads ps) bits = ((ps.all fun p => rvalid p.2 bits) && decide (ps.length ≤ 12)) := by
  unfold ladvalid; rw [lads_all]; simp [lads]
set_option maxHeartbeats 1000000 in
theorem sLadderValid_any (v : Value) (ps : List (Value × Rg)) (bits : Int) (w : World) (h : LadR w w.heap.size v ps) :
    Calls Try.prog 57 #[v, .int .i64 bits] w fun e w' => e = .returned (.bool (ladvalid (lads ps) bits)) ∧ Below w.heap.size w w' := by
  obtain ⟨A, c, rfl, hr, hl, h3⟩ := h
  have HE := Lib.hid (ladvalid_eq ps bits)
  have H3 := Lib.hid h3
  clear h3
  go_enter Try.func57, Try.ntmps57
  go_wp2_with fail
  go_loopw [5] (fun i wr => ∃ k : Nat, k ≤ ps.length ∧ i = .int .i64 k ∧ ((ps.take k).all fun p => rvalid p.2 bits) = true ∧ Below w.heap.size w wr) (fun i _ => ps.length - (intOf i).toNat)
  case atStart => exact ⟨0, by omega, rfl, by simp, Below.refl _ _⟩
  case round =>
    obtain ⟨k, hk, rfl, hal, hbr⟩ := hrel
    have hsz := hbr.size
    by_cases hlt : k < ps.length
    · obtain ⟨p, rfl, hpb, c0, c1, c2⟩ := hr.three hlt
      obtain ⟨hn, hf⟩ := H3.out ps[k] (List.getElem_mem hlt)
      have hS := Lib.hid (all_take_succ (fun p : Value × Rg => rvalid p.2 bits) ps k hlt)
      have hF := Lib.hid (fun (hf : rvalid ps[k].2 bits = false) => all_take_false (f := fun p : Value × Rg => rvalid p.2 bits) hlt hf)
      generalize ps[k] = x at c0 c1 c2 hn hf hS hF
      obtain ⟨u, r⟩ := x
      simp only at c0 c1 c2 hn hf hS hF
      have hR : RungR wr wr.heap.size (rgV u r) r := ⟨u, rfl, hn.keep (fun _ hp => hbr.cell hp) hsz, hf⟩
      have hlt' := hn
      obtain ⟨Au, cu, rfl, -⟩ := hlt'
      have g0 := (hbr.cell (p := p.add (k * 3)) (by rw [add_block]; exact hpb)).trans c0
      have g1 := (hbr.cell (p := ⟨(p.add (k * 3)).block, (p.add (k * 3)).off + 1, none⟩) (by show (p.add (k * 3)).block < _; rw [add_block]; exact hpb)).trans c1
      have g2 := (hbr.cell (p := ⟨(p.add (k * 3)).block, (p.add (k * 3)).off + 2, none⟩) (by show (p.add (k * 3)).block < _; rw [add_block]; exact hpb)).trans c2
      have hV := Lib.hid (sRungValid_any (rgV (.slice Au r.logic.length cu) r) r bits wr hR)
      obtain ⟨lg, co, ki⟩ := r
      unfold rgV at hV
      simp only at g0 g1 g2 hV
      have i1 : (k : Int) < (ps.length : Int) := by omega
      have Hal := Lib.hid hal
      clear c0 c1 c2 hn hf hR hr hal
      go_wp2_with fail
      refine hV.out.mono ?_
      rintro e w2 ⟨rfl, hb2⟩
      have hbr2 := hbr.trans (hb2.mono hsz)
      generalize rvalid ⟨lg, co, ki⟩ bits = V at *
      cases V
      · go_wp2
        go_ret
        exact ⟨ret_bool (by rw [HE.out, hF.out (by trivial)]; rfl), hbr2⟩
      · go_wp2
        exact ⟨⟨k + 1, by omega, by go_num, by rw [hS.out, Hal.out]; rfl, hbr2⟩, by simp [intOf]; omega⟩
    · obtain rfl : k = ps.length := by omega
      rw [List.take_length] at hal
      have HE2 := Lib.hid (show ladvalid (lads ps) bits = decide (ps.length ≤ 12) by rw [HE.out, hal]; rfl)
      clear hal
      go_wp2
      go_ret
      exact ⟨ret_bool (by rw [HE2.out]; simp; omega), hbr⟩
end Go.Proofs.Ytoagnajljdbobaa

namespace Go.Proofs.Ytoagnajljdbobaa
open Go.RowKit
attribute [local go_sem ↓] Go.wp_at_zero Go.wp_at_succ

theorem evL_val (bs : List Bool) (l : List Nd) : val (bAlg bs) l = evL bs l := rfl
theorem runB_1 (bs : List Bool) (lg : List Nd) (co : Int) : runB bs ⟨lg, co, 1⟩ = bs.set co.toNat (evL bs lg) := by unfold runB; simp
theorem runB_no {bs : List Bool} {lg : List Nd} {co ki : Int} (h : ki ≠ 1) (he : evL bs lg = false) : runB bs ⟨lg, co, ki⟩ = bs := by unfold runB; simp [h, he]
theorem runB_yes {bs : List Bool} {lg : List Nd} {co ki : Int} (h : ki ≠ 1) (he : evL bs lg = true) : runB bs ⟨lg, co, ki⟩ = bs.set co.toNat (decide (ki = 2)) := by unfold runB; simp [h, he]
set_option maxHeartbeats 1000000 in
theorem l3Rung_any (v vr : Value) (bs : List Bool) (r : Rg) (w : World) (hb : BoolsR w w.heap.size v bs) (h : RungR w w.heap.size vr r) (hv : rvalid r bs.length = true) (hl : bs.length ≤ 16) :
    Calls Try.prog 104 #[v, vr] w (OwnBP (runB bs r) w) := by
  obtain ⟨h1, h2, h3⟩ := rvalid_parts hv
  obtain ⟨u, rfl, hn, hf⟩ := h
  have HN := Lib.hid (fun (w' : World) (hb : Below w.heap.size w w') => hn.below hb)
  have HB := Lib.hid (fun (w' : World) (hb' : Below w.heap.size w w') => hb.below hb')
  obtain ⟨A, c, rfl, -⟩ := hn
  obtain ⟨Ab, cb, rfl, hrb, -⟩ := hb
  have HD := Lib.hid (fun (w' : World) (hb' : Below w.heap.size w w') => hrb.below hb')
  obtain ⟨lg, co, ki⟩ := r
  unfold rgV
  simp only at HN h1 h2 h3 ⊢
  have HV := Lib.hid h1
  clear hv h1
  go_enter Try.func104, Try.ntmps104
  go_wp2_with fail
  refine (sEval_any _ _ lg bs _ (HN.out _ ((Below.refl _ _).alloc (Nat.le_refl _) _)) (HB.out _ ((Below.refl _ _).alloc (Nat.le_refl _) _)) HV.out).mono ?_
  rintro e w1 ⟨rfl, hb1⟩
  obtain ⟨k0, f0, l0⟩ := kept hb1 w.heap.size (by simp)
  replace hb1 := ((Below.refl _ _).alloc (Nat.le_refl _) (.cells #[.slice A lg.length c, .int .i64 co, .int .i64 ki] 58)).trans (hb1.mono (by simp))
  go_wp2_with (at_builtin; refine wpl_append rfl _ _ 23 rfl elB (base := w1.heap.size) rfl (own_lit0 rfl (by omega)) rfl (HD.out _ (hb1.alloc hb1.size _)) (one_b bs) ?_ ?_ ?_ ?_)
  · omega
  · omega
  · simp
  intro v2 w2 hown hg2 _
  have hb2 : Below w.heap.size w w2 := (hb1.alloc hb1.size _).grown hg2 (by have := hb1.size; simp; omega) (by simp only [Value.ownBlock, Option.some.injEq]; rintro j rfl; exact hb1.size)
  obtain ⟨k1, f1, l1⟩ : (∀ o, w2.cell? ⟨w.heap.size, o, none⟩ = w1.cell? ⟨w.heap.size, o, none⟩) ∧ True ∧ True := ⟨fun o => World.cell?_of_block ((hg2.block w.heap.size (by simp; omega) (by simp [Value.ownBlock]; omega)).trans (Below.heap_alloc w1 _ _ l0)), trivial, trivial⟩
  obtain ⟨A2, c2, rfl, hc2, -⟩ := own_form hown
  obtain ⟨cn, rfl⟩ := Int.eq_ofNat_of_zero_le h2.1
  have hcn : cn < bs.length := by omega
  obtain ⟨g, rfl, hgb, hgl⟩ := own_addr hown (by omega)
  have hcb := hown.cellAt cn (by omega)
  have hz := hown.frozenAt cn
  have hst := fun b : Bool => hown.stored cn (.bool b)
  obtain ⟨y, hy⟩ : ∃ y, (bs.map Value.bool)[cn]? = some y := ⟨_, List.getElem?_eq_getElem (by rw [List.length_map]; exact hcn)⟩
  rw [hy] at hcb
  have HST := Lib.hid hst
  have HOW := Lib.hid hown
  have i1 : (cn : Int) < (bs.length : Int) := by omega
  have hne : g ≠ w.heap.size := by omega
  have hz1 := hb1.size
  have hO2 : OwnB w2 w.heap.size (.slice (some ⟨g, 0, none⟩) bs.length c2) bs := mono_own hown hz1
  have HO2 := Lib.hid hO2
  have done_ : ∀ b : Bool, OwnB (w2.setCell ⟨g, cn, none⟩ (.bool b)) w.heap.size (.slice (some ⟨g, 0, none⟩) bs.length c2) (bs.set cn b) := fun b => by
    unfold OwnB
    rw [List.length_set, List.map_set]
    exact mono_own (HST.out b).1 hz1
  have HDO := Lib.hid done_
  generalize hE : val (bAlg bs) lg = E at *
  rw [evL_val] at hE
  have HE := Lib.hid hE
  clear hst hown hO2 done_ hE hg2 hrb
  by_cases h1 : ki = 1
  · subst h1
    go_wp2
    go_ret
    exact ⟨_, rfl, by rw [runB_1, HE.out]; exact HDO.out E, hb2.setCell (by simp; omega) _⟩
  · have e1 : (ki == 1) = false := by simpa using h1
    have H1 := Lib.hid h1
    clear h1
    cases E
    · go_wp2
      go_ret
      exact ⟨_, rfl, by rw [runB_no H1.out HE.out]; exact HO2.out, hb2⟩
    · by_cases h4 : ki = 2
      · subst h4
        go_wp2
        go_ret
        exact ⟨_, rfl, by rw [runB_yes H1.out HE.out]; exact HDO.out true, hb2.setCell (by simp; omega) _⟩
      · have e2 : (ki == 2) = false := by simpa using h4
        have H4 := Lib.hid h4
        clear h4
        go_wp2
        go_ret
        exact ⟨_, rfl, by rw [runB_yes H1.out HE.out, show decide (ki = 2) = false by simp [H4.out]]; exact HDO.out false, hb2.setCell (by simp; omega) _⟩
theorem lads_get (ps : List (Value × Rg)) (k : Nat) (h : k < ps.length) : (lads ps)[k]'(by simpa [lads] using h) = ps[k].2 := by simp [lads]
theorem lads_len (ps : List (Value × Rg)) : (lads ps).length = ps.length := by simp [lads]
theorem runL_lads (bs : List Bool) (ps : List (Value × Rg)) (k : Nat) (h : k < ps.length) : runL bs ((lads ps).take (k + 1)) = runB (runL bs ((lads ps).take k)) ps[k].2 := by
  rw [runL_take bs (lads ps) k (by rw [lads_len]; exact h), lads_get ps k h]
set_option maxHeartbeats 1000000 in
theorem l3Run_any (v vl : Value) (bs : List Bool) (ps : List (Value × Rg)) (w : World) (hb : BoolsR w w.heap.size v bs) (h : LadR w w.heap.size vl ps) (hv : ∀ p ∈ ps, rvalid p.2 bs.length = true) (hl16 : bs.length ≤ 16) :
    Calls Try.prog 112 #[v, vl] w (OwnBP (runL bs (lads ps)) w) := by
  obtain ⟨A, c, rfl, hr, hl, h3⟩ := h
  obtain ⟨Ab, cb, rfl, hrb, -⟩ := hb
  have H3 := Lib.hid h3
  have HV := Lib.hid hv
  clear h3 hv
  go_enter Try.func112, Try.ntmps112
  go_wp2_with (at_builtin; refine wpl_append rfl _ _ 23 rfl elB (base := w.heap.size) rfl (own_lit0 rfl (by omega)) rfl (hrb.alloc (Nat.le_refl _) _) (one_b bs) ?_ ?_ ?_ ?_)
  · omega
  · omega
  · simp
  intro v1 w1 hown hg1 _
  have hb1 : Below w.heap.size w w1 := ((Below.refl _ _).alloc (Nat.le_refl _) _).grown hg1 (by simp) (by simp [Value.ownBlock])
  have hO1 : OwnB w1 w.heap.size v1 bs := hown
  clear hown hg1 hrb
  go_wp2_with fail
  go_loopw [5, 6] (fun o i wr => ∃ k : Nat, k ≤ ps.length ∧ i = .int .i64 k ∧ OwnB wr w.heap.size o (runL bs ((lads ps).take k)) ∧ Below w.heap.size w wr) (fun _ i _ => ps.length - (intOf i).toNat)
  case atStart => exact ⟨0, by omega, rfl, hO1, hb1⟩
  case round =>
    obtain ⟨k, hk, rfl, hown, hbr⟩ := hrel
    clear hO1 hb1
    have hsz := hbr.size
    have hrl := runL_length bs ((lads ps).take k)
    by_cases hlt : k < ps.length
    · obtain ⟨p, rfl, hpb, c0, c1, c2⟩ := hr.three hlt
      obtain ⟨hn, hf⟩ := H3.out ps[k] (List.getElem_mem hlt)
      have hv := HV.out ps[k] (List.getElem_mem hlt)
      have hS := Lib.hid (runL_lads bs ps k hlt)
      have hBo := OwnB.read hown (by omega)
      obtain ⟨So, so, rfl, -, -⟩ := own_form hown
      generalize runL bs ((lads ps).take k) = L at *
      generalize ps[k] = x at c0 c1 c2 hn hf hS hv
      obtain ⟨u, r⟩ := x
      simp only at c0 c1 c2 hn hf hS hv
      have hR : RungR wr wr.heap.size (rgV u r) r := ⟨u, rfl, hn.keep (fun _ hp => hbr.cell hp) hsz, hf⟩
      obtain ⟨Au, cu, rfl, -⟩ := id hn
      have g0 := (hbr.cell (p := p.add (k * 3)) (by rw [add_block]; exact hpb)).trans c0
      have g1 := (hbr.cell (p := ⟨(p.add (k * 3)).block, (p.add (k * 3)).off + 1, none⟩) (by show (p.add (k * 3)).block < _; rw [add_block]; exact hpb)).trans c1
      have g2 := (hbr.cell (p := ⟨(p.add (k * 3)).block, (p.add (k * 3)).off + 2, none⟩) (by show (p.add (k * 3)).block < _; rw [add_block]; exact hpb)).trans c2
      have hV := Lib.hid (l3Rung_any (.slice So L.length so) (rgV (.slice Au r.logic.length cu) r) L r wr hBo hR (by rw [hrl]; exact hv) (by omega))
      obtain ⟨lg, co, ki⟩ := r
      unfold rgV at hV
      simp only at g0 g1 g2 hV
      have i1 : (k : Int) < (ps.length : Int) := by omega
      clear c0 c1 c2 hn hf hR hr hv hBo hown hrl
      go_wp2_with fail
      refine hV.out.mono ?_
      rintro e w2 ⟨v2, rfl, hO2, hb2⟩
      have hbr2 := hbr.trans (hb2.mono hsz)
      go_wp2
      exact ⟨⟨k + 1, by omega, by go_num, by rw [hS.out]; exact mono_own hO2 hsz, hbr2⟩, by simp [intOf]; omega⟩
    · go_wp2
      go_ret
      obtain rfl : k = ps.length := by omega
      exact ⟨_, rfl, by rw [show (lads ps).take ps.length = lads ps by rw [← lads_len, List.take_length]] at hown; exact hown, hbr⟩
end Go.Proofs.Ytoagnajljdbobaa

namespace Go.Proofs.Ytoagnajljdbobaa
open Go.RowKit
attribute [local go_sem ↓] Go.wp_at_zero Go.wp_at_succ

theorem any_take_succ {α : Type} (f : α → Bool) (l : List α) (k : Nat) (h : k < l.length) : (l.take (k + 1)).any f = ((l.take k).any f || f l[k]) := by
  rw [List.take_succ_eq_append_getElem h, List.any_append]; simp
theorem any_of_get {α : Type} {f : α → Bool} {l : List α} {k : Nat} (h : k < l.length) (hf : f l[k] = true) : l.any f = true := List.any_eq_true.2 ⟨l[k], List.getElem_mem h, hf⟩
theorem coilsTo_lads (ps : List (Value × Rg)) (n : Nat) : coilsTo (lads ps) (n + 1) = if ps.any fun p => decide (p.2.coil = (n : Int)) then coilsTo (lads ps) n ++ [(n : Int)] else coilsTo (lads ps) n := by
  rw [coilsTo_succ]; unfold lads; rw [List.any_map]; rfl
theorem countP_take_succ {α : Type} (f : α → Bool) (l : List α) (k : Nat) (h : k < l.length) : (l.take (k + 1)).countP f = (l.take k).countP f + if f l[k] = true then 1 else 0 := by
  rw [List.take_succ_eq_append_getElem h, List.countP_append, List.countP_singleton]
theorem doubleTo_lads (ps : List (Value × Rg)) (n : Nat) : doubleTo (lads ps) (n + 1) = if 1 < ps.countP fun p => decide (p.2.coil = (n : Int)) && decide (p.2.kind = 1) then doubleTo (lads ps) n ++ [(n : Int)] else doubleTo (lads ps) n := by
  rw [doubleTo_succ]; unfold manyC lads; rw [List.countP_map]; simp only [decide_eq_true_eq]; rfl
set_option maxHeartbeats 2000000 in
theorem sDoubleCoils_any (v : Value) (ps : List (Value × Rg)) (w : World) (h : LadR w w.heap.size v ps) :
    Calls Try.prog 64 #[v] w (OwnIP (doubleL (lads ps)) w) := by
  obtain ⟨A, c, rfl, hr, hl, h3⟩ := h
  have H3 := Lib.hid h3
  clear h3
  go_enter Try.func64, Try.ntmps64
  go_wp2
  go_loopw [3, 4] (fun v i wr => ∃ n : Nat, n ≤ 16 ∧ i = .int .i64 n ∧ OwnI wr w.heap.size v (doubleTo (lads ps) n) ∧ Below w.heap.size w wr) (fun _ i _ => 16 - (intOf i).toNat)
  case atStart => exact ⟨0, by omega, rfl, own_lit0 rfl (by omega), (Below.refl _ _).alloc (Nat.le_refl _) _⟩
  case round =>
    obtain ⟨n, hn, rfl, hown, hbr⟩ := hrel
    have hsz := hbr.size
    by_cases hlt : n < 16
    · have hnl := doubleTo_length (lads ps) n
      obtain ⟨SA, sc, rfl, -, -⟩ := own_form hown
      obtain ⟨q, hq⟩ : ∃ q, q = (doubleTo (lads ps) n).length := ⟨_, rfl⟩
      have hown' : wr.ownsRow w.heap.size 3 1 (.slice SA q sc) q ((doubleTo (lads ps) n).map (.int .i64)) := by rw [hq]; exact hown
      rw [← hq] at hnl ⊢
      have HO := Lib.hid hown
      have HQ := Lib.hid hq
      have hS := Lib.hid (doubleTo_lads ps n)
      clear hown hq
      obtain ⟨wo, rfl⟩ : ∃ wo : World, wo = wr := ⟨_, rfl⟩
      go_wp2_with fail
      go_loopw [5, 6] (fun m i wx => ∃ k : Nat, k ≤ ps.length ∧ i = .int .i64 k ∧ m = .int .i64 ((ps.take k).countP (fun p => decide (p.2.coil = (n : Int)) && decide (p.2.kind = 1)) : Nat) ∧ wx = wo) (fun _ i _ => ps.length - (intOf i).toNat)
      case atStart => exact ⟨0, by omega, rfl, rfl, rfl⟩
      case round =>
        obtain ⟨k, hk, rfl, rfl, rfl⟩ := hrel
        by_cases hkl : k < ps.length
        · obtain ⟨p, rfl, hpb, c0, c1, c2⟩ := hr.three hkl
          have HT := Lib.hid (countP_take_succ (fun p : Value × Rg => decide (p.2.coil = (n : Int)) && decide (p.2.kind = 1)) ps k hkl)
          have hle : (ps.take k).countP (fun p => decide (p.2.coil = (n : Int)) && decide (p.2.kind = 1)) ≤ k := Nat.le_trans List.countP_le_length (by simp; omega)
          generalize (ps.take k).countP (fun p => decide (p.2.coil = (n : Int)) && decide (p.2.kind = 1)) = m at *
          generalize ps[k] = x at c0 c1 c2 HT
          obtain ⟨u, lg, co, ki⟩ := x
          simp only at c0 c1 c2 HT
          have g1 := (hbr.cell (p := ⟨(p.add (k * 3)).block, (p.add (k * 3)).off + 1, none⟩) (by show (p.add (k * 3)).block < _; rw [add_block]; exact hpb)).trans c1
          have g2 := (hbr.cell (p := ⟨(p.add (k * 3)).block, (p.add (k * 3)).off + 2, none⟩) (by show (p.add (k * 3)).block < _; rw [add_block]; exact hpb)).trans c2
          have i1 : (k : Int) < (ps.length : Int) := by omega
          clear c0 c1 c2 hr
          by_cases h2 : co = n
          · subst h2
            by_cases h1 : ki = 1
            · subst h1
              have HM := Lib.hid (show (ps.take (k + 1)).countP (fun p => decide (p.2.coil = (n : Int)) && decide (p.2.kind = 1)) = m + 1 by rw [HT.out]; simp)
              go_wp2
              exact ⟨⟨k + 1, by omega, by go_num, by rw [HM.out]; go_num, by first | rfl | trivial⟩, by simp [intOf]; omega⟩
            · have e1 : (ki == 1) = false := by simpa using h1
              have HM := Lib.hid (show (ps.take (k + 1)).countP (fun p => decide (p.2.coil = (n : Int)) && decide (p.2.kind = 1)) = m by rw [HT.out]; simp [h1])
              clear h1
              go_wp2
              exact ⟨⟨k + 1, by omega, by go_num, by rw [HM.out], by first | rfl | trivial⟩, by simp [intOf]; omega⟩
          · have e2 : (co == (n : Int)) = false := by simpa using h2
            have HM := Lib.hid (show (ps.take (k + 1)).countP (fun p => decide (p.2.coil = (n : Int)) && decide (p.2.kind = 1)) = m by rw [HT.out]; simp [h2])
            clear h2
            go_wp2
            exact ⟨⟨k + 1, by omega, by go_num, by rw [HM.out], by first | rfl | trivial⟩, by simp [intOf]; omega⟩
        · obtain rfl : k = ps.length := by omega
          rw [List.take_length]
          have hcl : ps.countP (fun p => decide (p.2.coil = (n : Int)) && decide (p.2.kind = 1)) ≤ ps.length := List.countP_le_length
          generalize ps.countP (fun p => decide (p.2.coil = (n : Int)) && decide (p.2.kind = 1)) = m at *
          by_cases hm : 1 < m
          · have hm' : (1 : Int) < (m : Int) := by omega
            have HS1 := Lib.hid (show doubleTo (lads ps) (n + 1) = doubleTo (lads ps) n ++ [(n : Int)] by rw [hS.out, if_pos hm])
            clear hS hm
            go_wp2_with (at_builtin; refine wpl_append rfl _ _ 24 rfl elI rfl (hown'.alloc _) rfl (Rd.new1 _ _ _) ?_ ?_ ?_ ?_ ?_)
            · first | rfl | (intro u hu; simp at hu; subst hu; rfl)
            · omega
            · omega
            · first | omega | (simp; omega)
            intro v' w1 hown1 hg1 _
            have R : OwnI w1 w.heap.size v' (doubleTo (lads ps) (n + 1)) := by
              unfold OwnI; rw [HS1.out]
              have h := hown1
              rw [HQ.out] at h
              simpa using h
            have hb1 : Below w.heap.size w w1 := (hbr.alloc hsz _).grown hg1 (by simp; omega) (fun j hj => (hown'.lt j hj).1)
            clear hown1 hg1 hown' hbr
            go_wp2
            exact ⟨⟨n + 1, by omega, by go_num, R, hb1⟩, by simp [intOf]; omega⟩
          · have hm' : ¬ (1 : Int) < (m : Int) := by omega
            have R : ∀ W, OwnI W w.heap.size (.slice SA (doubleTo (lads ps) n).length sc) (doubleTo (lads ps) n) → OwnI W w.heap.size (.slice SA q sc) (doubleTo (lads ps) (n + 1)) := fun W h => by
              rw [hS.out, if_neg hm, HQ.out]
              exact h
            have HR := Lib.hid (R _ HO.out)
            clear R hm hown' hS
            go_wp2
            exact ⟨⟨n + 1, by omega, by go_num, HR.out, hbr⟩, by simp [intOf]; omega⟩
    · go_wp2
      go_ret
      obtain rfl : n = 16 := by omega
      exact ⟨_, rfl, hown, hbr⟩
end Go.Proofs.Ytoagnajljdbobaa

namespace Go.Proofs.Ytoagnajljdbobaa
open Go.RowKit
attribute [local go_sem ↓] Go.wp_at_zero Go.wp_at_succ

theorem keptB {B : Nat} {W w1 : World} (hb : Below B W w1) (n : Nat) (hn : n < B) (hl : n < W.heap.size) :
    (∀ o, w1.cell? ⟨n, o, none⟩ = W.cell? ⟨n, o, none⟩) ∧ (∀ o, w1.frozen? ⟨n, o, none⟩ = W.frozen? ⟨n, o, none⟩) ∧ n < w1.heap.size :=
  ⟨fun _ => hb.cell hn, fun _ => hb.frozen hn, Nat.lt_of_lt_of_le hl hb.size⟩
set_option maxHeartbeats 2000000 in
theorem l1OwnRung_any (v : Value) (r : Rg) (w : World) (h : RungR w w.heap.size v r) (hl : r.logic.length ≤ 2000000) :
    Calls Try.prog 103 #[v] w fun e w' => ∃ u, e = .returned (rgV u r) ∧ OwnN w' w.heap.size u r.logic ∧ Below w.heap.size w w' := by
  obtain ⟨u, rfl, hn, hf⟩ := h
  obtain ⟨A, c, rfl, hr, -⟩ := hn
  have HD := Lib.hid (fun (w' : World) (hb' : Below w.heap.size w w') => hr.below hb')
  obtain ⟨lg, co, ki⟩ := r
  unfold rgV
  simp only at HD hl ⊢
  clear hr
  go_enter Try.func103, Try.ntmps103
  go_wp2_with (at_builtin; refine wpl_append rfl _ _ 56 rfl elN (base := w.heap.size + 1 + 1 + 1) rfl (own_lit0 (by simp) (by omega)) rfl (HD.out _ (((((Below.refl _ _).alloc (Nat.le_refl _) _).alloc (by simp) _).alloc (by simp; omega) _).alloc (by simp; omega) _)) (one_n lg) ?_ ?_ ?_ ?_)
  · omega
  · omega
  · simp
  intro v5 w5 hown hg5 _
  obtain ⟨A5, c5, rfl, -, -⟩ := own_form hown
  have hbB := ((Below.refl (w.heap.size + 1 + 1 + 1) _).alloc (by simp) _).grown hg5 (by simp) (by simp [Value.ownBlock])
  obtain ⟨ka, fa, la⟩ := keptB hbB (w.heap.size + 1 + 1) (by omega) (by simp)
  obtain ⟨kb, fb, lb⟩ := keptB hbB (w.heap.size + 1) (by omega) (by simp)
  have hb5 : Below w.heap.size w w5 := ((((Below.refl _ _).alloc (Nat.le_refl _) _).alloc (by simp) _).alloc (by simp; omega) _).trans (hbB.mono (by omega))
  have HO := Lib.hid hown
  have HB5 := Lib.hid hb5
  clear hown hg5 hbB hb5
  go_wp2
  refine bodyPost_ret (v := .agg #[.slice A5 lg.length c5, .int .i64 co, .int .i64 ki]) (by simp [results, Try.results103, go_sem, *]) rfl ⟨_, rfl, ?_, ?_⟩
  · exact mono_own (ownsRow_setCell_below (ownsRow_setCell_below (ownsRow_setCell_below (ownsRow_setCell_below HO.out (by simp) _) (by simp) _) (by simp) _) (by simp) _) (by omega)
  · exact (((HB5.out.setCell (by simp; omega) _).setCell (by simp) _).setCell (by simp) _).setCell (by simp) _
set_option maxHeartbeats 2000000 in
theorem l1OwnImage_any (v : Value) (m : Img) (w : World) (h : ImgR w w.heap.size v m) (hs : m.bits.length ≤ 2000000 ∧ m.words.length ≤ 2000000) :
    Calls Try.prog 102 #[v] w fun e w' => ∃ u, e = .returned u ∧ OwnM w' w.heap.size u m ∧ Below w.heap.size w w' := by
  obtain ⟨v1, v2, rfl, ⟨A1, c1, rfl, hr1, -⟩, ⟨A2, c2, rfl, hr2, -⟩⟩ := h
  have HD1 := Lib.hid (fun (w' : World) (hb' : Below w.heap.size w w') => hr1.below hb')
  have HD2 := Lib.hid (fun (w' : World) (hb' : Below w.heap.size w w') => hr2.below hb')
  clear hr1 hr2
  obtain ⟨hs1, hs2⟩ := hs
  go_enter Try.func102, Try.ntmps102
  go_wp2_with (at_builtin; refine wpl_append rfl _ _ 23 rfl elB (base := w.heap.size + 1 + 1 + 1) rfl (own_lit0 (by simp) (by omega)) rfl (HD1.out _ (((((Below.refl _ _).alloc (Nat.le_refl _) _).alloc (by simp) _).alloc (by simp; omega) _).alloc (by simp; omega) _)) (one_b m.bits) ?_ ?_ ?_ ?_)
  · omega
  · omega
  · simp
  intro v5 w5 hown hg5 _
  obtain ⟨A5, c5, rfl, -, -⟩ := own_form hown
  have hbB := ((Below.refl (w.heap.size + 1 + 1 + 1) _).alloc (by simp) _).grown hg5 (by simp) (by simp [Value.ownBlock])
  have hz5 : w.heap.size + 1 + 1 + 1 ≤ w5.heap.size := by have := hbB.size; simp at this; omega
  obtain ⟨ka, fa, la⟩ := keptB hbB (w.heap.size + 1 + 1) (by omega) (by simp)
  obtain ⟨kb, fb, lb⟩ := keptB hbB (w.heap.size + 1) (by omega) (by simp)
  obtain ⟨kc, fc, lc⟩ := keptB hbB w.heap.size (by omega) (by simp; omega)
  have hb5 : Below w.heap.size w w5 := ((((Below.refl _ _).alloc (Nat.le_refl _) _).alloc (by simp) _).alloc (by simp; omega) _).trans (hbB.mono (by omega))
  have hb5s : Below w.heap.size w (w5.setCell ⟨w.heap.size + 1 + 1, 0, none⟩ (.slice A5 m.bits.length c5)) := hb5.setCell (by simp; omega) _
  have hO5 := ownsRow_setCell_below hown (a := ⟨w.heap.size + 1 + 1, 0, none⟩) (by simp) (.slice A5 m.bits.length c5)
  clear hown hg5 hbB hb5
  go_wp2_with (at_builtin; refine wpl_append rfl _ _ 24 rfl elI (base := w5.heap.size) rfl (own_lit0 (by simp [World.setCell]) (by omega)) rfl (HD2.out _ (hb5s.alloc (by simp [World.setCell]; omega) _)) (one_i m.words) ?_ ?_ ?_ ?_)
  · omega
  · omega
  · simp [World.setCell]
  intro v6 w6 hown6 hg6 _
  obtain ⟨A6, c6, rfl, -, -⟩ := own_form hown6
  have hse : (w5.setCell ⟨w.heap.size + 1 + 1, 0, none⟩ (.slice A5 m.bits.length c5)).heap.size = w5.heap.size := by simp [World.setCell]
  have hbC := ((Below.refl w5.heap.size (w5.setCell ⟨w.heap.size + 1 + 1, 0, none⟩ (.slice A5 m.bits.length c5))).alloc (by rw [hse]; exact Nat.le_refl _) _).grown hg6 (by simp [World.setCell]) (by simp [Value.ownBlock])
  obtain ⟨kd, fd, ld⟩ := keptB hbC (w.heap.size + 1 + 1) (by omega) (by rw [hse]; omega)
  obtain ⟨ke, fe, le⟩ := keptB hbC (w.heap.size + 1) (by omega) (by rw [hse]; omega)
  have hO6 := own_below hO5 (hbC.mono (by rw [hse]; exact Nat.le_refl _))
  have hb6 := hb5s.trans (hbC.mono (by omega))
  have HO5 := Lib.hid hO6
  have HO6 := Lib.hid hown6
  have HB6 := Lib.hid hb6
  clear hO5 hO6 hown6 hg6 hb5s hbC hb6 hse
  go_wp2
  refine bodyPost_ret (v := .agg #[.slice A5 m.bits.length c5, .slice A6 m.words.length c6]) (by simp [results, Try.results102, go_sem, *]) rfl ⟨_, rfl, ⟨_, _, rfl, ?_, ?_⟩, ?_⟩
  · exact mono_own (ownsRow_setCell_below (ownsRow_setCell_below (ownsRow_setCell_below HO5.out (by simp) _) (by simp) _) (by simp) _) (by omega)
  · exact mono_own (ownsRow_setCell_below (ownsRow_setCell_below (ownsRow_setCell_below HO6.out (by simp; omega) _) (by simp; omega) _) (by simp; omega) _) (by omega)
  · exact ((HB6.out.setCell (by simp; omega) _).setCell (by simp) _).setCell (by simp) _
/-- A ladder whose rows and expressions lie from base on. -/
def OwnL (w : World) (base : Nat) (v : Value) (ps : List (Value × Rg)) : Prop :=
  w.ownsRow base 58 3 v ps.length (cellsR ps) ∧ ∀ p ∈ ps, OwnN w base p.1 p.2.logic ∧ rgFit p.2 ∧ (∀ x ∈ p.2.logic, ndFit x) ∧ p.2.logic.length ≤ 2000000
theorem elL : Elem Try.prog 64 58 (.agg #[.slice none 0 0, .int .i64 0, .int .i64 0]) 3 40 := ⟨Try.underlying64, by kernel_rfl, rfl, by decide⟩
theorem OwnL.nil {w : World} {base : Nat} {v : Value} (h : w.ownsRow base 58 3 v 0 []) : OwnL w base v [] := ⟨h, by simp⟩
theorem OwnL.below {w w' : World} {base : Nat} {v : Value} {ps : List (Value × Rg)} (h : OwnL w base v ps) (hb : Below w.heap.size w w') : OwnL w' base v ps :=
  ⟨own_below h.1 hb, fun p hp => ⟨own_below (h.2 p hp).1 hb, (h.2 p hp).2⟩⟩
theorem OwnL.read {w : World} {base : Nat} {v : Value} {ps : List (Value × Rg)} (h : OwnL w base v ps) (hl : ps.length ≤ 4398046511104) : LadR w w.heap.size v ps := by
  obtain ⟨A, c, rfl, hc, hr⟩ := own_form h.1
  exact ⟨A, c, rfl, hr, ⟨hc, hl⟩, fun p hp => by obtain ⟨h1, h2, h3, h4⟩ := h.2 p hp; exact ⟨h1.read (by omega) h3, h2⟩⟩
theorem Rd.newR (w : World) (u : Value) (r : Rg) (t : TypeId) : Rd (w.alloc (.cells #[u, .int .i64 r.coil, .int .i64 r.kind] t)) (w.heap.size + 1) 3 (some ⟨w.heap.size, 0, none⟩) 1 (cellsR [(u, r)]) := by
  refine ⟨rfl, fun _ => ⟨_, rfl, Nat.lt_succ_self _, fun j v hj => ?_⟩⟩
  match j, hj with
  | 0, hj => simp [cellsR] at hj; subst hj; simp [Addr.add]
  | 1, hj => simp [cellsR] at hj; subst hj; simp [Addr.add]
  | 2, hj => simp [cellsR] at hj; subst hj; simp [Addr.add]
theorem one_r (A : Option Addr) (n c : Nat) (r : Rg) : ∀ u ∈ cellsR [(.slice A n c, r)], u.oneCell' = true := by
  intro u hu; simp [cellsR] at hu; rcases hu with rfl | rfl | rfl <;> rfl
/-- One rung more. -/
theorem OwnL.push {w w2 : World} {base : Nat} {v v2 : Value} {ps : List (Value × Rg)} {u : Value} {r : Rg} (h : OwnL w base v ps) (hu : OwnN w base u r.logic) (hf : rgFit r ∧ (∀ x ∈ r.logic, ndFit x) ∧ r.logic.length ≤ 2000000)
    (hO : w2.ownsRow base 58 3 v2 (ps.length + 1) (cellsR ps ++ cellsR [(u, r)])) (hg : w.grownBy w2 v.ownBlock) : OwnL w2 base v2 (ps ++ [(u, r)]) := by
  refine ⟨by rw [cellsR_append, List.length_append]; exact hO, fun p hp => ?_⟩
  rcases List.mem_append.1 hp with hp | hp
  · exact ⟨World.ownsRow.kept (h.2 p hp).1 hg (own_ne (h.2 p hp).1 h.1 (by decide)), (h.2 p hp).2⟩
  · obtain rfl := List.mem_singleton.1 hp
    exact ⟨World.ownsRow.kept hu hg (own_ne hu h.1 (by decide)), hf⟩
theorem lads_app (a : List (Value × Rg)) (p : Value × Rg) : lads (a ++ [p]) = lads a ++ [p.2] := by simp [lads]
set_option maxHeartbeats 2000000 in
theorem l1OwnRungList_any (v : Value) (ps : List (Value × Rg)) (w : World) (h : LadR w w.heap.size v ps) (hs : ps.length ≤ 2000000 ∧ ∀ p ∈ ps, p.2.logic.length ≤ 2000000) :
    Calls Try.prog 111 #[v] w fun e w' => ∃ u qs, e = .returned u ∧ OwnL w' w.heap.size u qs ∧ lads qs = lads ps ∧ Below w.heap.size w w' := by
  obtain ⟨A, c, rfl, hr, hl, h3⟩ := h
  have H3 := Lib.hid h3
  have HS := Lib.hid hs.2
  have hs1 := hs.1
  clear h3 hs
  go_enter Try.func111, Try.ntmps111
  go_wp2_with fail
  go_loopw [3, 4] (fun o i wr => ∃ (k : Nat) (qs : List (Value × Rg)), k ≤ ps.length ∧ i = .int .i64 k ∧ OwnL wr w.heap.size o qs ∧ lads qs = (lads ps).take k ∧ Below w.heap.size w wr) (fun _ i _ => ps.length - (intOf i).toNat)
  case atStart => exact ⟨0, [], by omega, rfl, OwnL.nil (own_lit0 rfl (by omega)), by simp [lads], (Below.refl _ _).alloc (Nat.le_refl _) _⟩
  case round =>
    obtain ⟨k, qs, hk, rfl, hown, hq, hbr⟩ := hrel
    have hsz := hbr.size
    have hqk : qs.length = k := by have := congrArg List.length hq; rw [lads_len, List.length_take, lads_len] at this; omega
    by_cases hlt : k < ps.length
    · obtain ⟨p, rfl, hpb, c0, c1, c2⟩ := hr.three hlt
      obtain ⟨hn, hf⟩ := H3.out ps[k] (List.getElem_mem hlt)
      have hll := HS.out ps[k] (List.getElem_mem hlt)
      have hT := Lib.hid (show (lads ps).take (k + 1) = (lads ps).take k ++ [ps[k].2] by rw [List.take_succ_eq_append_getElem (by rw [lads_len]; exact hlt), lads_get ps k hlt])
      have hff := hn.fitL
      generalize ps[k] = x at c0 c1 c2 hn hf hll hT hff
      obtain ⟨u, r⟩ := x
      simp only at c0 c1 c2 hn hf hll hT hff
      have hR : RungR wr wr.heap.size (rgV u r) r := ⟨u, rfl, hn.keep (fun _ hp => hbr.cell hp) hsz, hf⟩
      obtain ⟨Au, cu, rfl, -⟩ := id hn
      have g0 := (hbr.cell (p := p.add (k * 3)) (by rw [add_block]; exact hpb)).trans c0
      have g1 := (hbr.cell (p := ⟨(p.add (k * 3)).block, (p.add (k * 3)).off + 1, none⟩) (by show (p.add (k * 3)).block < _; rw [add_block]; exact hpb)).trans c1
      have g2 := (hbr.cell (p := ⟨(p.add (k * 3)).block, (p.add (k * 3)).off + 2, none⟩) (by show (p.add (k * 3)).block < _; rw [add_block]; exact hpb)).trans c2
      have hV := Lib.hid (l1OwnRung_any (rgV (.slice Au r.logic.length cu) r) r wr hR hll)
      have hFF := Lib.hid (show rgFit r ∧ (∀ x ∈ r.logic, ndFit x) ∧ r.logic.length ≤ 2000000 from ⟨hf, hff, hll⟩)
      obtain ⟨lg, co, ki⟩ := r
      unfold rgV at hV
      simp only at g0 g1 g2 hV
      have i1 : (k : Int) < (ps.length : Int) := by omega
      obtain ⟨SA, sc, rfl, -, -⟩ := own_form hown.1
      have HQ := Lib.hid hq
      have HQK := Lib.hid hqk
      have HOW := Lib.hid hown
      clear c0 c1 c2 hn hf hR hr hown hq hff hqk hll
      go_wp2_with fail
      refine hV.out.mono ?_
      rintro e w2 ⟨u2, rfl, hO2, hb2⟩
      have hbr2 := hbr.trans (hb2.mono hsz)
      have hsz2 := hbr2.size
      have hL2 := HOW.out.below hb2
      have hN2 : OwnN w2 w.heap.size u2 lg := mono_own hO2 hsz
      obtain ⟨A2, c2, rfl, -, -⟩ := own_form hN2
      have hL3 : OwnL (w2.alloc (.cells #[.slice A2 lg.length c2, .int .i64 co, .int .i64 ki] 58)) w.heap.size (.slice SA qs.length sc) qs := hL2.below ((Below.refl _ _).alloc (Nat.le_refl _) _)
      have hN3 : OwnN (w2.alloc (.cells #[.slice A2 lg.length c2, .int .i64 co, .int .i64 ki] 58)) w.heap.size (.slice A2 lg.length c2) lg := own_below hN2 ((Below.refl _ _).alloc (Nat.le_refl _) _)
      have hql : qs.length ≤ 2000000 := by have := HQK.out; omega
      have HL3 := Lib.hid hL3
      clear hO2 hL2 hN2
      go_wp2_with (at_builtin; refine wpl_append rfl _ _ 64 rfl elL (base := w.heap.size) rfl HL3.out.1 rfl (Rd.newR _ _ ⟨lg, co, ki⟩ _) (one_r _ _ _ _) ?_ ?_ ?_ ?_)
      · omega
      · omega
      · simp; omega
      intro v4 w4 hown4 hg4 _
      have hP := HL3.out.push hN3 hFF.out hown4 hg4
      have hb4 : Below w.heap.size w w4 := (hbr2.alloc hsz2 _).grown hg4 (by simp; omega) (fun j hj => (HL3.out.1.lt j hj).1)
      obtain ⟨A4, c4, rfl, -, -⟩ := own_form hP.1
      have HP := Lib.hid hP
      clear hown4 hg4 hP
      go_wp2
      exact ⟨⟨k + 1, _, by omega, by go_num, HP.out, by rw [lads_app, HQ.out, hT.out], hb4⟩, by simp [intOf]; omega⟩
    · go_wp2
      go_ret
      obtain rfl : k = ps.length := by omega
      exact ⟨_, qs, rfl, hown, by rw [hq, ← lads_len, List.take_length], hbr⟩
end Go.Proofs.Ytoagnajljdbobaa

namespace Go.Proofs.Ytoagnajljdbobaa
open Go.RowKit
attribute [local go_sem ↓] Go.wp_at_zero Go.wp_at_succ

theorem apart_eq (a b : Rg) : apart a b = (!(usedL a.logic).any (fun x => decide (x = b.coil)) && (!(usedL b.logic).any (fun x => decide (x = a.coil)) && decide (a.coil ≠ b.coil))) := by
  have e : ∀ (l : List Int) (c : Int), l.contains c = l.any fun x => decide (x = c) := fun l c => by
    rw [Bool.eq_iff_iff]; simp [List.any_eq_true]
  unfold apart; rw [e, e]
theorem any_take_false {l : List Int} {c : Int} {k : Nat} (h : k < l.length) (ht : (l.take k).any (fun x => decide (x = c)) = false) (hne : l[k] ≠ c) : (l.take (k + 1)).any (fun x => decide (x = c)) = false := by
  rw [List.take_succ_eq_append_getElem h, List.any_append, ht]; simp [hne]
theorem OwnI.rdR {w : World} {b n c : Nat} {A : Option Addr} {T : List Int} (h : OwnI w b (.slice A n c) T) (hn : n = T.length) : Rd w w.heap.size 1 A n (T.map (.int .i64)) := by
  obtain ⟨A', c', e, -, hr⟩ := own_form h
  injection e with e1 e2 e3
  subst hn
  rw [e1]
  exact hr
theorem used_fitR (l : List Nd) : ∀ x ∈ usedL l, 0 ≤ x ∧ x < 16 := by
  intro x hx
  have := (numsTo_mem (usedS l) 16 x).1 hx
  omega
set_option maxHeartbeats 1000000 in
theorem l3Apart_any (va vb : Value) (a b : Rg) (w : World) (ha : RungR w w.heap.size va a) (hb : RungR w w.heap.size vb b) :
    Calls Try.prog 116 #[va, vb] w fun e w' => e = .returned (.bool (apart a b)) ∧ Below w.heap.size w w' := by
  have HA := Lib.hid (fun (w' : World) (hb : Below w.heap.size w w') => ha.below hb)
  have HB := Lib.hid (fun (w' : World) (h : Below w.heap.size w w') => hb.below h)
  obtain ⟨ua, rfl, hna, hfa⟩ := ha
  obtain ⟨ub, rfl, hnb, hfb⟩ := hb
  have HNA := Lib.hid (fun (w' : World) (h : Below w.heap.size w w') => hna.below h)
  have HNB := Lib.hid (fun (w' : World) (h : Below w.heap.size w w') => hnb.below h)
  obtain ⟨Aa, ca, rfl, -⟩ := hna
  obtain ⟨Ab, cb, rfl, -⟩ := hnb
  have HE := Lib.hid (apart_eq a b)
  obtain ⟨la, coa, kia⟩ := a
  obtain ⟨lb, cob, kib⟩ := b
  unfold rgV
  simp only at HNA HNB HE ⊢
  have hua := used_len la
  have hub := used_len lb
  clear HA HB
  go_enter Try.func116, Try.ntmps116
  have a0 := blk_alloc (heap_alloc_new w (.cells #[.slice Aa la.length ca, .int .i64 coa, .int .i64 kia] 58)) (.cells #[.slice Ab lb.length cb, .int .i64 cob, .int .i64 kib] 58)
  have b0 := heap_alloc_new (w.alloc (.cells #[.slice Aa la.length ca, .int .i64 coa, .int .i64 kia] 58)) (.cells #[.slice Ab lb.length cb, .int .i64 cob, .int .i64 kib] 58)
  simp only [World.size_alloc] at b0
  have hw0 : Below w.heap.size w ((w.alloc (.cells #[.slice Aa la.length ca, .int .i64 coa, .int .i64 kia] 58)).alloc (.cells #[.slice Ab lb.length cb, .int .i64 cob, .int .i64 kib] 58)) := ((Below.refl _ _).alloc (Nat.le_refl _) _).alloc (by simp) _
  go_wp2_with fail
  refine (sUsedBits_any _ la _ (HNA.out _ hw0)).mono ?_
  rintro e w1 ⟨v1, rfl, hO1, hb1⟩
  have a1 := (hb1.block _ (blk_lt a0)).trans a0
  have b1 := (hb1.block _ (blk_lt b0)).trans b0
  have hw1 := hw0.trans (hb1.mono hw0.size)
  obtain ⟨A1, c1, rfl, -, -⟩ := own_form hO1
  obtain ⟨-, p1, -⟩ : True ∧ True ∧ True := ⟨trivial, trivial, trivial⟩
  have q1 := blk_cell a1 1
  have q2 := blk_cell b1 0
  have q3 := blk_cell b1 1
  simp at q1 q2 q3
  clear a0 b0 hw0
  go_wp2_with fail
  refine (sUsedBits_any _ lb _ (HNB.out _ hw1)).mono ?_
  rintro e w2 ⟨v2, rfl, hO2, hb2⟩
  have a2 := (hb2.block _ (blk_lt a1)).trans a1
  have b2 := (hb2.block _ (blk_lt b1)).trans b1
  have hw2 := hw1.trans (hb2.mono hw1.size)
  have hO1' : OwnI w2 _ (.slice A1 (usedL la).length c1) (usedL la) := own_below hO1 hb2
  obtain ⟨A2, c2, rfl, -, -⟩ := own_form hO2
  have g1 := OwnI.rdR hO1' rfl
  have g2 := OwnI.rdR hO2 rfl
  have r1 := blk_cell a2 1
  have r3 := blk_cell b2 1
  simp at r1 r3
  have hr1 := used_fitR la
  clear a1 b1 hO1 hO1' hO2 hb1 hb2 q1 q2 q3 hw1 p1
  generalize usedL la = X at *
  generalize usedL lb = Y at *
  go_wp2_with fail
  go_loopw [7] (fun i wr => ∃ k : Nat, k ≤ X.length ∧ i = .int .i64 k ∧ (X.take k).any (fun x => decide (x = cob)) = false ∧ Below w2.heap.size w2 wr) (fun i _ => X.length - (intOf i).toNat)
  case atStart => exact ⟨0, by omega, rfl, by simp, Below.refl _ _⟩
  case round =>
    obtain ⟨k, hk, rfl, hany, hbr⟩ := hrel
    have s3 := (hbr.cell (p := ⟨w.heap.size + 1, 1, none⟩) (blk_lt b2)).trans r3
    by_cases hlt : k < X.length
    · obtain ⟨p, u, rfl, hpb, hu, hc⟩ := g1.one hlt
      have hx : u = .int .i64 X[k] := by rw [List.getElem?_map, List.getElem?_eq_getElem hlt] at hu; simpa using hu.symm
      subst hx
      have s1 := (hbr.cell (p := p.add k) (by rw [add_block]; exact hpb)).trans hc
      have HT := Lib.hid (fun hne => any_take_false (c := cob) hlt hany hne)
      have HM := Lib.hid (List.getElem_mem hlt)
      have i1 : (k : Int) < (X.length : Int) := by omega
      generalize X[k] = x at s1 HT HM
      clear hu hc hany
      by_cases hx : x = cob
      · have hxx : (x == cob) = true := by simpa using hx
        have HF := Lib.hid (show X.any (fun y => decide (y = cob)) = true from List.any_eq_true.2 ⟨x, HM.out, by simpa using hx⟩)
        clear hx
        go_wp2
        go_quiet (fail)
        go_wp2
        go_ret
        exact ⟨ret_bool (by rw [HE.out]; rw [HF.out]; rfl), hw2.trans ((hbr.mono hw2.size).trans ⟨rfl, rfl, rfl, Nat.le_refl _, fun _ _ => rfl⟩)⟩
      · have hxx : (x == cob) = false := by simpa using hx
        have HT2 := Lib.hid (HT.out hx)
        clear hx
        go_wp2
        go_quiet (fail)
        go_wp2
        exact ⟨⟨k + 1, by omega, by go_num, HT2.out, by exact hbr.trans ⟨rfl, rfl, rfl, Nat.le_refl _, fun _ _ => rfl⟩⟩, by simp [intOf]; omega⟩
    · obtain rfl : k = X.length := by omega
      rw [List.take_length] at hany
      have HXF := Lib.hid hany
      obtain ⟨w3, rfl⟩ : ∃ w3, w3 = wr := ⟨_, rfl⟩
      have a3 := (hbr.block _ (blk_lt a2)).trans a2
      have b3 := (hbr.block _ (blk_lt b2)).trans b2
      have hw3 := hw2.trans (hbr.mono hw2.size)
      have g2' := g2.keep (B' := w3.heap.size) (fun _ hp => hbr.cell hp) hbr.size
      have r1' := blk_cell a3 1
      have r3' := blk_cell b3 1
      simp at r1' r3'
      clear hany g1 g2 a2 b2 hw2 r1 r3 s3 hbr
      go_wp2_with fail
      go_loopw [8] (fun i wr => ∃ k : Nat, k ≤ Y.length ∧ i = .int .i64 k ∧ (Y.take k).any (fun x => decide (x = coa)) = false ∧ Below w3.heap.size w3 wr) (fun i _ => Y.length - (intOf i).toNat)
      case atStart => exact ⟨0, by omega, rfl, by simp, Below.refl _ _⟩
      case round =>
        obtain ⟨k, hk, rfl, hany, hbr⟩ := hrel
        have s3 := (hbr.cell (p := ⟨w.heap.size, 1, none⟩) (blk_lt a3)).trans r1'
        by_cases hlt : k < Y.length
        · obtain ⟨p, u, rfl, hpb, hu, hc⟩ := g2'.one hlt
          have hx : u = .int .i64 Y[k] := by rw [List.getElem?_map, List.getElem?_eq_getElem hlt] at hu; simpa using hu.symm
          subst hx
          have s1 := (hbr.cell (p := p.add k) (by rw [add_block]; exact hpb)).trans hc
          have HT := Lib.hid (fun hne => any_take_false (c := coa) hlt hany hne)
          have HM := Lib.hid (List.getElem_mem hlt)
          have i1 : (k : Int) < (Y.length : Int) := by omega
          generalize Y[k] = x at s1 HT HM
          clear hu hc hany
          by_cases hx : x = coa
          · have hxx : (x == coa) = true := by simpa using hx
            have HF := Lib.hid (show Y.any (fun y => decide (y = coa)) = true from List.any_eq_true.2 ⟨x, HM.out, by simpa using hx⟩)
            clear hx
            go_wp2
            go_quiet (fail)
            go_wp2
            go_ret
            exact ⟨ret_bool (by rw [HE.out]; rw [HXF.out, HF.out]; rfl), hw3.trans ((hbr.mono hw3.size).trans ⟨rfl, rfl, rfl, Nat.le_refl _, fun _ _ => rfl⟩)⟩
          · have hxx : (x == coa) = false := by simpa using hx
            have HT2 := Lib.hid (HT.out hx)
            clear hx
            go_wp2
            go_quiet (fail)
            go_wp2
            exact ⟨⟨k + 1, by omega, by go_num, HT2.out, by exact hbr.trans ⟨rfl, rfl, rfl, Nat.le_refl _, fun _ _ => rfl⟩⟩, by simp [intOf]; omega⟩
        · obtain rfl : k = Y.length := by omega
          rw [List.take_length] at hany
          have s4 := (hbr.cell (p := ⟨w.heap.size + 1, 1, none⟩) (blk_lt b3)).trans r3'
          have HE2 := Lib.hid (show apart ⟨la, coa, kia⟩ ⟨lb, cob, kib⟩ = decide (coa ≠ cob) by rw [HE.out, HXF.out, hany]; rfl)
          clear hany
          by_cases hx : coa = cob
          · have hxx : (coa != cob) = false := by simpa using hx
            have HX := Lib.hid hx
            clear hx
            go_wp2
            go_ret
            exact ⟨ret_bool (by rw [HE2.out, HX.out]; simp), hw3.trans (hbr.mono hw3.size)⟩
          · have hxx : (coa != cob) = true := by simpa using hx
            have HX := Lib.hid hx
            clear hx
            go_wp2
            go_ret
            exact ⟨ret_bool (by rw [HE2.out]; simp [HX.out]), hw3.trans (hbr.mono hw3.size)⟩
theorem indep_eq (a b : Rg) : indep a b = (rvalid a 16 && (rvalid b 16 && apart a b)) := rfl
set_option maxHeartbeats 1000000 in
theorem sRungsIndependent_any (va vb : Value) (a b : Rg) (w : World) (ha : RungR w w.heap.size va a) (hb : RungR w w.heap.size vb b) :
    Calls Try.prog 61 #[va, vb] w fun e w' => e = .returned (.bool (indep a b)) ∧ Below w.heap.size w w' := by
  have HA := Lib.hid (fun (w' : World) (hb : Below w.heap.size w w') => ha.below hb)
  have HB := Lib.hid (fun (w' : World) (h : Below w.heap.size w w') => hb.below h)
  have HE := Lib.hid (indep_eq a b)
  obtain ⟨ua, rfl, hna, -⟩ := ha
  obtain ⟨ub, rfl, hnb, -⟩ := hb
  obtain ⟨Aa, ca, rfl, -⟩ := hna
  obtain ⟨Ab, cb, rfl, -⟩ := hnb
  obtain ⟨la, coa, kia⟩ := a
  obtain ⟨lb, cob, kib⟩ := b
  unfold rgV at *
  simp only at HA HB ⊢
  go_enter Try.func61, Try.ntmps61
  have a0 := blk_alloc (heap_alloc_new w (.cells #[.slice Aa la.length ca, .int .i64 coa, .int .i64 kia] 58)) (.cells #[.slice Ab lb.length cb, .int .i64 cob, .int .i64 kib] 58)
  have b0 := heap_alloc_new (w.alloc (.cells #[.slice Aa la.length ca, .int .i64 coa, .int .i64 kia] 58)) (.cells #[.slice Ab lb.length cb, .int .i64 cob, .int .i64 kib] 58)
  simp only [World.size_alloc] at b0
  have hw0 : Below w.heap.size w ((w.alloc (.cells #[.slice Aa la.length ca, .int .i64 coa, .int .i64 kia] 58)).alloc (.cells #[.slice Ab lb.length cb, .int .i64 cob, .int .i64 kib] 58)) := ((Below.refl _ _).alloc (Nat.le_refl _) _).alloc (by simp) _
  go_wp2_with fail
  refine (sRungValid_any _ ⟨la, coa, kia⟩ 16 _ (HA.out _ hw0)).mono ?_
  rintro e w1 ⟨rfl, hb1⟩
  have a1 := (hb1.block _ (blk_lt a0)).trans a0
  have b1 := (hb1.block _ (blk_lt b0)).trans b0
  replace hb1 := hw0.trans (hb1.mono hw0.size)
  have q0 := blk_cell a1 0
  have q1 := blk_cell a1 1
  have q2 := blk_cell a1 2
  have q3 := blk_cell b1 0
  have q4 := blk_cell b1 1
  have q5 := blk_cell b1 2
  simp at q0 q1 q2 q3 q4 q5
  clear a0 b0 hw0
  cases hv1 : rvalid ⟨la, coa, kia⟩ 16
  · have HE2 := Lib.hid (show indep ⟨la, coa, kia⟩ ⟨lb, cob, kib⟩ = false by rw [HE.out, hv1]; rfl)
    clear hv1
    go_wp2
    go_ret
    exact ⟨ret_bool HE2.out.symm, hb1⟩
  · have HV1 := Lib.hid hv1
    clear hv1
    go_wp2_with fail
    refine (sRungValid_any _ ⟨lb, cob, kib⟩ 16 _ (HB.out _ hb1)).mono ?_
    rintro e w2 ⟨rfl, hb2⟩
    have hb2' := hb1.trans (hb2.mono hb1.size)
    have a2 := (hb2.block _ (blk_lt a1)).trans a1
    have b2 := (hb2.block _ (blk_lt b1)).trans b1
    have r0 := blk_cell a2 0
    have r1 := blk_cell a2 1
    have r2 := blk_cell a2 2
    have r3 := blk_cell b2 0
    have r4 := blk_cell b2 1
    have r5 := blk_cell b2 2
    simp at r0 r1 r2 r3 r4 r5
    clear q0 q1 q2 q3 q4 q5
    cases hv2 : rvalid ⟨lb, cob, kib⟩ 16
    · have HE2 := Lib.hid (show indep ⟨la, coa, kia⟩ ⟨lb, cob, kib⟩ = false by rw [HE.out, HV1.out, hv2]; rfl)
      clear hv2
      go_wp2
      go_ret
      exact ⟨ret_bool HE2.out.symm, hb2'⟩
    · have HE2 := Lib.hid (show indep ⟨la, coa, kia⟩ ⟨lb, cob, kib⟩ = apart ⟨la, coa, kia⟩ ⟨lb, cob, kib⟩ by rw [HE.out, HV1.out, hv2]; rfl)
      clear hv2
      go_wp2_with fail
      refine (l3Apart_any _ _ ⟨la, coa, kia⟩ ⟨lb, cob, kib⟩ _ (HA.out _ hb2') (HB.out _ hb2')).mono ?_
      rintro e w3 ⟨rfl, hb3⟩
      go_wp2
      go_ret
      exact ⟨ret_bool HE2.out.symm, hb2'.trans (hb3.mono hb2'.size)⟩
end Go.Proofs.Ytoagnajljdbobaa

namespace Go.Proofs.Ytoagnajljdbobaa
open Go.RowKit
attribute [local go_sem ↓] Go.wp_at_zero Go.wp_at_succ

def RgRunP (m : Img) (w : World) (e : Ending) (w' : World) : Prop := ∃ u, e = .returned u ∧ OwnM w' w.heap.size u m ∧ Below w.heap.size w w'
theorem OwnM.readF {w : World} {b : Nat} {v : Value} {m : Img} (h : OwnM w b v m) (hs : m.bits.length ≤ 2000000 ∧ m.words.length ≤ 2000000) (hx : ∀ x ∈ m.words, -9223372036854775808 ≤ x ∧ x ≤ 9223372036854775807) : ImgR w w.heap.size v m := by
  obtain ⟨v1, v2, rfl, h1, h2⟩ := h
  exact ⟨v1, v2, rfl, OwnB.read h1 (by omega), OwnI.read h2 (by omega) hx⟩
theorem blk_set2 {w : World} {k t : Nat} {x y : Value} (h : w.heap[k]? = some (.cells #[x, y] t (0, 0))) (u u' : Value) : ((w.setCell ⟨k, 0, none⟩ u).setCell ⟨k, 1, none⟩ u').heap[k]? = some (.cells #[u, u'] t (0, 0)) := by
  have h1 := Go.heap_setCell_same w k 0 _ t u h
  have h2 := Go.heap_setCell_same _ k 1 _ t u' h1
  simpa using h2
theorem blk_set3 {w : World} {k t : Nat} {x y z : Value} (h : w.heap[k]? = some (.cells #[x, y, z] t (0, 0))) (u u' u'' : Value) : (((w.setCell ⟨k, 0, none⟩ u).setCell ⟨k, 1, none⟩ u').setCell ⟨k, 2, none⟩ u'').heap[k]? = some (.cells #[u, u', u''] t (0, 0)) := by
  have h1 := Go.heap_setCell_same w k 0 _ t u h
  have h2 := Go.heap_setCell_same _ k 1 _ t u' h1
  have h3 := Go.heap_setCell_same _ k 2 _ t u'' h2
  simpa using h3
theorem blk_other {w : World} {k : Nat} {o : Obj} {a : Addr} (h : w.heap[k]? = some o) (hne : k ≠ a.block) (u : Value) : (w.setCell a u).heap[k]? = some o := (Below.heap_setCell _ _ _ _ hne).trans h
theorem OwnM.set_ {w : World} {b : Nat} {v : Value} {m : Img} (h : OwnM w b v m) {p : Addr} (hp : p.block < b) (u : Value) : OwnM (w.setCell p u) b v m := by
  obtain ⟨v1, v2, rfl, h1, h2⟩ := h
  exact ⟨v1, v2, rfl, ownsRow_setCell_below h1 hp u, ownsRow_setCell_below h2 hp u⟩
theorem OwnM.keep_ {w w' : World} {b : Nat} {v : Value} {m : Img} (h : OwnM w b v m) (hb : Below w.heap.size w w') : OwnM w' b v m := by
  obtain ⟨v1, v2, rfl, h1, h2⟩ := h
  exact ⟨v1, v2, rfl, own_below h1 hb, own_below h2 hb⟩
/-- The cells of a block of two or three. -/
theorem blk2 {w : World} {k t : Nat} {x y : Value} (h : w.heap[k]? = some (.cells #[x, y] t (0, 0))) :
    w.cell? ⟨k, 0, none⟩ = some x ∧ w.cell? ⟨k, 1, none⟩ = some y ∧ w.frozen? ⟨k, 0, none⟩ = false ∧ w.frozen? ⟨k, 1, none⟩ = false :=
  ⟨blk_cell h 0, blk_cell h 1, blk_frozen h 0, blk_frozen h 1⟩
theorem blk3 {w : World} {k t : Nat} {x y z : Value} (h : w.heap[k]? = some (.cells #[x, y, z] t (0, 0))) :
    (w.cell? ⟨k, 0, none⟩ = some x ∧ w.cell? ⟨k, 1, none⟩ = some y ∧ w.cell? ⟨k, 2, none⟩ = some z) ∧ w.frozen? ⟨k, 0, none⟩ = false ∧ w.frozen? ⟨k, 1, none⟩ = false ∧ w.frozen? ⟨k, 2, none⟩ = false :=
  ⟨⟨blk_cell h 0, blk_cell h 1, blk_cell h 2⟩, blk_frozen h 0, blk_frozen h 1, blk_frozen h 2⟩
end Go.Proofs.Ytoagnajljdbobaa
