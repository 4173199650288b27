/- Rungs and ladders in memory; what a ladder does to bits. Rungs: the contracts of the specification's functions that only read. Rungs: the specification's functions that run them on bits. Ladders: the specification's lists of coils. Rungs: the specification's copies, and RunRung, RunLadder. Rungs: the specification's RungsIndependent. Rungs: what a ladder leaves: an image of the call's own; blocks of two and three cells. -/
import Derived.Test.YthebkamggkfnlaaOs
import Derived.Test.YthebkamggkfnlaaWP
import Derived.Test.YthebkamggkfnlaaSl
import Derived.Test.YthebkamggkfnlaaSe
import Derived.Test.YthebkamggkfnlaaIu
import Derived.Test.YthebkamggkfnlaaED
import Derived.Test.YthebkamggkfnlaaE
import Derived.Test.YthebkamggkfnlaaSq
namespace Go.Proofs.Ythebkamggkfnlaa
open Go.RowKit

theorem NodesR.fitL {w : World} {B : Nat} {v : Value} {l : List Nd} (h : NodesR w B v l) : ∀ x ∈ l, ndFit x := by
  obtain ⟨_, _, _, _, _, hf⟩ := h; exact hf
theorem OwnS.set_o {w : World} {base : Nat} {v : Value} {l : List Nd} (h : OwnS w base v l) {p : Addr} (hp : p.block < base) (u : Value) : OwnS (w.setCell p u) base v l :=
  h.kept fun k hk => Below.heap_setCell _ _ _ _ (by have := (h.lt k hk).1; omega)
/-- A store into a block of another element type. -/
theorem OwnS.set_s {w : World} {base : Nat} {v : Value} {l : List Nd} (h : OwnS w base v l) {p : Addr} (t : TypeId) {cs : Array Value} (hk : w.heap[p.block]? = some (.cells cs t (0, 0))) (ht : (43 == t) = false) (u : Value) : OwnS (w.setCell p u) base v l :=
  h.kept fun k hk' => Below.heap_setCell _ _ _ _ (by
    obtain ⟨g, off, cap, cur, rfl, h1, h2, h3⟩ := h
    simp only [Value.ownBlock, Option.some.injEq] at hk'
    subst hk'
    rintro rfl
    rw [h2] at hk
    injection hk with hk
    injection hk with _ e _
    rw [e] at ht
    simp at ht)
theorem blk_set1 {w : World} {k t : Nat} {cs : Array Value} (h : w.heap[k]? = some (.cells cs t (0, 0))) (i : Nat) (u : Value) : (w.setCell ⟨k, i, none⟩ u).heap[k]? = some (.cells (cs.setIfInBounds i u) t (0, 0)) := Go.heap_setCell_same w k i cs t u h
structure Rg where
  logic : List Nd
  coil : Int
  kind : Int
def fit64 (x : Int) : Prop := -9223372036854775808 ≤ x ∧ x ≤ 9223372036854775807
def rgFit (r : Rg) : Prop := fit64 r.coil ∧ fit64 r.kind
/-- A rung's value: its expression's slice v. -/
def rgV (v : Value) (r : Rg) : Value := .agg #[v, .int .i64 r.coil, .int .i64 r.kind]
/-- A rung as an argument reads as r. -/
def RungR (w : World) (B : Nat) (v : Value) (r : Rg) : Prop := ∃ u, v = rgV u r ∧ NodesR w B u r.logic ∧ rgFit r
theorem RungR.keep {w w' : World} {B B' : Nat} {v : Value} {r : Rg} (h : RungR w B v r) (hk : ∀ p : Addr, p.block < B → w'.cell? p = w.cell? p) (hB : B ≤ B') : RungR w' B' v r := by
  obtain ⟨u, rfl, h1, h2⟩ := h; exact ⟨u, rfl, h1.keep hk hB, h2⟩
theorem RungR.below {w w' : World} {v : Value} {r : Rg} (h : RungR w w.heap.size v r) (hb : Below w.heap.size w w') : RungR w' w'.heap.size v r := h.keep (fun _ hp => hb.cell hp) hb.size
/-- The cells of a ladder: p.1 is the slice of the rung's expression. -/
def cellsR (l : List (Value × Rg)) : List Value := l.flatMap fun p => [p.1, .int .i64 p.2.coil, .int .i64 p.2.kind]
theorem cellsR_cons (x : Value × Rg) (l : List (Value × Rg)) : cellsR (x :: l) = x.1 :: .int .i64 x.2.coil :: .int .i64 x.2.kind :: cellsR l := rfl
theorem cellsR_append (a b : List (Value × Rg)) : cellsR (a ++ b) = cellsR a ++ cellsR b := by simp [cellsR]
theorem cellsR_length (l : List (Value × Rg)) : (cellsR l).length = l.length * 3 := by
  induction l with
  | nil => rfl
  | cons x l ih => rw [cellsR_cons]; simp [ih]; omega
theorem cellsR_at (l : List (Value × Rg)) (k : Nat) (h : k < l.length) :
    (cellsR l)[k * 3]? = some l[k].1 ∧ (cellsR l)[k * 3 + 1]? = some (.int .i64 l[k].2.coil) ∧ (cellsR l)[k * 3 + 2]? = some (.int .i64 l[k].2.kind) := by
  induction l generalizing k with
  | nil => simp at h
  | cons x l ih =>
    cases k with
    | zero => exact ⟨rfl, rfl, rfl⟩
    | succ k =>
      rw [cellsR_cons, show (k + 1) * 3 = k * 3 + 1 + 1 + 1 by omega]
      simp only [List.getElem?_cons_succ, List.getElem_cons_succ]
      exact ih k (by simpa using h)
theorem cellsR_take (l : List (Value × Rg)) (k : Nat) : (cellsR l).take (k * 3) = cellsR (l.take k) := by
  induction k generalizing l with
  | zero => simp [cellsR]
  | succ k ih =>
    cases l with
    | nil => simp [cellsR]
    | cons x l => rw [cellsR_cons, List.take_succ_cons, cellsR_cons, show (k + 1) * 3 = k * 3 + 1 + 1 + 1 by omega, List.take_succ_cons, List.take_succ_cons, List.take_succ_cons, ih]
theorem cellsR_drop (l : List (Value × Rg)) (k : Nat) : (cellsR l).drop (k * 3) = cellsR (l.drop k) := by
  induction l generalizing k with
  | nil => simp [cellsR]
  | cons x l ih =>
    cases k with
    | zero => simp
    | succ k => rw [cellsR_cons, show (k + 1) * 3 = k * 3 + 1 + 1 + 1 by omega]; simpa using ih k
/-- A ladder as an argument. -/
def LadR (w : World) (B : Nat) (v : Value) (l : List (Value × Rg)) : Prop :=
  ∃ A c, v = .slice A l.length c ∧ Rd w B 3 A l.length (cellsR l) ∧ (l.length ≤ c ∧ l.length ≤ 4398046511104) ∧ ∀ p ∈ l, NodesR w B p.1 p.2.logic ∧ rgFit p.2
theorem LadR.keep {w w' : World} {B B' : Nat} {v : Value} {l : List (Value × Rg)} (h : LadR w B v l) (hk : ∀ p : Addr, p.block < B → w'.cell? p = w.cell? p) (hB : B ≤ B') : LadR w' B' v l := by
  obtain ⟨A, c, rfl, h1, h2, h3⟩ := h; exact ⟨A, c, rfl, h1.keep hk hB, h2, fun p hp => ⟨(h3 p hp).1.keep hk hB, (h3 p hp).2⟩⟩
theorem LadR.below {w w' : World} {v : Value} {l : List (Value × Rg)} (h : LadR w w.heap.size v l) (hb : Below w.heap.size w w') : LadR w' w'.heap.size v l := h.keep (fun _ hp => hb.cell hp) hb.size
theorem LadR.nil (w : World) (B : Nat) : LadR w B (.slice none 0 0) [] := ⟨none, 0, rfl, Rd.none_, by simp, by simp⟩
theorem at_next2 (q : Addr) : (⟨q.block, q.off + 2, none⟩ : Addr) = q.add 2 := by simp [Addr.add]
theorem Rd.three {w : World} {B : Nat} {A : Option Addr} {l : List (Value × Rg)} (h : Rd w B 3 A l.length (cellsR l)) {k : Nat} (hk : k < l.length) :
    ∃ p, A = some p ∧ p.block < B ∧ w.cell? (p.add (k * 3)) = some l[k].1 ∧ w.cell? ⟨(p.add (k * 3)).block, (p.add (k * 3)).off + 1, none⟩ = some (.int .i64 l[k].2.coil) ∧ w.cell? ⟨(p.add (k * 3)).block, (p.add (k * 3)).off + 2, none⟩ = some (.int .i64 l[k].2.kind) := by
  obtain ⟨p, e, hb, hc⟩ := h.at_ (by omega)
  obtain ⟨c0, c1, c2⟩ := cellsR_at l k hk
  exact ⟨p, e, hb, hc _ _ c0, by rw [at_next, add_add]; exact hc _ _ c1, by rw [at_next2, add_add]; exact hc _ _ c2⟩
/-- A part of a ladder at its front. -/
theorem LadR.front {w : World} {B : Nat} {A : Option Addr} {c : Nat} {l : List (Value × Rg)} (h : LadR w B (.slice A l.length c) l) (k : Nat) (hk : k ≤ l.length) : LadR w B (.slice A k c) (l.take k) := by
  obtain ⟨A', c', e, h1, h2, h3⟩ := h
  injection e with e1 _ e2
  subst e1; subst e2
  have hl : (l.take k).length = k := by rw [List.length_take]; omega
  refine ⟨A, c, by rw [hl], ?_, by rw [hl]; omega, fun p hp => h3 p (List.mem_of_mem_take hp)⟩
  rw [hl, ← cellsR_take]
  exact h1.take hk
/-- The rest of a ladder. -/
theorem LadR.rest {w : World} {B : Nat} {p : Addr} {c : Nat} {l : List (Value × Rg)} (h : LadR w B (.slice (some p) l.length c) l) (k : Nat) (hk : k ≤ l.length) (q : Addr) (hq : k < l.length → q = p.add (k * 3)) : LadR w B (.slice (some q) (l.length - k) (c - k)) (l.drop k) := by
  obtain ⟨A', c', e, h1, h2, h3⟩ := h
  injection e with e1 _ e2
  subst e1; subst e2
  have hl : (l.drop k).length = l.length - k := List.length_drop
  refine ⟨some q, c - k, by rw [hl], ⟨?_, fun hn => ?_⟩, by rw [hl]; omega, fun p hp => h3 p (List.mem_of_mem_drop hp)⟩
  · rw [hl, cellsR_length, hl]
  · rw [hl] at hn
    obtain ⟨p', e, hb, hc⟩ := h1.at_ (by omega)
    injection e with e; subst e
    refine ⟨q, rfl, by rw [hq (by omega), add_block]; exact hb, fun j u hu => ?_⟩
    rw [hq (by omega), add_add]
    refine hc _ _ ?_
    rw [← cellsR_drop, List.getElem?_drop] at hu
    exact hu

/-! ### What rungs do -/
def rvalid (r : Rg) (bits : Int) : Bool := lvalid r.logic bits && (decide (0 ≤ r.coil) && (decide (r.coil < bits) && (decide (1 ≤ r.kind) && decide (r.kind ≤ 3))))
def ladvalid (l : List Rg) (bits : Int) : Bool := (l.all fun r => rvalid r bits) && decide (l.length ≤ 12)
theorem rvalid_parts {r : Rg} {bits : Int} (h : rvalid r bits = true) : lvalid r.logic bits = true ∧ (0 ≤ r.coil ∧ r.coil < bits) ∧ (1 ≤ r.kind ∧ r.kind ≤ 3) := by
  unfold rvalid at h; simp at h; exact ⟨h.1, ⟨h.2.1, h.2.2.1⟩, h.2.2.2⟩
theorem rvalid_make {r : Rg} {bits : Int} (h1 : lvalid r.logic bits = true) (h2 : 0 ≤ r.coil ∧ r.coil < bits) (h3 : 1 ≤ r.kind ∧ r.kind ≤ 3) : rvalid r bits = true := by
  unfold rvalid; simp [h1, h2, h3]
/-- The value of an expression for a list of bits. -/
def evL (bs : List Bool) (l : List Nd) : Bool := evb l fun k => bs.getD k.toNat false
/-- A rung executed on bits. -/
def runB (bs : List Bool) (r : Rg) : List Bool :=
  if r.kind = 1 then bs.set r.coil.toNat (evL bs r.logic) else if evL bs r.logic then bs.set r.coil.toNat (decide (r.kind = 2)) else bs
theorem runB_length (bs : List Bool) (r : Rg) : (runB bs r).length = bs.length := by
  unfold runB
  repeat' split
  all_goals simp
def runL (bs : List Bool) (l : List Rg) : List Bool := l.foldl runB bs
theorem runL_length (bs : List Bool) (l : List Rg) : (runL bs l).length = bs.length := by
  induction l generalizing bs with
  | nil => rfl
  | cons r l ih => exact (ih _).trans (runB_length _ _)
theorem runL_append (bs : List Bool) (a b : List Rg) : runL bs (a ++ b) = runL (runL bs a) b := by unfold runL; rw [List.foldl_append]
theorem runL_take (bs : List Bool) (l : List Rg) (k : Nat) (h : k < l.length) : runL bs (l.take (k + 1)) = runB (runL bs (l.take k)) l[k] := by
  unfold runL; rw [List.take_succ_eq_append_getElem h, List.foldl_append]; rfl
def runRungM (m : Img) (r : Rg) : Img := if imgOK m && rvalid r m.bits.length then ⟨runB m.bits r, m.words⟩ else ⟨[], []⟩
def runLadM (m : Img) (l : List Rg) : Img := if imgOK m && ladvalid l m.bits.length then ⟨runL m.bits l, m.words⟩ else ⟨[], []⟩
/-- The driven bits, ascending. -/
def coilsTo (l : List Rg) (n : Nat) : List Int := ((List.range n).filter fun (k : Nat) => l.any fun r => decide (r.coil = (k : Int))).map fun (k : Nat) => (k : Int)
def coilsL (l : List Rg) : List Int := coilsTo l 16
def manyC (l : List Rg) (k : Nat) : Nat := l.countP fun r => decide (r.coil = (k : Int)) && decide (r.kind = 1)
def doubleTo (l : List Rg) (n : Nat) : List Int := ((List.range n).filter fun k => decide (1 < manyC l k)).map fun (k : Nat) => (k : Int)
def doubleL (l : List Rg) : List Int := doubleTo l 16
theorem coilsTo_succ (l : List Rg) (n : Nat) : coilsTo l (n + 1) = if l.any fun r => decide (r.coil = (n : Int)) then coilsTo l n ++ [(n : Int)] else coilsTo l n := by
  unfold coilsTo; rw [List.range_succ, List.filter_append]
  cases h : (l.any fun r => decide (r.coil = (n : Int))) <;> simp [List.filter_cons, h]
theorem doubleTo_succ (l : List Rg) (n : Nat) : doubleTo l (n + 1) = if decide (1 < manyC l n) then doubleTo l n ++ [(n : Int)] else doubleTo l n := by
  unfold doubleTo; rw [List.range_succ, List.filter_append]
  cases h : decide (1 < manyC l n) <;> simp [List.filter_cons, h]
theorem coilsTo_length (l : List Rg) (n : Nat) : (coilsTo l n).length ≤ n := by
  unfold coilsTo; rw [List.length_map]; exact Nat.le_trans (List.length_filter_le _ _) (by simp)
theorem doubleTo_length (l : List Rg) (n : Nat) : (doubleTo l n).length ≤ n := by
  unfold doubleTo; rw [List.length_map]; exact Nat.le_trans (List.length_filter_le _ _) (by simp)
def apart (a b : Rg) : Bool := (!(usedL a.logic).contains b.coil) && ((!(usedL b.logic).contains a.coil) && decide (a.coil ≠ b.coil))
def indep (a b : Rg) : Bool := rvalid a 16 && (rvalid b 16 && apart a b)
end Go.Proofs.Ythebkamggkfnlaa

namespace Go.Proofs.Ythebkamggkfnlaa
open Go.RowKit
attribute [local go_sem ↓] Go.wp_at_zero Go.wp_at_succ

theorem rv_eq (r : Rg) (bits : Int) : rvalid r bits = (lvalid r.logic bits && (decide (0 ≤ r.coil) && (decide (r.coil < bits) && inB r.kind 1 3))) := rfl
theorem all_take_succ {α : Type} (f : α → Bool) (l : List α) (k : Nat) (h : k < l.length) : (l.take (k + 1)).all f = ((l.take k).all f && f l[k]) := by
  rw [List.take_succ_eq_append_getElem h, List.all_append]; simp
theorem all_take_false {α : Type} {f : α → Bool} {l : List α} {k : Nat} (h : k < l.length) (hf : f l[k] = false) : l.all f = false := by
  rw [List.all_eq_false]; exact ⟨l[k], List.getElem_mem h, by simp [hf]⟩
def lads (ps : List (Value × Rg)) : List Rg := ps.map (·.2)
theorem lads_all (ps : List (Value × Rg)) (bits : Int) : ((lads ps).all fun r => rvalid r bits) = ps.all fun p => rvalid p.2 bits := by unfold lads; rw [List.all_map]; rfl
theorem ladvalid_eq (ps : List (Value × Rg)) (bits : Int) : ladvalid (lads ps) bits = ((ps.all fun p => rvalid p.2 bits) && decide (ps.length ≤ 12)) := by
  unfold ladvalid; rw [lads_all]; simp [lads]
end Go.Proofs.Ythebkamggkfnlaa

namespace Go.Proofs.Ythebkamggkfnlaa
open Go.RowKit
attribute [local go_sem ↓] Go.wp_at_zero Go.wp_at_succ

theorem evL_val (bs : List Bool) (l : List Nd) : val (bAlg bs) l = evL bs l := rfl
theorem runB_1 (bs : List Bool) (lg : List Nd) (co : Int) : runB bs ⟨lg, co, 1⟩ = bs.set co.toNat (evL bs lg) := by unfold runB; simp
theorem runB_no {bs : List Bool} {lg : List Nd} {co ki : Int} (h : ki ≠ 1) (he : evL bs lg = false) : runB bs ⟨lg, co, ki⟩ = bs := by unfold runB; simp [h, he]
theorem runB_yes {bs : List Bool} {lg : List Nd} {co ki : Int} (h : ki ≠ 1) (he : evL bs lg = true) : runB bs ⟨lg, co, ki⟩ = bs.set co.toNat (decide (ki = 2)) := by unfold runB; simp [h, he]
theorem lads_get (ps : List (Value × Rg)) (k : Nat) (h : k < ps.length) : (lads ps)[k]'(by simpa [lads] using h) = ps[k].2 := by simp [lads]
theorem lads_len (ps : List (Value × Rg)) : (lads ps).length = ps.length := by simp [lads]
theorem runL_lads (bs : List Bool) (ps : List (Value × Rg)) (k : Nat) (h : k < ps.length) : runL bs ((lads ps).take (k + 1)) = runB (runL bs ((lads ps).take k)) ps[k].2 := by
  rw [runL_take bs (lads ps) k (by rw [lads_len]; exact h), lads_get ps k h]
end Go.Proofs.Ythebkamggkfnlaa

namespace Go.Proofs.Ythebkamggkfnlaa
open Go.RowKit
attribute [local go_sem ↓] Go.wp_at_zero Go.wp_at_succ

theorem any_take_succ {α : Type} (f : α → Bool) (l : List α) (k : Nat) (h : k < l.length) : (l.take (k + 1)).any f = ((l.take k).any f || f l[k]) := by
  rw [List.take_succ_eq_append_getElem h, List.any_append]; simp
theorem any_of_get {α : Type} {f : α → Bool} {l : List α} {k : Nat} (h : k < l.length) (hf : f l[k] = true) : l.any f = true := List.any_eq_true.2 ⟨l[k], List.getElem_mem h, hf⟩
theorem coilsTo_lads (ps : List (Value × Rg)) (n : Nat) : coilsTo (lads ps) (n + 1) = if ps.any fun p => decide (p.2.coil = (n : Int)) then coilsTo (lads ps) n ++ [(n : Int)] else coilsTo (lads ps) n := by
  rw [coilsTo_succ]; unfold lads; rw [List.any_map]; rfl
theorem countP_take_succ {α : Type} (f : α → Bool) (l : List α) (k : Nat) (h : k < l.length) : (l.take (k + 1)).countP f = (l.take k).countP f + if f l[k] = true then 1 else 0 := by
  rw [List.take_succ_eq_append_getElem h, List.countP_append, List.countP_singleton]
theorem doubleTo_lads (ps : List (Value × Rg)) (n : Nat) : doubleTo (lads ps) (n + 1) = if 1 < ps.countP fun p => decide (p.2.coil = (n : Int)) && decide (p.2.kind = 1) then doubleTo (lads ps) n ++ [(n : Int)] else doubleTo (lads ps) n := by
  rw [doubleTo_succ]; unfold manyC lads; rw [List.countP_map]; simp only [decide_eq_true_eq]; rfl
end Go.Proofs.Ythebkamggkfnlaa

namespace Go.Proofs.Ythebkamggkfnlaa
open Go.RowKit
attribute [local go_sem ↓] Go.wp_at_zero Go.wp_at_succ

theorem keptB {B : Nat} {W w1 : World} (hb : Below B W w1) (n : Nat) (hn : n < B) (hl : n < W.heap.size) :
    (∀ o, w1.cell? ⟨n, o, none⟩ = W.cell? ⟨n, o, none⟩) ∧ (∀ o, w1.frozen? ⟨n, o, none⟩ = W.frozen? ⟨n, o, none⟩) ∧ n < w1.heap.size :=
  ⟨fun _ => hb.cell hn, fun _ => hb.frozen hn, Nat.lt_of_lt_of_le hl hb.size⟩
/-- A ladder whose rows and expressions lie from base on. -/
def OwnL (w : World) (base : Nat) (v : Value) (ps : List (Value × Rg)) : Prop :=
  w.ownsRow base 46 3 v ps.length (cellsR ps) ∧ ∀ p ∈ ps, OwnN w base p.1 p.2.logic ∧ rgFit p.2 ∧ (∀ x ∈ p.2.logic, ndFit x) ∧ p.2.logic.length ≤ 2000000
theorem elL : Elem Try.prog 48 46 (.agg #[.slice none 0 0, .int .i64 0, .int .i64 0]) 3 40 := ⟨Try.underlying48, by kernel_rfl, rfl, by decide⟩
theorem OwnL.nil {w : World} {base : Nat} {v : Value} (h : w.ownsRow base 46 3 v 0 []) : OwnL w base v [] := ⟨h, by simp⟩
theorem OwnL.below {w w' : World} {base : Nat} {v : Value} {ps : List (Value × Rg)} (h : OwnL w base v ps) (hb : Below w.heap.size w w') : OwnL w' base v ps :=
  ⟨own_below h.1 hb, fun p hp => ⟨own_below (h.2 p hp).1 hb, (h.2 p hp).2⟩⟩
theorem OwnL.read {w : World} {base : Nat} {v : Value} {ps : List (Value × Rg)} (h : OwnL w base v ps) (hl : ps.length ≤ 4398046511104) : LadR w w.heap.size v ps := by
  obtain ⟨A, c, rfl, hc, hr⟩ := own_form h.1
  exact ⟨A, c, rfl, hr, ⟨hc, hl⟩, fun p hp => by obtain ⟨h1, h2, h3, h4⟩ := h.2 p hp; exact ⟨h1.read (by omega) h3, h2⟩⟩
theorem Rd.newR (w : World) (u : Value) (r : Rg) (t : TypeId) : Rd (w.alloc (.cells #[u, .int .i64 r.coil, .int .i64 r.kind] t)) (w.heap.size + 1) 3 (some ⟨w.heap.size, 0, none⟩) 1 (cellsR [(u, r)]) := by
  refine ⟨rfl, fun _ => ⟨_, rfl, Nat.lt_succ_self _, fun j v hj => ?_⟩⟩
  match j, hj with
  | 0, hj => simp [cellsR] at hj; subst hj; simp [Addr.add]
  | 1, hj => simp [cellsR] at hj; subst hj; simp [Addr.add]
  | 2, hj => simp [cellsR] at hj; subst hj; simp [Addr.add]
theorem one_r (A : Option Addr) (n c : Nat) (r : Rg) : ∀ u ∈ cellsR [(.slice A n c, r)], u.oneCell' = true := by
  intro u hu; simp [cellsR] at hu; rcases hu with rfl | rfl | rfl <;> rfl
/-- One rung more. -/
theorem OwnL.push {w w2 : World} {base : Nat} {v v2 : Value} {ps : List (Value × Rg)} {u : Value} {r : Rg} (h : OwnL w base v ps) (hu : OwnN w base u r.logic) (hf : rgFit r ∧ (∀ x ∈ r.logic, ndFit x) ∧ r.logic.length ≤ 2000000)
    (hO : w2.ownsRow base 46 3 v2 (ps.length + 1) (cellsR ps ++ cellsR [(u, r)])) (hg : w.grownBy w2 v.ownBlock) : OwnL w2 base v2 (ps ++ [(u, r)]) := by
  refine ⟨by rw [cellsR_append, List.length_append]; exact hO, fun p hp => ?_⟩
  rcases List.mem_append.1 hp with hp | hp
  · exact ⟨World.ownsRow.kept (h.2 p hp).1 hg (own_ne (h.2 p hp).1 h.1 (by decide)), (h.2 p hp).2⟩
  · obtain rfl := List.mem_singleton.1 hp
    exact ⟨World.ownsRow.kept hu hg (own_ne hu h.1 (by decide)), hf⟩
theorem lads_app (a : List (Value × Rg)) (p : Value × Rg) : lads (a ++ [p]) = lads a ++ [p.2] := by simp [lads]
end Go.Proofs.Ythebkamggkfnlaa

namespace Go.Proofs.Ythebkamggkfnlaa
open Go.RowKit
attribute [local go_sem ↓] Go.wp_at_zero Go.wp_at_succ

theorem apart_eq (a b : Rg) : apart a b = (!(usedL a.logic).any (fun x => decide (x = b.coil)) && (!(usedL b.logic).any (fun x => decide (x = a.coil)) && decide (a.coil ≠ b.coil))) := by
  have e : ∀ (l : List Int) (c : Int), l.contains c = l.any fun x => decide (x = c) := fun l c => by
    rw [Bool.eq_iff_iff]; simp [List.any_eq_true]
  unfold apart; rw [e, e]
theorem any_take_false {l : List Int} {c : Int} {k : Nat} (h : k < l.length) (ht : (l.take k).any (fun x => decide (x = c)) = false) (hne : l[k] ≠ c) : (l.take (k + 1)).any (fun x => decide (x = c)) = false := by
  rw [List.take_succ_eq_append_getElem h, List.any_append, ht]; simp [hne]
theorem OwnI.rdR {w : World} {b n c : Nat} {A : Option Addr} {T : List Int} (h : OwnI w b (.slice A n c) T) (hn : n = T.length) : Rd w w.heap.size 1 A n (T.map (.int .i64)) := by
  obtain ⟨A', c', e, -, hr⟩ := own_form h
  injection e with e1 e2 e3
  subst hn
  rw [e1]
  exact hr
theorem used_fitR (l : List Nd) : ∀ x ∈ usedL l, 0 ≤ x ∧ x < 16 := by
  intro x hx
  have := (numsTo_mem (usedS l) 16 x).1 hx
  omega
theorem indep_eq (a b : Rg) : indep a b = (rvalid a 16 && (rvalid b 16 && apart a b)) := rfl
end Go.Proofs.Ythebkamggkfnlaa

namespace Go.Proofs.Ythebkamggkfnlaa
open Go.RowKit
attribute [local go_sem ↓] Go.wp_at_zero Go.wp_at_succ

def RgRunP (m : Img) (w : World) (e : Ending) (w' : World) : Prop := ∃ u, e = .returned u ∧ OwnM w' w.heap.size u m ∧ Below w.heap.size w w'
theorem OwnM.readF {w : World} {b : Nat} {v : Value} {m : Img} (h : OwnM w b v m) (hs : m.bits.length ≤ 2000000 ∧ m.words.length ≤ 2000000) (hx : ∀ x ∈ m.words, -9223372036854775808 ≤ x ∧ x ≤ 9223372036854775807) : ImgR w w.heap.size v m := by
  obtain ⟨v1, v2, rfl, h1, h2⟩ := h
  exact ⟨v1, v2, rfl, OwnB.read h1 (by omega), OwnI.read h2 (by omega) hx⟩
theorem blk_set2 {w : World} {k t : Nat} {x y : Value} (h : w.heap[k]? = some (.cells #[x, y] t (0, 0))) (u u' : Value) : ((w.setCell ⟨k, 0, none⟩ u).setCell ⟨k, 1, none⟩ u').heap[k]? = some (.cells #[u, u'] t (0, 0)) := by
  have h1 := Go.heap_setCell_same w k 0 _ t u h
  have h2 := Go.heap_setCell_same _ k 1 _ t u' h1
  simpa using h2
theorem blk_set3 {w : World} {k t : Nat} {x y z : Value} (h : w.heap[k]? = some (.cells #[x, y, z] t (0, 0))) (u u' u'' : Value) : (((w.setCell ⟨k, 0, none⟩ u).setCell ⟨k, 1, none⟩ u').setCell ⟨k, 2, none⟩ u'').heap[k]? = some (.cells #[u, u', u''] t (0, 0)) := by
  have h1 := Go.heap_setCell_same w k 0 _ t u h
  have h2 := Go.heap_setCell_same _ k 1 _ t u' h1
  have h3 := Go.heap_setCell_same _ k 2 _ t u'' h2
  simpa using h3
theorem blk_other {w : World} {k : Nat} {o : Obj} {a : Addr} (h : w.heap[k]? = some o) (hne : k ≠ a.block) (u : Value) : (w.setCell a u).heap[k]? = some o := (Below.heap_setCell _ _ _ _ hne).trans h
theorem OwnM.set_ {w : World} {b : Nat} {v : Value} {m : Img} (h : OwnM w b v m) {p : Addr} (hp : p.block < b) (u : Value) : OwnM (w.setCell p u) b v m := by
  obtain ⟨v1, v2, rfl, h1, h2⟩ := h
  exact ⟨v1, v2, rfl, ownsRow_setCell_below h1 hp u, ownsRow_setCell_below h2 hp u⟩
theorem OwnM.keep_ {w w' : World} {b : Nat} {v : Value} {m : Img} (h : OwnM w b v m) (hb : Below w.heap.size w w') : OwnM w' b v m := by
  obtain ⟨v1, v2, rfl, h1, h2⟩ := h
  exact ⟨v1, v2, rfl, own_below h1 hb, own_below h2 hb⟩
/-- The cells of a block of two or three. -/
theorem blk2 {w : World} {k t : Nat} {x y : Value} (h : w.heap[k]? = some (.cells #[x, y] t (0, 0))) :
    w.cell? ⟨k, 0, none⟩ = some x ∧ w.cell? ⟨k, 1, none⟩ = some y ∧ w.frozen? ⟨k, 0, none⟩ = false ∧ w.frozen? ⟨k, 1, none⟩ = false :=
  ⟨blk_cell h 0, blk_cell h 1, blk_frozen h 0, blk_frozen h 1⟩
theorem blk3 {w : World} {k t : Nat} {x y z : Value} (h : w.heap[k]? = some (.cells #[x, y, z] t (0, 0))) :
    (w.cell? ⟨k, 0, none⟩ = some x ∧ w.cell? ⟨k, 1, none⟩ = some y ∧ w.cell? ⟨k, 2, none⟩ = some z) ∧ w.frozen? ⟨k, 0, none⟩ = false ∧ w.frozen? ⟨k, 1, none⟩ = false ∧ w.frozen? ⟨k, 2, none⟩ = false :=
  ⟨⟨blk_cell h 0, blk_cell h 1, blk_cell h 2⟩, blk_frozen h 0, blk_frozen h 1, blk_frozen h 2⟩
end Go.Proofs.Ythebkamggkfnlaa
