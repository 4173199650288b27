/- The specification's evaluation of expressions: a stack of truth values. -/
import Derived.Test.YthebkamggkfnlaaSl
import Derived.Test.YthebkamggkfnlaaF
import Derived.IntWalk
import Derived.Deep.RegionHeld3
import Derived.Deep.RegionLaw
namespace Go.Proofs.Ythebkamggkfnlaa
open Go.RowKit
attribute [local go_sem ↓] Go.wp_at_zero Go.wp_at_succ

/-- A row of the call's own whose value is known. -/
theorem own_top1 {w : World} {base e g m c : Nat} {xs : List Value} {u : Value} (h : w.ownsRow base e 1 (.slice (some ⟨g, 0, none⟩) (m + 1) c) (m + 1) (xs ++ [u])) :
    xs.length = m ∧ w.cell? ⟨g, m, none⟩ = some u ∧ w.frozen? ⟨g, m, none⟩ = false := by
  have hl : xs.length = m := by have := h.1; simp at this; omega
  have hc := h.cellAt m (by omega)
  refine ⟨hl, ?_, h.frozenAt m⟩
  rw [hc, ← hl]; simp
theorem own_top2 {w : World} {base e g m c : Nat} {xs : List Value} {u v : Value} (h : w.ownsRow base e 1 (.slice (some ⟨g, 0, none⟩) (m + 2) c) (m + 2) (xs ++ [u, v])) :
    xs.length = m ∧ w.cell? ⟨g, m, none⟩ = some u ∧ w.cell? ⟨g, m + 1, none⟩ = some v ∧ w.ownsRow base e 1 (.slice (some ⟨g, 0, none⟩) m c) m xs ∧ m + 2 ≤ c := by
  have hl : xs.length = m := by have := h.1; simp at this; omega
  have hc := h.cellAt m (by omega)
  have hd := h.cellAt (m + 1) (by omega)
  refine ⟨hl, by rw [hc, ← hl]; simp, by rw [hd, ← hl]; simp, ?_, ?_⟩
  · have h1 : w.ownsRow base e 1 (.slice (some ⟨g, 0, none⟩) (m + 1) c) (m + 1) (xs ++ [u]) := ownsRow_pop (size := 1) (last := [v]) (by simp; omega) (by simpa using h)
    exact ownsRow_pop (size := 1) (by omega) h1
  · rcases h.2 with ⟨h0, _⟩ | ⟨g', cap', cur, hv, _, _, hn, _⟩
    · cases h0
    · cases hv; exact hn
theorem nd_one {n : Int} {x : Nd} {d : Nat} (h : ndOK n x d = true) (h1 : x.op = 1) : 0 ≤ x.bit ∧ x.bit < n := by
  unfold ndOK bitOK at h; simp [h1] at h; exact h.1.2
theorem nd_need {n : Int} {x : Nd} {d : Nat} (h : ndOK n x d = true) : 0 ≤ need x.op ∧ need x.op ≤ (d : Int) := by
  unfold ndOK at h; simp at h; exact ⟨h.1.1, h.2⟩
theorem need_cases {op : Int} (h : 0 ≤ need op) : op = 1 ∨ op = 2 ∨ op = 3 ∨ op = 4 ∨ op = 5 ∨ op = 6 ∨ op = 7 := by
  unfold need at h
  repeat' split at h
  all_goals omega
theorem form1 {α : Type} {st : List α} (h : 1 ≤ st.length) : ∃ a r, st = a :: r := by
  rcases st with _ | ⟨a, r⟩
  · simp at h
  · exact ⟨a, r, rfl⟩
theorem form2 {α : Type} {st : List α} (h : 2 ≤ st.length) : ∃ a b r, st = a :: b :: r := by
  rcases st with _ | ⟨a, _ | ⟨b, r⟩⟩
  · simp at h
  · simp at h
  · exact ⟨a, b, r, rfl⟩
def bAlg (bs : List Bool) : Alg Bool := boolAlg fun k => bs.getD k.toNat false
theorem ev_take {α : Type} (A : Alg α) (l : List Nd) (k : Nat) (h : k < l.length) : ev A (l.take (k + 1)) [] = evStep A (ev A (l.take k) []) l[k] := by
  rw [take_snocN l k h, ev_snoc]
/-- What is known at the head of a round. -/
theorem ev_head {α : Type} (A : Alg α) {l : List Nd} {n : Int} (h : lvalid l n = true) (k : Nat) (hk : k < l.length) : ndOK n l[k] (ev A (l.take k) []).length = true ∧ (ev A (l.take k) []).length ≤ k := by
  obtain ⟨f, h1, h2⟩ := dep_prefix (lvalid_dep h) k
  have h3 := ev_len A n (l.take k) [] f h1
  rw [h3]
  refine ⟨h2 hk, ?_⟩
  have := depOf_le n (l.take k) 0 f h1
  simp at this; omega
def EvP (w : World) (x : Bool) (e : Ending) (w' : World) : Prop := e = .returned (.bool x) ∧ Below w.heap.size w w'
set_option pp.deepTerms true in
set_option pp.maxSteps 10000000 in
/-- One element pushed where there is room, as a step of a region that draws. -/
theorem step_push1 {P : Program} {ops : Array Oper} {o : Oper} {a : Act} {w : World} {K : Act → World → Prop} {Q : Exit → Act → World → Prop} {F : Prop} (hg : o.guard = none) (s x : Operand) (t : TypeId)
    (hop : o.op = Op.call { callee := Callee.builtin Builtin.append, args := #[s, x], argTypes := #[t, t] }) {e : TypeId} {z : Value} {by_ : Nat} (E : Elem P t e z 1 by_) (g n cap : Nat)
    (hs : a.eval s = .slice (some ⟨g, 0, none⟩) n cap) (ad : Addr) (c : Nat) (u : Value) (hx : a.eval x = .slice (some ad) 1 c) (hc : w.cell? ad = some u) (h1 : u.oneCell' = true) (hroom : n + 1 ≤ cap)
    (hsp : (w.cell? ⟨g, n, none⟩).isSome = true ∧ w.frozen? ⟨g, n, none⟩ = false) (hK : K (a.put o.dst (.slice (some ⟨g, 0, none⟩) (n + 1) cap)) (w.setCell ⟨g, n, none⟩ u)) :
    if Region.wanted o (yielded ops a.tmps) = true then Oper.wp P o a w K Q else F := by
  obtain ⟨i, hi, hz, hs1, hb1⟩ := info_parts E.info
  refine Go.step_append_room hg s x t hop e i 1 E.under hi hs1 g 0 n cap hs ad 1 c [u] hx (by simp) ?_ ?_ hroom ?_ ?_
  · intro j v hj
    match j, hj with
    | 0, hj => simp at hj; subst hj; simpa [Addr.add] using hc
  · intro v hv; simp at hv; subst hv; exact h1
  · intro j hj
    obtain rfl : j = 0 := by simp at hj; omega
    simpa using hsp
  · simpa [World.setCells] using hK
theorem own_pop1 {w : World} {base e g m c : Nat} {xs : List Value} {u v : Value} (h : w.ownsRow base e 1 (.slice (some ⟨g, 0, none⟩) (m + 2) c) (m + 2) (xs ++ [u, v])) :
    w.ownsRow base e 1 (.slice (some ⟨g, 0, none⟩) (m + 1) c) (m + 1) (xs ++ [u]) ∧ w.frozen? ⟨g, m, none⟩ = false := by
  have hl : xs.length = m := by have := h.1; simp at this; omega
  exact ⟨ownsRow_pop (size := 1) (last := [v]) (by simp; omega) (by simpa using h), h.frozenAt m⟩
theorem set_last {α : Type} (xs : List α) (u v : α) (m : Nat) (h : xs.length = m) : (xs ++ [u]).set m v = xs ++ [v] := by
  rw [List.set_append_right _ _ (by omega), ← h]; simp
theorem spare_of {wr : World} {g m : Nat} {u : Value} (hg : g < wr.heap.size) (h1 : wr.cell? ⟨g, m, none⟩ = some u) (h2 : wr.frozen? ⟨g, m, none⟩ = false) (c : Array Value) (t : TypeId) :
    (((wr.drew).alloc (.cells c t)).cell? ⟨g, m, none⟩).isSome = true ∧ ((wr.drew).alloc (.cells c t)).frozen? ⟨g, m, none⟩ = false := by
  refine ⟨?_, ?_⟩
  · rw [World.cell?_alloc_lt _ _ _ (by exact hg)]; show (wr.cell? _).isSome = true; rw [h1]; rfl
  · rw [World.frozen?_alloc_past _ _ _ (by exact hg)]; exact h2
theorem keep_set {w : World} {g m : Nat} {u v : Value} (h : w.cell? ⟨g, m + 1, none⟩ = some v) : (w.setCell ⟨g, m, none⟩ u).cell? ⟨g, m + 1, none⟩ = some v := by
  rw [World.cell?_setCell_other w _ _ _ (by simp)]; exact h
end Go.Proofs.Ythebkamggkfnlaa
