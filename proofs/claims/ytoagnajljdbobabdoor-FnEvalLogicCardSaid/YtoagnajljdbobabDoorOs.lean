/- A list of expression elements of the call's own, at an offset in its block. -/
import Derived.Test.YtoagnajljdbobabDoorDA
import Derived.Laws.AppendOwn
namespace Go.Proofs.YtoagnajljdbobabDoor
open Go.RowKit

def OwnS (w : World) (base : Nat) (v : Value) (l : List Nd) : Prop :=
  ∃ g off cap cur, v = .slice (some ⟨g, off, none⟩) l.length cap ∧ base ≤ g ∧ w.heap[g]? = some (.cells cur 49 (0, 0)) ∧ l.length ≤ cap ∧ cap ≤ maxLen ∧ off + cap * 2 ≤ cur.size ∧ (cur.toList.drop off).take (l.length * 2) = cellsN l
theorem OwnS.of {w : World} {base : Nat} {v : Value} {l : List Nd} (h : OwnN w base v l) (hl : 1 ≤ l.length) : OwnS w base v l := by
  rcases h.2 with ⟨_, h0⟩ | ⟨g, cap, cur, rfl, hb, hg, hn, hc, hs, ht⟩
  · omega
  · exact ⟨g, 0, cap, cur, rfl, hb, hg, hn, hc, by omega, by simpa using ht⟩
theorem OwnS.mono {w : World} {base b' : Nat} {v : Value} {l : List Nd} (h : OwnS w base v l) (hb : b' ≤ base) : OwnS w b' v l := by
  obtain ⟨g, off, cap, cur, rfl, h1, h2⟩ := h; exact ⟨g, off, cap, cur, rfl, by omega, h2⟩
theorem OwnS.kept {w w' : World} {base : Nat} {v : Value} {l : List Nd} (h : OwnS w base v l) (hk : ∀ g, v.ownBlock = some g → w'.heap[g]? = w.heap[g]?) : OwnS w' base v l := by
  obtain ⟨g, off, cap, cur, rfl, h1, h2, h3⟩ := h; exact ⟨g, off, cap, cur, rfl, h1, (hk g rfl).trans h2, h3⟩
theorem OwnS.lt {w : World} {base : Nat} {v : Value} {l : List Nd} (h : OwnS w base v l) : ∀ k, v.ownBlock = some k → base ≤ k ∧ k < w.heap.size := by
  obtain ⟨g, off, cap, cur, rfl, h1, h2, h3⟩ := h
  intro k hk
  simp only [Value.ownBlock, Option.some.injEq] at hk
  subst hk
  exact ⟨h1, (Array.getElem?_eq_some_iff.1 h2).1⟩
theorem Fr.ownS {w w' : World} {g base : Nat} {v : Value} {l : List Nd} (hf : Fr w.heap.size g w w') (h : OwnS w base v l) (hg : g < base) : OwnS w' base v l :=
  h.kept fun k hk => hf.block k (h.lt k hk).2 (by have := (h.lt k hk).1; omega)
theorem OwnS.alloc {w : World} {base : Nat} {v : Value} {l : List Nd} (h : OwnS w base v l) (o : Obj) : OwnS (w.alloc o) base v l :=
  h.kept fun k hk => Below.heap_alloc w o k (h.lt k hk).2
theorem OwnS.drew {w : World} {base : Nat} {v : Value} {l : List Nd} (h : OwnS w base v l) : OwnS w.drew base v l := h.kept fun _ _ => rfl
theorem OwnS.below {w w' : World} {base : Nat} {v : Value} {l : List Nd} (h : OwnS w base v l) (hb : Below w.heap.size w w') : OwnS w' base v l :=
  h.kept fun k hk => hb.block k (h.lt k hk).2
/-- What it looks like, and that it reads as its elements. -/
theorem OwnS.form {w : World} {base : Nat} {v : Value} {l : List Nd} (h : OwnS w base v l) :
    ∃ g off cap, v = .slice (some ⟨g, off, none⟩) l.length cap ∧ (base ≤ g ∧ g < w.heap.size) ∧ l.length ≤ cap ∧ Rd w w.heap.size 2 (some ⟨g, off, none⟩) l.length (cellsN l) := by
  obtain ⟨g, off, cap, cur, rfl, h1, h2, h3, h4, h5, h6⟩ := h
  have hlt : g < w.heap.size := (Array.getElem?_eq_some_iff.1 h2).1
  refine ⟨g, off, cap, rfl, ⟨h1, hlt⟩, h3, cellsN_length l, fun _ => ⟨_, rfl, hlt, fun j u hu => ?_⟩⟩
  rw [Addr.add_lit, cell_of_row w g _ cur _ (0, 0) h2, ← Array.getElem?_toList, ← hu, ← h6, List.getElem?_take, List.getElem?_drop]
  have hj : j < (cellsN l).length := (List.getElem?_eq_some_iff.1 hu).1
  rw [cellsN_length] at hj
  rw [if_pos hj]
theorem OwnS.read {w : World} {base : Nat} {v : Value} {l : List Nd} (h : OwnS w base v l) (hl : l.length ≤ 8796093022208) (hs : ∀ x ∈ l, smN x) : NodesR w w.heap.size v l := by
  obtain ⟨g, off, cap, rfl, h1, h2, h3⟩ := h.form
  exact ⟨_, cap, rfl, h3, ⟨h2, hl⟩, fun x hx => (hs x hx).fit⟩
theorem cellsN_drop (l : List Nd) (k : Nat) : (cellsN l).drop (k * 2) = cellsN (l.drop k) := by
  induction l generalizing k with
  | nil => simp [cellsN]
  | cons x l ih =>
    cases k with
    | zero => simp
    | succ k => rw [cellsN_cons, show (k + 1) * 2 = k * 2 + 1 + 1 by omega]; simpa using ih k
/-- The rest of it. -/
theorem OwnS.drop {w : World} {base g off cap : Nat} {l : List Nd} (h : OwnS w base (.slice (some ⟨g, off, none⟩) l.length cap) l) (k : Nat) (hk : k ≤ l.length) :
    OwnS w base (.slice (some ⟨g, if cap = k then off else off + k * 2, none⟩) (l.length - k) (cap - k)) (l.drop k) := by
  obtain ⟨g', off', cap', cur, hv, h1, h2, h3, h4, h5, h6⟩ := h
  injection hv with hA _ hc
  injection hA with hA
  injection hA with hA hB
  subst hA; subst hB; subst hc
  by_cases hck : cap = k
  · subst hck
    refine ⟨g, off, cap - cap, cur, by simp, h1, h2, by simp; omega, by omega, by omega, ?_⟩
    have : l.drop cap = [] := List.drop_eq_nil_of_le h3
    simp [this, cellsN]
  · refine ⟨g, off + k * 2, cap - k, cur, by simp [hck], h1, h2, by simp; omega, by omega, by omega, ?_⟩
    rw [List.length_drop, ← cellsN_drop, ← h6, List.drop_take, List.drop_drop, ← Nat.sub_mul]
theorem cellsN_setO (l : List Nd) (k : Nat) (x : Int) : (cellsN l).set (k * 2) (.int .i64 x) = cellsN (l.modify k fun n => ⟨x, n.bit⟩) := by
  induction l generalizing k with
  | nil => simp [cellsN]
  | cons y l ih =>
    cases k with
    | zero => simp [cellsN_cons]
    | succ k => rw [cellsN_cons, show (k + 1) * 2 = k * 2 + 1 + 1 by omega]; simp [cellsN_cons, ih k]
theorem cellsN_setB (l : List Nd) (k : Nat) (x : Int) : (cellsN l).set (k * 2 + 1) (.int .i64 x) = cellsN (l.modify k fun n => ⟨n.op, x⟩) := by
  induction l generalizing k with
  | nil => simp [cellsN]
  | cons y l ih =>
    cases k with
    | zero => simp [cellsN_cons]
    | succ k => rw [cellsN_cons, show (k + 1) * 2 + 1 = (k * 2 + 1) + 1 + 1 by omega]; simp [cellsN_cons, ih k]
theorem OwnS.setCell {w : World} {base g off cap n : Nat} {l l' : List Nd} (h : OwnS w base (.slice (some ⟨g, off, none⟩) l.length cap) l) (hl : l'.length = l.length) (u : Value) (hn : (cellsN l).set n u = cellsN l') (_hn2 : n < l.length * 2) :
    OwnS (w.setCell ⟨g, off + n, none⟩ u) base (.slice (some ⟨g, off, none⟩) l.length cap) l' := by
  obtain ⟨g', off', cap', cur, hv, h1, h2, h3, h4, h5, h6⟩ := h
  injection hv with hA _ hc
  injection hA with hA
  injection hA with hA hB
  subst hA; subst hB; subst hc
  refine ⟨g, off, cap, _, by rw [hl], h1, Go.heap_setCell_same w g _ cur _ u h2, by omega, h4, by simpa using h5, ?_⟩
  rw [← hn, ← h6, hl]
  rw [Array.toList_setIfInBounds, List.drop_set, if_neg (by omega), Nat.add_sub_cancel_left, List.take_set]
theorem OwnS.setO {w : World} {base g off cap : Nat} {l : List Nd} (h : OwnS w base (.slice (some ⟨g, off, none⟩) l.length cap) l) (k : Nat) (hk : k < l.length) (x : Int) :
    OwnS (w.setCell ⟨g, off + k * 2, none⟩ (.int .i64 x)) base (.slice (some ⟨g, off, none⟩) l.length cap) (l.modify k fun n => ⟨x, n.bit⟩) :=
  h.setCell (by simp) _ (cellsN_setO l k x) (by omega)
theorem OwnS.setB {w : World} {base g off cap : Nat} {l : List Nd} (h : OwnS w base (.slice (some ⟨g, off, none⟩) l.length cap) l) (k : Nat) (hk : k < l.length) (x : Int) :
    OwnS (w.setCell ⟨g, off + k * 2 + 1, none⟩ (.int .i64 x)) base (.slice (some ⟨g, off, none⟩) l.length cap) (l.modify k fun n => ⟨n.op, x⟩) :=
  h.setCell (by simp) _ (cellsN_setB l k x) (by omega)
/-- The cells of an element, for a store into them. -/
theorem OwnS.at_ {w : World} {base g off cap : Nat} {l : List Nd} (h : OwnS w base (.slice (some ⟨g, off, none⟩) l.length cap) l) {k : Nat} (hk : k < l.length) :
    w.cell? ⟨g, off + k * 2, none⟩ = some (.int .i64 l[k].op) ∧ w.cell? ⟨g, off + k * 2 + 1, none⟩ = some (.int .i64 l[k].bit) ∧ ∀ j, w.frozen? ⟨g, j, none⟩ = false := by
  obtain ⟨g1, off1, cap1, hv1, -, -, hrd⟩ := h.form
  obtain ⟨g', off', cap', cur, hv, h1, h2, h3, h4, h5, h6⟩ := h
  injection hv with hA _ hc
  injection hA with hA
  injection hA with hA hB
  subst hA; subst hB; subst hc
  injection hv1 with hA _ hc
  injection hA with hA
  injection hA with hA hB
  subst hA; subst hB; subst hc
  obtain ⟨p, e, -, q1, q2⟩ := hrd.two hk
  injection e with e; subst e
  rw [Addr.add_lit] at q1 q2
  exact ⟨q1, q2, fun j => frozen_of_row w g j cur _ h2⟩
def slLen : Value → Nat
  | .slice _ n _ => n
  | _ => 0
theorem sm_mod {l : List Nd} (h : ∀ y ∈ l, smN y) (k : Nat) (f : Nd → Nd) (hf : ∀ y, smN y → smN (f y)) : ∀ y ∈ l.modify k f, smN y := by
  intro y hy
  obtain ⟨j, hj, rfl⟩ := List.getElem_of_mem hy
  rw [List.getElem_modify]
  have hj' : j < l.length := by simpa using hj
  split
  · exact hf _ (h _ (List.getElem_mem hj'))
  · exact h _ (List.getElem_mem hj')
/-- append onto it: in its own block, or into a new one. -/
theorem run_appendS {P : Program} (w : World) (t ty : TypeId) (E : Elem P t 49 (.agg #[.int .i64 0, .int .i64 0]) 2 16) {base : Nat} {v : Value} {l l2 : List Nd} (h : OwnS w base v l)
    {B m c : Nat} {p : Addr} (hm : m = l2.length) (hr : Rd w B 2 (some p) m (cellsN l2)) (hm0 : 0 < m) (hlen : l.length + m ≤ 1000000) (hbase : base ≤ w.heap.size) :
    ∃ v' w', (Builtin.append_ #[t, t] ty #[v, .slice (some p) m c]).run P w = .ok v' w' ∧ OwnS w' base v' (l ++ l2) ∧ w.grownBy w' v.ownBlock := by
  subst hm
  obtain ⟨i, hi, hz, hs1, hb1⟩ := info_parts E.info
  obtain ⟨g0, off0, cap0, hv0, -, -, hrd⟩ := h.form
  obtain ⟨g, off, cap, cur, hv, h1, h2, h3, h4, h5, h6⟩ := h
  have hcs : ∀ j u, (cellsN l2)[j]? = some u → w.cell? (p.add j) = some u := by
    obtain ⟨p', e, _, hc⟩ := hr.at_ hm0
    injection e with e; subst e
    exact hc
  have hlc : (cellsN l2).length = l2.length * i.size := by rw [hs1]; exact cellsN_length l2
  by_cases hroom : l.length + l2.length ≤ cap
  · have hf := run_firstCells_some (P := P) w i.size l2.length p l2.length c (cellsN l2) hlc hcs
    have hst := run_storeCells_at P g (off + l.length * i.size) 49 (cellsN l2) 0 cur w h2 (by rw [hlc, hs1]; omega) (one_n l2)
    simp only [Nat.add_zero] at hst
    refine ⟨_, _, by subst hv; simp [Builtin.append_, run_underlying E.under, sizeOf, typeInfo, hi, Builtin.lenOf, hroom, hf, Addr.add_lit, hst]; exact ⟨rfl, rfl⟩, ⟨g, off, cap, _, by rw [List.length_append], h1, setRow_heap w g cur _ _ _ h2, by rw [List.length_append]; exact hroom, h4, ?_, ?_⟩, ?_⟩
    · simp only [List.size_toArray, List.length_append, List.length_take, List.length_drop, Array.length_toList]
      rw [hlc, hs1]
      omega
    · have hcl : cur.toList.length = cur.size := Array.length_toList
      rw [List.length_append, cellsN_append, ← h6, hs1]
      have e2 : off ≤ (cur.toList.take (off + l.length * 2)).length := by rw [List.length_take]; omega
      simp only
      rw [List.drop_append_of_le_length e2, List.drop_take, Nat.add_sub_cancel_left, ← List.append_assoc]
      apply List.take_left'
      rw [List.length_append, List.length_take, List.length_drop, cellsN_length]
      omega
    · subst hv
      exact ⟨rfl, rfl, rfl, by simp, fun k _ hk => setRow_other w g k _ (fun e => hk (by simp [Value.ownBlock, e]))⟩
  · have holds : ∀ j u, (cellsN l)[j]? = some u → w.cell? ((⟨g, off, none⟩ : Addr).add j) = some u := by
      rw [hv0] at hv
      injection hv with hA _ _
      rcases Nat.eq_zero_or_pos l.length with h0 | h0
      · have : l = [] := List.eq_nil_of_length_eq_zero h0
        subst this
        intro j u hu; simp [cellsN] at hu
      · obtain ⟨p', e, _, hc⟩ := hrd.at_ h0
        rw [hA] at e
        injection e with e; subst e
        exact hc
    have hr := run_append_grow (P := P) w t ty 49 i _ E.under hi hz ⟨g, off, none⟩ l.length cap (cellsN l) (by rw [hs1]; exact cellsN_length l) holds p l2.length c (cellsN l2) hlc hcs (by omega) (by omega) (growslice_fits (by omega) (by rw [hb1]; omega))
    have hge := grownCap_ge w (l.length + l2.length) cap 49
    have hcm : grownCap w (l.length + l2.length) cap 49 ≤ maxLen := grownCap_le_maxLen w _ cap _ (by unfold maxLen; omega)
    subst hv
    refine ⟨_, _, hr, ⟨w.heap.size, 0, _, _, by rw [List.length_append], hbase, heap_alloc_new w.drew _, by rw [List.length_append]; exact hge, hcm, ?_, ?_⟩, ⟨rfl, rfl, rfl, by simp, fun k hk _ => Below.heap_alloc w.drew _ k hk⟩⟩
    · simp only [Array.size_append, List.size_toArray, size_zeroCells, cellsN_length, E.cells]
      omega
    · simp only [Array.toList_append, List.append_assoc, List.drop_zero]
      rw [← List.append_assoc, cellsN_append]
      apply List.take_left'
      rw [List.length_append, cellsN_length, cellsN_length, List.length_append]
      omega
theorem wpl_appendS {P : Program} {w : World} {ops : Array Oper} {rest : List Oper} {o : Oper} {a : Act} {Q : Exit → Act → World → Prop} (hgd : o.guard = none) (s x : Operand) (t : TypeId) (ho : o.op = .call { callee := .builtin .append, args := #[s, x], argTypes := #[t, t] })
    (E : Elem P t 49 (.agg #[.int .i64 0, .int .i64 0]) 2 16) {base : Nat} {v : Value} {l l2 : List Nd} (hs : a.eval s = v) (h : OwnS w base v l)
    {B m c : Nat} {p : Addr} (hx : a.eval x = .slice (some p) m c) (hm : m = l2.length) (hr : Rd w B 2 (some p) m (cellsN l2)) (hm0 : 0 < m) (hlen : l.length + m ≤ 1000000) (hbase : base ≤ w.heap.size)
    (hK : ∀ v' w', OwnS w' base v' (l ++ l2) → w.grownBy w' v.ownBlock → wpList P ops Q rest (a.put o.dst v') w') :
    wpList P ops Q (o :: rest) a w := by
  refine wpList_plain hgd fun K hK' => ?_
  obtain ⟨v', w', hrun, r1, r2⟩ := run_appendS (P := P) w t o.type E h (c := c) hm hr hm0 hlen hbase
  unfold Oper.wp execOp
  simp only [ho, resolve, invoke, builtin, Sem.run_bind, Sem.run_pure, Result.andThen_ok, List.map_toArray, List.map_cons, List.map_nil, hs, hx, hrun]
  exact hK' _ _ (hK v' w' r1 r2)
end Go.Proofs.YtoagnajljdbobabDoor
