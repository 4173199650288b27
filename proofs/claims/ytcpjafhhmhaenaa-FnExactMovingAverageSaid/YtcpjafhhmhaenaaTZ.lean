/- What the operations of a drawn region yield: numbers in bounds, rows of numbers, boxes; the reader's calls. -/
import Derived.Test.YtcpjafhhmhaenaaTY
import Derived.Test.YtcpjafhhmhaenaaR
import Derived.Great.BuildSlice
namespace Go.Proofs.Ytcpjafhhmhaenaa
open Go.RowKit

def intP (lo hi : Int) : Value → Prop := fun v => ∃ x : Int, v = .int .i64 x ∧ lo ≤ x ∧ x ≤ hi
def boolP : Value → Prop := fun v => ∃ b, v = .bool b
def isP (u : Value) : Value → Prop := fun v => v = u
inductive RT
  | val (p : Value → Prop)
  | row (n : Nat) (p : Value → Prop)
  | cell (p : Value → Prop)
  | box (cs : Array Value) (t : TypeId)
def RT.has (g B : Nat) (w : World) : RT → Value → Prop
  | .val p, v => p v
  | .row n p, v => ∃ k cs t, v = .slice (some ⟨k, 0, none⟩) n n ∧ k ≠ g ∧ w.heap[k]? = some (.cells cs t (0, 0)) ∧ cs.size = n ∧ ∀ (i : Nat) (h : i < cs.size), p cs[i]
  | .cell p, v => ∃ k i u, v = .pointer (some ⟨k, i, none⟩) ∧ k ≠ g ∧ k < w.heap.size ∧ w.cell? ⟨k, i, none⟩ = some u ∧ p u
  | .box cs t, v => ∃ k, v = .pointer (some ⟨k, 0, none⟩) ∧ k ≠ g ∧ B ≤ k ∧ w.heap[k]? = some (.cells cs t (0, 0))
def LeG (g : Nat) (w w' : World) : Prop := Fr w.heap.size g w w'
theorem RT.has_le {g B : Nat} {w w' : World} {R : RT} {v : Value} (h : R.has g B w v) (hl : LeG g w w') : R.has g B w' v := by
  cases R with
  | val p => exact h
  | row n p =>
    obtain ⟨k, cs, t, h1, h2, h3, h4⟩ := h
    exact ⟨k, cs, t, h1, h2, (hl.block k (blk_lt h3) h2).trans h3, h4⟩
  | cell p =>
    obtain ⟨k, i, u, h1, h2, h3, h4, h5⟩ := h
    exact ⟨k, i, u, h1, h2, Nat.lt_of_lt_of_le h3 hl.size, ((hl.kept k h3 h2 h3).1 i).trans h4, h5⟩
  | box cs t =>
    obtain ⟨k, h1, h2, h3, h4⟩ := h
    exact ⟨k, h1, h2, h3, (hl.block k (blk_lt h4) h2).trans h4⟩
def SG (g B : Nat) (T : Nat → RT) (j : Nat) (v : Value) (w : World) : Prop := (T j).has g B w v
def MG (g P0 : Nat) (w0 : World) (n : Nat) (w : World) : Prop := Rdr w g (P0 + n) ∧ Fr w0.heap.size g w0 w
theorem SG_le {g B : Nat} {T : Nat → RT} (j : Nat) (v : Value) (w w' : World) (h : SG g B T j v w) (hl : LeG g w w') : SG g B T j v w' := RT.has_le h hl
theorem LeG.refl (g : Nat) (w : World) : LeG g w w := Fr.refl _ _ _
theorem LeG.alloc (g : Nat) (w : World) (o : Obj) : LeG g w (w.alloc o) := (Fr.refl _ _ _).alloc (Nat.le_refl _) o
theorem MG.le {g P0 n k : Nat} {w0 w w' : World} (h : MG g P0 w0 n w) (hr : Rdr w' g (P0 + (n + k))) (hl : LeG g w w') : MG g P0 w0 (n + k) w' := ⟨hr, h.2.trans (hl.mono h.2.size)⟩
theorem MG.alloc {g P0 n : Nat} {w0 w : World} (h : MG g P0 w0 n w) (o : Obj) : MG g P0 w0 n (w.alloc o) := ⟨h.1.below ((Below.refl _ _).alloc (Nat.le_refl _) _), h.2.alloc h.2.size o⟩

section
variable {P : Program} {Q : Exit → Act → World → Prop} {g P0 : Nat} {w0 : World} {T : Nat → RT} {wt : Nat → Nat} {ops : Array Oper} {a0 : Act} {i : Nat} {o : Oper}
/-- What is known of an operand when operation o comes up. -/
def Knows (g B : Nat) (T : Nat → RT) (ops : Array Oper) (a0 : Act) (o : Oper) (x : Operand) (R : RT) : Prop :=
  ∀ (a : Act) (w : World), (∀ t, (∀ j, dstOf ops j ≠ some t) → a.tmps[t]? = a0.tmps[t]?) →
    (∀ e ∈ o.after, Region.binds .any e = true → ∀ d, dstOf ops e.on = some d → ∃ v, a.tmps[d]? = some v ∧ SG g B T e.on v w) → R.has g B w (a.eval x)
theorem knows_const {u : Value} {p : Value → Prop} (h : p u) : Knows g w0.heap.size T ops a0 o (.const u) (.val p) := fun _ _ _ _ => h
theorem eval_tmp {a : Act} {t : Nat} {u : Value} (h : a.tmps[t]? = some u) : a.eval (.tmp t) = u := by
  show a.tmps.getD t undef = u
  rw [Array.getD_eq_getD_getElem?, h]; rfl
theorem knows_dep (j : Nat) {d : Nat} (hj : (o.after.any fun e => e.on == j && Region.binds .any e) = true) (hd : dstOf ops j = some d) : Knows g w0.heap.size T ops a0 o (.tmp d) (T j) := by
  intro a w _ hdep
  rw [Array.any_eq_true] at hj
  obtain ⟨k, hk, h⟩ := hj
  rw [Bool.and_eq_true] at h
  have e1 : o.after[k].on = j := by simpa using h.1
  obtain ⟨v, hv, hs⟩ := hdep _ (Array.getElem_mem hk) h.2 d (by rw [e1]; exact hd)
  rw [eval_tmp hv]
  rw [e1] at hs
  exact hs
def notDst (ops : Array Oper) (t : Nat) : Bool := !(dstsOf ops).contains t
theorem notDst_spec {t : Nat} (h : notDst ops t = true) (j : Nat) : dstOf ops j ≠ some t := by
  intro e
  unfold notDst at h
  have : t ∈ dstsOf ops := dstsOf_mem.2 ⟨j, e⟩
  simp [this] at h
theorem knows_old {t : Nat} {u : Value} {p : Value → Prop} (hn : notDst ops t = true) (hu : a0.tmps[t]? = some u) (h : p u) : Knows g w0.heap.size T ops a0 o (.tmp t) (.val p) := by
  intro a w hold _
  have := hold t fun j => notDst_spec hn j
  rw [eval_tmp (this.trans hu)]
  exact h
theorem Knows.mono {B : Nat} {x : Operand} {p q : Value → Prop} (h : Knows g B T ops a0 o x (.val p)) (hpq : ∀ v, p v → q v) : Knows g B T ops a0 o x (.val q) := fun a w h1 h2 => hpq _ (h a w h1 h2)
theorem intP_mono {l h l' h' : Int} (h1 : l' ≤ l) (h2 : h ≤ h') : ∀ v, intP l h v → intP l' h' v := fun _ ⟨x, e, a, b⟩ => ⟨x, e, by omega, by omega⟩

/-- An operation that only yields. -/
theorem ok_pure (hw : wt i = 0) (h : ∀ (a : Act) (w : World), (∀ t, (∀ j, dstOf ops j ≠ some t) → a.tmps[t]? = a0.tmps[t]?) →
    (∀ e ∈ o.after, Region.binds .any e = true → ∀ d, dstOf ops e.on = some d → ∃ v, a.tmps[d]? = some v ∧ SG g w0.heap.size T e.on v w) → MG g P0 w0 0 w ∨ True →
    ∃ v, (execOp a.eval o).run P w = .ok (.value v) w ∧ (T i).has g w0.heap.size w v) : OpOK P Q (SG g w0.heap.size T) (LeG g) (MG g P0 w0) wt ops a0 i o := by
  intro a w n _ hold hdep hM _
  obtain ⟨v, hrun, hv⟩ := h a w hold hdep (.inr trivial)
  unfold Oper.wp
  rw [hrun]
  exact ⟨⟨v, rfl, hv⟩, LeG.refl _ _, by rw [hw]; exact hM⟩
theorem ok_move {x : Operand} (hw : wt i = 0) (ho : o.op = .move x ∨ o.op = .assign x) (hk : Knows g w0.heap.size T ops a0 o x (T i)) : OpOK P Q (SG g w0.heap.size T) (LeG g) (MG g P0 w0) wt ops a0 i o :=
  ok_pure hw fun a w h1 h2 _ => ⟨a.eval x, by rcases ho with h | h <;> simp [execOp, h], hk a w h1 h2⟩
theorem ok_add {x y : Operand} {t t' : TypeId} {l1 h1 l2 h2 : Int} (hw : wt i = 0) (ho : o.op = .binOp .add t x y t') (hx : Knows g w0.heap.size T ops a0 o x (.val (intP l1 h1))) (hy : Knows g w0.heap.size T ops a0 o y (.val (intP l2 h2)))
    (hb : -9223372036854775808 ≤ l1 + l2 ∧ h1 + h2 ≤ 9223372036854775807) (hT : T i = .val (intP (l1 + l2) (h1 + h2))) : OpOK P Q (SG g w0.heap.size T) (LeG g) (MG g P0 w0) wt ops a0 i o :=
  ok_pure hw fun a w k1 k2 _ => by
    obtain ⟨m, em, m1, m2⟩ := hx a w k1 k2
    obtain ⟨n, en, n1, n2⟩ := hy a w k1 k2
    have hwr : IntKind.i64.wrap (m + n) = m + n := IntWalk.i64_in _ (by omega)
    refine ⟨.int .i64 (m + n), ?_, by rw [hT]; exact ⟨_, rfl, by omega, by omega⟩⟩
    unfold execOp
    rw [ho]
    simp only
    rw [em, en]
    simp [go_sem, hwr]
theorem ok_sub {x y : Operand} {t t' : TypeId} {l1 h1 l2 h2 : Int} (hw : wt i = 0) (ho : o.op = .binOp .sub t x y t') (hx : Knows g w0.heap.size T ops a0 o x (.val (intP l1 h1))) (hy : Knows g w0.heap.size T ops a0 o y (.val (intP l2 h2)))
    (hb : -9223372036854775808 ≤ l1 - h2 ∧ h1 - l2 ≤ 9223372036854775807) (hT : T i = .val (intP (l1 - h2) (h1 - l2))) : OpOK P Q (SG g w0.heap.size T) (LeG g) (MG g P0 w0) wt ops a0 i o :=
  ok_pure hw fun a w k1 k2 _ => by
    obtain ⟨m, em, m1, m2⟩ := hx a w k1 k2
    obtain ⟨n, en, n1, n2⟩ := hy a w k1 k2
    have hwr : IntKind.i64.wrap (m - n) = m - n := IntWalk.i64_in _ (by omega)
    refine ⟨.int .i64 (m - n), ?_, by rw [hT]; exact ⟨_, rfl, by omega, by omega⟩⟩
    unfold execOp
    rw [ho]
    simp only
    rw [em, en]
    simp [go_sem, hwr]
theorem ok_mul {x y : Operand} {t t' : TypeId} {l1 h1 l2 h2 lo hi : Int} (hw : wt i = 0) (ho : o.op = .binOp .mul t x y t') (hx : Knows g w0.heap.size T ops a0 o x (.val (intP l1 h1))) (hy : Knows g w0.heap.size T ops a0 o y (.val (intP l2 h2)))
    (hb : ∀ m n : Int, l1 ≤ m → m ≤ h1 → l2 ≤ n → n ≤ h2 → lo ≤ m * n ∧ m * n ≤ hi) (hr : -9223372036854775808 ≤ lo ∧ hi ≤ 9223372036854775807) (hT : T i = .val (intP lo hi)) : OpOK P Q (SG g w0.heap.size T) (LeG g) (MG g P0 w0) wt ops a0 i o :=
  ok_pure hw fun a w k1 k2 _ => by
    obtain ⟨m, em, m1, m2⟩ := hx a w k1 k2
    obtain ⟨n, en, n1, n2⟩ := hy a w k1 k2
    have hmn := hb m n m1 m2 n1 n2
    have hwr : IntKind.i64.wrap (m * n) = m * n := IntWalk.i64_in _ (by omega)
    refine ⟨.int .i64 (m * n), ?_, by rw [hT]; exact ⟨_, rfl, by omega, by omega⟩⟩
    unfold execOp
    rw [ho]
    simp only
    rw [em, en]
    simp [go_sem, hwr]
theorem ok_eql {x y : Operand} {t t' : TypeId} {l1 h1 l2 h2 : Int} (hw : wt i = 0) (ho : o.op = .binOp .eql t x y t') (hx : Knows g w0.heap.size T ops a0 o x (.val (intP l1 h1))) (hy : Knows g w0.heap.size T ops a0 o y (.val (intP l2 h2)))
    (hT : T i = .val boolP) : OpOK P Q (SG g w0.heap.size T) (LeG g) (MG g P0 w0) wt ops a0 i o :=
  ok_pure hw fun a w k1 k2 _ => by
    obtain ⟨m, em, m1, m2⟩ := hx a w k1 k2
    obtain ⟨n, en, n1, n2⟩ := hy a w k1 k2
    refine ⟨.bool (m == n), ?_, by rw [hT]; exact ⟨_, rfl⟩⟩
    unfold execOp
    rw [ho]
    simp only
    rw [em, en]
    simp [go_sem]
theorem ok_neg {x : Operand} {t : TypeId} {l1 h1 : Int} (hw : wt i = 0) (ho : o.op = .unOp .neg t x) (hx : Knows g w0.heap.size T ops a0 o x (.val (intP l1 h1)))
    (hb : -9223372036854775807 ≤ l1 ∧ h1 ≤ 9223372036854775807) (hT : T i = .val (intP (-h1) (-l1))) : OpOK P Q (SG g w0.heap.size T) (LeG g) (MG g P0 w0) wt ops a0 i o :=
  ok_pure hw fun a w k1 k2 _ => by
    obtain ⟨m, em, m1, m2⟩ := hx a w k1 k2
    have hwr : IntKind.i64.wrap (-m) = -m := IntWalk.i64_in _ (by omega)
    refine ⟨.int .i64 (-m), ?_, by rw [hT]; exact ⟨_, rfl, by omega, by omega⟩⟩
    unfold execOp
    rw [ho]
    simp only
    rw [em]
    simp [go_sem, hwr]
theorem parts_eval' (a : Act) (parts : Array (Nat × Operand)) (xs : List Operand) (h : parts.toList = (xs.zipIdx 0).map fun x => (x.2, x.1)) :
    (parts.map fun (i, x) => (i, a.eval x)).toList = ((xs.map a.eval).zipIdx 0).map fun x => (x.2, x.1) := by
  rw [Array.toList_map, h, List.zipIdx_map, List.map_map, List.map_map]
  rfl
theorem ok_row {t e : TypeId} {n : Nat} {parts : Array (Nat × Operand)} {xs : List Operand} {p : Value → Prop} (hw : wt i = 0) (ho : o.op = .buildSlice t n parts) (hg : g < w0.heap.size)
    (hu : P.underlying t = some (.slice e)) (hsz : (P.info? e).map (·.size) = some 1) (hz : ((P.info? e).bind (·.zero)).isSome = true) (hparts : parts.toList = (xs.zipIdx 0).map fun x => (x.2, x.1))
    (hn : n = xs.length) (hpos : 0 < n) (hsmall : n ≤ 2 ^ 24) (hk : ∀ x ∈ xs, Knows g w0.heap.size T ops a0 o x (.val p)) (h1 : ∀ v, p v → v.cells = #[v]) (hT : T i = .row n p) :
    OpOK P Q (SG g w0.heap.size T) (LeG g) (MG g P0 w0) wt ops a0 i o := by
  intro a w m _ hold hdep hM _
  have hvs : ∀ v ∈ xs.map a.eval, p v := by
    intro v hv
    obtain ⟨x, hx, rfl⟩ := List.mem_map.1 hv
    exact hk x hx a w hold hdep
  cases hie : P.info? e with
  | none => simp [hie] at hsz
  | some ie =>
    simp only [hie, Option.map_some, Option.some.injEq, Option.bind_some] at hsz hz
    obtain ⟨z, hzz⟩ := Option.isSome_iff_exists.1 hz
    refine wp_buildSlice t e n parts ho (xs.map a.eval).toArray ie z hu hie hzz (by rw [hsz]; omega) (by rw [hsz]; omega) ?_ ?_
    · rw [parts_eval' a parts xs hparts, hsz]
      exact Great.fill_flat _ _ (fun v hv => h1 v (hvs v hv)) (by simp [hn])
    · refine ⟨⟨_, rfl, ?_⟩, LeG.alloc _ _ _, by rw [hw]; exact hM.alloc _⟩
      show (T i).has _ _ _ _
      rw [hT]
      have hgw : g < w.heap.size := Nat.lt_of_lt_of_le hg hM.2.size
      refine ⟨_, _, _, rfl, by omega, heap_alloc_new w _, by simp [hn], fun k hk => ?_⟩
      exact hvs _ (by rw [← List.mem_toArray (l := xs.map a.eval)]; exact Array.getElem_mem hk)
theorem add_off (k j : Nat) : (⟨k, 0, none⟩ : Addr).add j = ⟨k, j, none⟩ := by unfold Addr.add; split <;> simp_all
theorem ok_index {t : TypeId} {x y : Operand} {n : Nat} {p : Value → Prop} {lo hi : Int} (hw : wt i = 0) (ho : o.op = .indexAddr t x y) (hu : P.underlying t = some (.slice (P.elem t))) (hsz : (P.info? (P.elem t)).map (·.size) = some 1)
    (hx : Knows g w0.heap.size T ops a0 o x (.row n p)) (hy : Knows g w0.heap.size T ops a0 o y (.val (intP lo hi))) (hb : 0 ≤ lo ∧ hi < n) (hT : T i = .cell p) : OpOK P Q (SG g w0.heap.size T) (LeG g) (MG g P0 w0) wt ops a0 i o :=
  ok_pure hw fun a w k1 k2 _ => by
    obtain ⟨k, cs, t', ex, hkg, hblk, hn, hp⟩ := hx a w k1 k2
    obtain ⟨m, em, m1, m2⟩ := hy a w k1 k2
    have hm : m.toNat < cs.size := by omega
    refine ⟨.pointer (some ⟨k, m.toNat, none⟩), ?_, by rw [hT]; exact ⟨k, m.toNat, cs[m.toNat], rfl, hkg, blk_lt hblk, by rw [blk_cell hblk]; exact Array.getElem?_eq_getElem hm, hp _ hm⟩⟩
    unfold execOp
    rw [ho]
    simp only
    rw [ex, em]
    cases hie : P.info? (P.elem t) with
    | none => simp [hie] at hsz
    | some ie =>
      simp only [hie, Option.map_some, Option.some.injEq] at hsz
      simp only [Sem.run_bind, run_indexAt_slice w t _ _ _ _ _ hu]
      rw [if_pos (by omega)]
      simp [sizeOf, typeInfo, hie, hsz, add_off]
theorem ok_load {t : TypeId} {x : Operand} {p : Value → Prop} (hw : wt i = 0) (ho : o.op = .load t x) (hrun : ∀ (w : World) (k j : Nat) (u : Value), w.cell? ⟨k, j, none⟩ = some u → (Instr.loadAt t (.pointer (some ⟨k, j, none⟩))).run P w = .ok u w)
    (hx : Knows g w0.heap.size T ops a0 o x (.cell p)) (hT : T i = .val p) : OpOK P Q (SG g w0.heap.size T) (LeG g) (MG g P0 w0) wt ops a0 i o :=
  ok_pure hw fun a w k1 k2 _ => by
    obtain ⟨k, j, u, ex, hkg, hk, hc, hp⟩ := hx a w k1 k2
    refine ⟨u, ?_, by rw [hT]; exact hp⟩
    unfold execOp
    rw [ho]
    simp only
    rw [ex]
    simp only [Sem.run_bind, hrun w k j u hc, Result.andThen_ok, Sem.run_pure]
theorem ok_alloc {t : TypeId} {cs : Array Value} (hw : wt i = 0) (ho : o.op = .alloc t) (hg : g < w0.heap.size) (hrun : ∀ (w : World), (Instr.alloc t true (.tuple #[])).run P w = .ok (.pointer (some ⟨w.heap.size, 0, none⟩)) (w.alloc (.cells cs t)))
    (hT : T i = .box cs t) : OpOK P Q (SG g w0.heap.size T) (LeG g) (MG g P0 w0) wt ops a0 i o := by
  intro a w m _ hold hdep hM _
  unfold Oper.wp execOp
  rw [ho]
  simp only
  simp only [Sem.run_bind, hrun w, Result.andThen_ok, Sem.run_pure]
  have hsz := hM.2.size
  refine ⟨⟨_, rfl, ?_⟩, LeG.alloc _ _ _, by rw [hw]; exact hM.alloc _⟩
  show (T i).has _ _ _ _
  rw [hT]
  exact ⟨_, rfl, by omega, by omega, heap_alloc_new w _⟩
theorem ok_build {t : TypeId} {parts : Array (Nat × Operand)} (hw : wt i = 0) (ho : o.op = .build t parts)
    (h : ∀ (a : Act) (w : World), (∀ t, (∀ j, dstOf ops j ≠ some t) → a.tmps[t]? = a0.tmps[t]?) →
      (∀ e ∈ o.after, Region.binds .any e = true → ∀ d, dstOf ops e.on = some d → ∃ v, a.tmps[d]? = some v ∧ SG g w0.heap.size T e.on v w) →
      ∃ cells, P.built t (parts.map fun (i, x) => (i, a.eval x)).toList = some cells ∧ (T i).has g w0.heap.size w (.agg cells)) : OpOK P Q (SG g w0.heap.size T) (LeG g) (MG g P0 w0) wt ops a0 i o :=
  ok_pure hw fun a w k1 k2 _ => by
    obtain ⟨cells, hb, hh⟩ := h a w k1 k2
    refine ⟨.agg cells, ?_, hh⟩
    unfold execOp
    rw [ho]
    simp only
    simp only [Sem.run_bind, run_build w t _ cells hb, Result.andThen_ok, Sem.run_pure]
theorem ok_call {f : FuncId} {args : Array Operand} {tys : Array TypeId} (ho : o.op = .call { callee := .value (.func f), args := args, argTypes := tys }) (hcf : ∀ (vs : Array Value) (w : World), (callFunc f vs).run P w = .ok (.enter f vs) w)
    (h : ∀ (a : Act) (w : World) (n : Nat), (∀ t, (∀ j, dstOf ops j ≠ some t) → a.tmps[t]? = a0.tmps[t]?) →
      (∀ e ∈ o.after, Region.binds .any e = true → ∀ d, dstOf ops e.on = some d → ∃ v, a.tmps[d]? = some v ∧ SG g w0.heap.size T e.on v w) → MG g P0 w0 n w → n + wt i ≤ totL wt ops.size →
      Calls P f (args.map a.eval) w fun e w' => ∃ v, e = .returned v ∧ (T i).has g w0.heap.size w' v ∧ LeG g w w' ∧ Rdr w' g (P0 + (n + wt i))) : OpOK P Q (SG g w0.heap.size T) (LeG g) (MG g P0 w0) wt ops a0 i o := by
  intro a w n _ hold hdep hM hn
  have hc := h a w n hold hdep hM hn
  unfold Oper.wp
  have he : execOp a.eval o = callFunc f (args.map a.eval) := by
    unfold execOp
    rw [ho]
    show callFunc f (#[] ++ args.map a.eval ++ #[]) = _
    simp
  rw [he, hcf]
  show Calls P f (args.map a.eval) w _
  refine hc.mono ?_
  rintro e w' ⟨v, rfl, hv, hl, hr⟩
  exact ⟨⟨v, rfl, hv⟩, hl, hM.le hr hl⟩
theorem ok_load_old {t : TypeId} {x : Operand} {k j : Nat} {u : Value} {p : Value → Prop} (hw : wt i = 0) (ho : o.op = .load t x) (hrun : ∀ (w : World) (k j : Nat) (u : Value), w.cell? ⟨k, j, none⟩ = some u → (Instr.loadAt t (.pointer (some ⟨k, j, none⟩))).run P w = .ok u w)
    (hx : Knows g w0.heap.size T ops a0 o x (.val (isP (.pointer (some ⟨k, j, none⟩))))) (hc : w0.cell? ⟨k, j, none⟩ = some u) (hk : k < w0.heap.size) (hkg : k ≠ g) (hT : T i = .val p) (hp : p u) : OpOK P Q (SG g w0.heap.size T) (LeG g) (MG g P0 w0) wt ops a0 i o := by
  intro a w n _ hold hdep hM _
  have ex : a.eval x = .pointer (some ⟨k, j, none⟩) := hx a w hold hdep
  have hcw := ((hM.2.kept k hk hkg hk).1 j).trans hc
  unfold Oper.wp execOp
  rw [ho]
  simp only
  rw [ex]
  simp only [Sem.run_bind, hrun w k j u hcw, Result.andThen_ok, Sem.run_pure]
  refine ⟨⟨u, rfl, ?_⟩, LeG.refl _ _, by rw [hw]; exact hM⟩
  show (T i).has _ _ _ _
  rw [hT]
  exact hp
theorem ok_field {s : TypeId} {x : Operand} {f k c : Nat} (hw : wt i = 0) (ho : o.op = .fieldAddr s x f) (hrun : ∀ (w : World), (Instr.fieldAt s (.pointer (some ⟨k, 0, none⟩)) f).run P w = .ok (.pointer (some ⟨k, c, none⟩)) w)
    (hx : Knows g w0.heap.size T ops a0 o x (.val (isP (.pointer (some ⟨k, 0, none⟩))))) (hT : T i = .val (isP (.pointer (some ⟨k, c, none⟩)))) : OpOK P Q (SG g w0.heap.size T) (LeG g) (MG g P0 w0) wt ops a0 i o :=
  ok_pure hw fun a w k1 k2 _ => by
    have ex : a.eval x = .pointer (some ⟨k, 0, none⟩) := hx a w k1 k2
    refine ⟨.pointer (some ⟨k, c, none⟩), ?_, by rw [hT]; rfl⟩
    unfold execOp
    rw [ho]
    simp only
    rw [ex]
    simp only [Sem.run_bind, hrun w, Result.andThen_ok, Sem.run_pure]
theorem kint (n : Int) {lo hi : Int} (h : lo ≤ n ∧ n ≤ hi) : Knows g w0.heap.size T ops a0 o (.const (.int .i64 n)) (.val (intP lo hi)) := knows_const ⟨n, rfl, h.1, h.2⟩
end
theorem last_store_row {P : Program} {o : Oper} {a : Act} {w : World} {K : Act → World → Prop} {Q : Exit → Act → World → Prop} {t ty : TypeId} {x y : Operand} {q : Nat} {old cells : Array Value} (ho : o.op = .store t x y) (hd : o.dst = none)
    (hx : a.eval x = .pointer (some ⟨q, 0, none⟩)) (hy : a.eval y = .agg cells) (hb : w.heap[q]? = some (.cells old ty (0, 0))) (hi : (P.info? t).map (·.size) = some cells.size) (hs : old.size = cells.size) (h1 : cells.all (·.oneCell') = true)
    (h : K a (w.setRow q cells)) : o.wp P a w K Q := by
  unfold Oper.wp execOp
  rw [ho]
  simp only
  rw [hx, hy]
  simp only [Instr.storeAt, Instr.sureAddr, Sem.run_bind, Sem.run_pure, Result.andThen_ok, run_storeVar_row w q ty t old cells hb hi hs h1]
  show K (a.put o.dst undef) _
  rw [hd]
  exact h
theorem last_store_cell {P : Program} {o : Oper} {a : Act} {w : World} {K : Act → World → Prop} {Q : Exit → Act → World → Prop} {t : TypeId} {x y : Operand} {q c : Nat} {u : Value} (ho : o.op = .store t x y) (hd : o.dst = none)
    (hx : a.eval x = .pointer (some ⟨q, c, none⟩)) (hy : a.eval y = u) (hrun : (Instr.storeAt t (.pointer (some ⟨q, c, none⟩)) u).run P w = .ok () (w.setCell ⟨q, c, none⟩ u))
    (h : K a (w.setCell ⟨q, c, none⟩ u)) : o.wp P a w K Q := by
  unfold Oper.wp execOp
  rw [ho]
  simp only
  rw [hx, hy]
  simp only [Sem.run_bind, Sem.run_pure, Result.andThen_ok, hrun]
  show K (a.put o.dst undef) _
  rw [hd]
  exact h
theorem kall_nil {K : Operand → Prop} : ∀ x ∈ ([] : List Operand), K x := fun _ h => by cases h
theorem kall_cons {K : Operand → Prop} {x : Operand} {l : List Operand} (h : K x) (hl : ∀ y ∈ l, K y) : ∀ y ∈ x :: l, K y := fun y hy => by
  rcases List.mem_cons.1 hy with rfl | h'
  · exact h
  · exact hl y h'
theorem intP_one {l h : Int} : ∀ v, intP l h v → v.cells = #[v] := fun _ ⟨_, e, _⟩ => by subst e; rfl
theorem cf_of {P : Program} {f : FuncId} {fn : Func} (hf : P.funcs[f]? = some fn) (hn : (fn.name == "runtime.NumGoroutine") = false) (hb : fn.body.isNone = false) (vs : Array Value) (w : World) : (callFunc f vs).run P w = .ok (.enter f vs) w := by
  simp [callFunc, go_sem, hf]
  rw [if_neg (by simpa using hn), if_neg (by intro e; rw [e] at hb; cases hb)]
end Go.Proofs.Ytcpjafhhmhaenaa
