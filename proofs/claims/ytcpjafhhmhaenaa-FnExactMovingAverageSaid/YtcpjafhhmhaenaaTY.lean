/- A region that draws its order, told by what each of its operations yields: one obligation an operation, whatever the order. Nothing of the translated program. -/
import Derived.Orders
import Derived.Deep.Draws
import Derived.Below
import Derived.WalkKit
namespace Go.Proofs.Ytcpjafhhmhaenaa
open Go.RowKit

def dstOf (ops : Array Oper) (j : Nat) : Option Tmp := (ops[j]?).bind (·.dst)
def cntL (wt : Nat → Nat) (n : Nat) (L : Array Bool) : Nat := ((List.range n).map fun j => if L.getD j false then wt j else 0).sum
theorem sum_map_le {f g : Nat → Nat} : ∀ (l : List Nat), (∀ j ∈ l, f j ≤ g j) → (l.map f).sum ≤ (l.map g).sum
  | [], _ => Nat.le_refl _
  | x :: l, h => by
    rw [List.map_cons, List.map_cons, List.sum_cons, List.sum_cons]
    have h1 := h x List.mem_cons_self
    have h2 := sum_map_le l fun j hj => h j (List.mem_cons_of_mem _ hj)
    omega
theorem sum_map_one {f g : Nat → Nat} {i k : Nat} : ∀ (l : List Nat), l.Nodup → i ∈ l → (∀ j ∈ l, j ≠ i → f j = g j) → f i = g i + k → (l.map f).sum = (l.map g).sum + k
  | [], _, hm, _, _ => by cases hm
  | x :: l, hd, hm, h, hi => by
    rw [List.map_cons, List.map_cons, List.sum_cons, List.sum_cons]
    rw [List.nodup_cons] at hd
    rcases List.mem_cons.1 hm with rfl | hm'
    · have : (l.map f) = (l.map g) := List.map_congr_left fun j hj => h j (List.mem_cons_of_mem _ hj) (fun e => hd.1 (e ▸ hj))
      rw [this, hi]; omega
    · have := sum_map_one l hd.2 hm' (fun j hj hne => h j (List.mem_cons_of_mem _ hj) hne) hi
      have hx := h x List.mem_cons_self (fun e => hd.1 (e ▸ hm'))
      omega
theorem getD_set (L : Array Bool) (i j : Nat) (b : Bool) (hi : i < L.size) : (L.setIfInBounds i true).getD j b = if j = i then true else L.getD j b := by
  rw [Array.getD_eq_getD_getElem?, Array.getD_eq_getD_getElem?, Array.getElem?_setIfInBounds]
  by_cases h : i = j
  · subst h; simp [hi]
  · rw [if_neg h, if_neg (fun e => h e.symm)]
theorem cntL_set (wt : Nat → Nat) (n : Nat) (L : Array Bool) (i : Nat) (hn : L.size = n) (hi : i < n) (hf : L.getD i false = false) : cntL wt n (L.setIfInBounds i true) = cntL wt n L + wt i := by
  unfold cntL
  refine sum_map_one (i := i) _ List.nodup_range (List.mem_range.2 hi) (fun j _ hne => ?_) ?_
  · rw [getD_set _ _ _ _ (by omega), if_neg hne]
  · rw [getD_set _ _ _ _ (by omega), if_pos rfl, hf]; simp
def totL (wt : Nat → Nat) (n : Nat) : Nat := ((List.range n).map wt).sum
theorem cntL_le (wt : Nat → Nat) (n : Nat) (L : Array Bool) : cntL wt n L ≤ totL wt n := sum_map_le _ fun j _ => by split <;> omega

/-- What an operation owes, whatever was done ahead of it. -/
def OpOK (P : Program) (Q : Exit → Act → World → Prop) (S : Nat → Value → World → Prop) (Le : World → World → Prop) (M : Nat → World → Prop) (wt : Nat → Nat) (ops : Array Oper) (a0 : Act) (i : Nat) (o : Oper) : Prop :=
  ∀ (a : Act) (w : World) (n : Nat), a.tmps.size = a0.tmps.size → (∀ t, (∀ j, dstOf ops j ≠ some t) → a.tmps[t]? = a0.tmps[t]?) →
    (∀ e ∈ o.after, Region.binds .any e = true → ∀ d, dstOf ops e.on = some d → ∃ v, a.tmps[d]? = some v ∧ S e.on v w) →
    M n w → n + wt i ≤ totL wt ops.size →
    o.wp P a w (fun a' w' => (∃ v, a' = a.put o.dst v ∧ S i v w') ∧ Le w w' ∧ M (n + wt i) w') Q

structure RegI (S : Nat → Value → World → Prop) (M : Nat → World → Prop) (wt : Nat → Nat) (ops : Array Oper) (a0 : Act) (m : Nat) (L : Array Bool) (a : Act) (w : World) : Prop where
  lsize : L.size = ops.size
  size : a.tmps.size = a0.tmps.size
  defers : a.defers = a0.defers
  old : ∀ t, (∀ j, dstOf ops j ≠ some t) → a.tmps[t]? = a0.tmps[t]?
  new : ∀ j d, L.getD j false = true → dstOf ops j = some d → ∃ v, a.tmps[d]? = some v ∧ S j v w
  down : ∀ (j : Nat) (o : Oper), ops[j]? = some o → L.getD j false = true → ∀ e ∈ o.after, Region.binds .any e = true → L.getD e.on false = true
  mem : M (cntL wt ops.size L) w
  fresh : ∀ i, m ≤ i → L.getD i false = false

/-- What is asked of the region's operations themselves: each is unguarded, waits for earlier ones alone, and has a slot of its own. -/
structure RegOK (ops : Array Oper) (a0 : Act) : Prop where
  guard : ∀ (i : Nat) (o : Oper), ops[i]? = some o → o.guard = none
  back : ∀ (i : Nat) (o : Oper), ops[i]? = some o → ∀ e ∈ o.after, Region.binds .any e = true → e.on < i
  own : ∀ i j d, dstOf ops i = some d → dstOf ops j = some d → i = j
  range : ∀ i d, dstOf ops i = some d → d < a0.tmps.size

def regChk (ops : Array Oper) (n : Nat) : Bool :=
  (List.range ops.size).all fun i => (match ops[i]? with | some o => o.guard.isNone && (o.after.all fun e => !Region.binds .any e || decide (e.on < i)) && (match o.dst with | some d => decide (d < n) | none => true) | none => true) &&
    (List.range ops.size).all fun j => decide (i = j) || (dstOf ops i).isNone || decide (dstOf ops i ≠ dstOf ops j)
theorem regOK_of {ops : Array Oper} {a0 : Act} (h : regChk ops a0.tmps.size = true) : RegOK ops a0 := by
  have key : ∀ (i : Nat) (o : Oper), ops[i]? = some o → (o.guard.isNone = true ∧ (o.after.all fun e => !Region.binds .any e || decide (e.on < i)) = true ∧ (match o.dst with | some d => decide (d < a0.tmps.size) | none => true) = true) ∧
      ∀ j, j < ops.size → (decide (i = j) || (dstOf ops i).isNone || decide (dstOf ops i ≠ dstOf ops j)) = true := by
    intro i o ho
    unfold regChk at h
    rw [List.all_eq_true] at h
    have h1 := h i (List.mem_range.2 (Array.getElem?_eq_some_iff.1 ho).1)
    rw [ho] at h1
    simp only [Bool.and_eq_true, List.all_eq_true] at h1
    exact ⟨⟨h1.1.1.1, h1.1.1.2, h1.1.2⟩, fun j hj => h1.2 j (List.mem_range.2 hj)⟩
  have hd : ∀ i d, dstOf ops i = some d → ∃ o, ops[i]? = some o ∧ o.dst = some d := by
    intro i d hi
    unfold dstOf at hi
    cases ho : ops[i]? with
    | none => rw [ho] at hi; cases hi
    | some o => rw [ho] at hi; exact ⟨o, rfl, hi⟩
  refine ⟨fun i o ho => by simpa using (key i o ho).1.1, fun i o ho e he hb => ?_, fun i j d hi hj => ?_, fun i d hi => ?_⟩
  · have h2 := (key i o ho).1.2.1
    rw [Array.all_eq_true] at h2
    obtain ⟨k, hk, rfl⟩ := Array.mem_iff_getElem.1 he
    have := h2 k hk
    rw [hb] at this
    simpa using this
  · obtain ⟨o, ho, _⟩ := hd i d hi
    obtain ⟨o', ho', _⟩ := hd j d hj
    have h2 := (key i o ho).2 j (Array.getElem?_eq_some_iff.1 ho').1
    rw [hi, hj] at h2
    simpa using h2
  · obtain ⟨o, ho, hod⟩ := hd i d hi
    have h2 := (key i o ho).1.2.2
    rw [hod] at h2
    simpa using h2
def AllFrom (p : Nat → Oper → Prop) : Nat → List Oper → Prop
  | _, [] => True
  | k, x :: l => p k x ∧ AllFrom p (k + 1) l
theorem allFrom_nil {p : Nat → Oper → Prop} {k : Nat} : AllFrom p k [] := trivial
theorem allFrom_cons {p : Nat → Oper → Prop} {k : Nat} {x : Oper} {l : List Oper} (h : p k x) (hl : AllFrom p (k + 1) l) : AllFrom p k (x :: l) := ⟨h, hl⟩
theorem allFrom_get {p : Nat → Oper → Prop} : ∀ (l : List Oper) (k : Nat), AllFrom p k l → ∀ i o, l[i]? = some o → p (k + i) o
  | [], _, _, i, o, h => by cases h
  | x :: l, k, ⟨h1, h2⟩, 0, o, h => by cases h; exact h1
  | x :: l, k, ⟨h1, h2⟩, i + 1, o, h => by
    have := allFrom_get l (k + 1) h2 i o h
    rwa [show k + (i + 1) = k + 1 + i by omega]
theorem all_ops {p : Nat → Oper → Prop} {l : List Oper} (h : AllFrom p 0 l) (i : Nat) (o : Oper) (ho : (l.toArray)[i]? = some o) : p i o := by
  have := allFrom_get l 0 h i o (by simpa using ho)
  rwa [Nat.zero_add] at this
theorem all_ops_lt {p : Nat → Oper → Prop} {m : Nat} {l : List Oper} (h : AllFrom (fun i o => i < m → p i o) 0 l) (i : Nat) (o : Oper) (hi : i < m) (ho : (l.toArray)[i]? = some o) : p i o := by
  have := allFrom_get l 0 h i o (by simpa using ho)
  rw [Nat.zero_add] at this
  exact this hi
theorem ready_parts {md : Region.Mode} {ops : Array Oper} {L : Array Bool} {i : Nat} (h : i ∈ Region.ready md ops L) :
    ∃ o, ops[i]? = some o ∧ L.getD i true = false ∧ ∀ e ∈ o.after, Region.binds md e = true → L.getD e.on false = true := by
  unfold Region.ready at h
  rw [List.mem_filter] at h
  obtain ⟨h1, h2⟩ := h
  have hi : i < ops.size := List.mem_range.1 h1
  rw [Bool.and_eq_true] at h2
  obtain ⟨h3, h4⟩ := h2
  rw [Array.getElem?_eq_getElem hi] at h4 ⊢
  refine ⟨_, rfl, by simpa using h3, fun e he hb => ?_⟩
  simp only [Option.map_some, Option.getD_some, Array.all_eq_true] at h4
  obtain ⟨k, hk, rfl⟩ := Array.mem_iff_getElem.1 he
  have := h4 k hk
  simp only [hb, Bool.not_true, Bool.false_or] at this
  exact this
theorem ready_none {ops : Array Oper} {L : Array Bool} (hs : L.size = ops.size) (hb : ∀ (i : Nat) (o : Oper), ops[i]? = some o → ∀ e ∈ o.after, Region.binds .any e = true → e.on < i) (h : Region.ready .any ops L = []) :
    ∀ i, i < ops.size → L.getD i false = true := by
  intro i
  induction i using Nat.strongRecOn with
  | _ i ih =>
    intro hi
    cases hL : L.getD i false
    · exfalso
      have : i ∈ Region.ready .any ops L := by
        unfold Region.ready
        rw [List.mem_filter]
        refine ⟨List.mem_range.2 hi, ?_⟩
        have h1 : L.getD i true = false := by
          rw [Array.getD_eq_getD_getElem?, Array.getElem?_eq_getElem (by omega)] at hL ⊢; simpa using hL
        rw [h1, Array.getElem?_eq_getElem hi]
        simp only [Bool.not_false, Bool.true_and, Option.map_some, Option.getD_some, Array.all_eq_true]
        intro k hk
        cases hbk : Region.binds .any (ops[i].after[k])
        · rfl
        · simp only [Bool.not_true, Bool.false_or]
          have hlt := hb i ops[i] (Array.getElem?_eq_getElem hi) _ (Array.getElem_mem hk) hbk
          exact ih _ hlt (by omega)
      rw [h] at this
      cases this
    · rfl

section
variable {P : Program} {Q : Exit → Act → World → Prop} {S : Nat → Value → World → Prop} {Le : World → World → Prop} {M : Nat → World → Prop} {wt : Nat → Nat} {ops : Array Oper} {a0 : Act}
theorem RegI.step {m i : Nat} (him : i < m) {o : Oper} {L : Array Bool} {a a' : Act} {w w' : World} {v : Value} (h : RegI S M wt ops a0 m L a w) (hR : RegOK ops a0) (hS : ∀ j v w w', S j v w → Le w w' → S j v w')
    (ho : ops[i]? = some o) (hf : L.getD i true = false) (hdep : ∀ e ∈ o.after, Region.binds .any e = true → L.getD e.on false = true)
    (ha : a' = a.put o.dst v) (hv : S i v w') (hL : Le w w') (hM : M (cntL wt ops.size L + wt i) w') : RegI S M wt ops a0 m (L.setIfInBounds i true) a' w' := by
  have hi : i < ops.size := (Array.getElem?_eq_some_iff.1 ho).1
  have hf' : L.getD i false = false := by
    have := h.lsize
    rw [Array.getD_eq_getD_getElem?, Array.getElem?_eq_getElem (by omega)] at hf ⊢; simpa using hf
  have hd : dstOf ops i = o.dst := by unfold dstOf; rw [ho]; rfl
  have hsz : a'.tmps.size = a.tmps.size := by subst ha; unfold Act.put; cases o.dst <;> simp
  have hget : ∀ t, o.dst ≠ some t → a'.tmps[t]? = a.tmps[t]? := by
    intro t ht
    subst ha; unfold Act.put
    cases hdd : o.dst with
    | none => rfl
    | some d => simp only; rw [Array.getElem?_setIfInBounds, if_neg (fun e => ht (by rw [hdd, e]))]
  refine ⟨by simpa using h.lsize, hsz.trans h.size, ?_, ?_, ?_, ?_, ?_, ?_⟩
  · subst ha; rw [← h.defers]; unfold Act.put; cases o.dst <;> rfl
  · intro t ht
    rw [hget t (fun e => ht i (by rw [hd, e]))]
    exact h.old t ht
  · intro j d hj hjd
    rw [getD_set _ _ _ _ (by have := h.lsize; omega)] at hj
    by_cases hji : j = i
    · subst hji
      refine ⟨v, ?_, hv⟩
      have hr := hR.range j d hjd
      rw [hd] at hjd
      subst ha; unfold Act.put
      rw [hjd]
      simp only
      rw [Array.getElem?_setIfInBounds, if_pos rfl, if_pos (by rw [h.size]; exact hr)]
    · rw [if_neg hji] at hj
      obtain ⟨u, hu, hs⟩ := h.new j d hj hjd
      refine ⟨u, ?_, hS _ _ _ _ hs hL⟩
      rw [hget d (fun e => hji (hR.own j i d hjd (by rw [hd, e])))]
      exact hu
  · intro j oj hoj hj e he hb
    rw [getD_set _ _ _ _ (by have := h.lsize; omega)] at hj ⊢
    by_cases hei : e.on = i
    · rw [if_pos hei]
    · rw [if_neg hei]
      by_cases hji : j = i
      · subst hji
        obtain rfl : oj = o := by rw [hoj] at ho; exact Option.some.inj ho
        exact hdep e he hb
      · rw [if_neg hji] at hj
        exact h.down j oj hoj hj e he hb
  · rw [cntL_set wt _ _ i h.lsize hi hf']; exact hM
  · intro k hk
    rw [getD_set _ _ _ _ (by have := h.lsize; omega), if_neg (by omega)]
    exact h.fresh k hk
theorem regI_any (hR : RegOK ops a0) (hS : ∀ j v w w', S j v w → Le w w' → S j v w') (m : Nat) (hop : ∀ (i : Nat) (o : Oper), i < m → ops[i]? = some o → OpOK P Q S Le M wt ops a0 i o)
    (hlast : ∀ (i : Nat) (o : Oper) L a w, m ≤ i → ops[i]? = some o → RegI S M wt ops a0 m L a w → L.getD i true = false → (∀ e ∈ o.after, Region.binds .any e = true → L.getD e.on false = true) →
      ∀ fuel, wpOp P ops Q i (wpAny P .any ops Q fuel (L.setIfInBounds i true)) a w)
    (hend : ∀ L a w, RegI S M wt ops a0 m L a w → (∀ i, i < ops.size → L.getD i false = true) → Q .normal a w) :
    ∀ fuel L a w, RegI S M wt ops a0 m L a w → (∀ r, r = (L.toList.filter (!·)).length → r ≤ fuel) → wpAny P .any ops Q fuel L a w := by
  intro fuel
  induction fuel with
  | zero =>
    intro L a w h hf
    have hall : ∀ i, i < ops.size → L.getD i false = true := by
      intro i hi
      cases hL : L.getD i false
      · exfalso
        have := hf _ rfl
        have hl := h.lsize
        have hmem : false ∈ L.toList.filter (!·) := by
          rw [List.mem_filter]
          refine ⟨?_, rfl⟩
          rw [Array.getD_eq_getD_getElem?, Array.getElem?_eq_getElem (by omega)] at hL
          simp only [Option.getD_some] at hL
          rw [← hL]
          exact Array.mem_toList_iff.2 (Array.getElem_mem _)
        have := List.length_pos_of_mem hmem
        omega
      · rfl
    refine ⟨?_, hend L a w h hall⟩
    apply List.eq_nil_iff_forall_not_mem.2
    intro i hi
    obtain ⟨o, ho, hf, _⟩ := ready_parts hi
    have hlt : i < ops.size := (Array.getElem?_eq_some_iff.1 ho).1
    have := hall i hlt
    have hl := h.lsize
    rw [Array.getD_eq_getD_getElem?, Array.getElem?_eq_getElem (by omega)] at hf this
    simp_all
  | succ fuel ih =>
    intro L a w h hf
    refine ⟨fun hr => hend L a w h (ready_none h.lsize hR.back hr), fun i hi => ?_⟩
    obtain ⟨o, ho, hfi, hdep⟩ := ready_parts hi
    rcases Nat.lt_or_ge i m with him | him
    · unfold wpOp
      rw [ho]
      simp only
      rw [if_pos (by simp [Region.wanted, hR.guard i o ho])]
      left
      have hlt : i < ops.size := (Array.getElem?_eq_some_iff.1 ho).1
      have hl := h.lsize
      have hfi' : L.getD i false = false := by
        rw [Array.getD_eq_getD_getElem?, Array.getElem?_eq_getElem (by omega)] at hfi ⊢; simpa using hfi
      have hcnt : cntL wt ops.size L + wt i ≤ totL wt ops.size := by
        have := cntL_le wt ops.size (L.setIfInBounds i true)
        rwa [cntL_set wt _ _ i h.lsize hlt hfi'] at this
      refine Oper.wp_mono ?_ (hop i o him ho a w _ h.size h.old (fun e he hb d hd => h.new e.on d (hdep e he hb) hd) h.mem hcnt)
      rintro a' w' ⟨⟨v, ha, hv⟩, hLe, hM⟩
      refine ih _ _ _ (h.step him hR hS ho hfi hdep ha hv hLe hM) ?_
      rintro r rfl
      have := hf _ rfl
      have e1 : (L.setIfInBounds i true).toList = L.toList.set i true := by simp
      rw [e1]
      have hLi : L.toList[i]'(by simpa using (by omega : i < L.size)) = false := by
        rw [Array.getD_eq_getD_getElem?, Array.getElem?_eq_getElem (by omega)] at hfi'
        simpa using hfi'
      have e2 : L.toList = L.toList.take i ++ false :: L.toList.drop (i + 1) := by
        rw [← hLi, List.getElem_cons_drop, List.take_append_drop]
      have e3 : L.toList.set i true = L.toList.take i ++ true :: L.toList.drop (i + 1) := by
        rw [List.set_eq_take_append_cons_drop, if_pos (by simpa using (by omega : i < L.size))]
      rw [e3]
      rw [e2] at this
      simp only [List.filter_append, List.length_append, List.filter_cons, Bool.not_false, Bool.not_true, if_true, Bool.false_eq_true, if_false, List.length_cons] at this ⊢
      omega
    · exact hlast i o L a w him ho h hfi hdep fuel
theorem cntL_all {n : Nat} {L : Array Bool} (h : ∀ j, j < n → L.getD j false = true ∨ wt j = 0) : cntL wt n L = totL wt n := by
  unfold cntL totL
  congr 1
  refine List.map_congr_left fun j hj => ?_
  rcases h j (List.mem_range.1 hj) with h1 | h1
  · rw [if_pos h1]
  · rw [h1]; split <;> rfl
theorem cntL_zero (n : Nat) : cntL wt n (Array.replicate n false) = 0 := by
  unfold cntL
  have : ((List.range n).map fun j => if (Array.replicate n false).getD j false then wt j else 0) = (List.range n).map fun _ => 0 := by
    refine List.map_congr_left fun j _ => ?_
    rw [Array.getD_eq_getD_getElem?, Array.getElem?_replicate]
    split <;> simp_all
  rw [this]
  clear this
  induction n with
  | zero => rfl
  | succ n ih => rw [List.range_succ, List.map_append, List.sum_append, ih]; rfl
theorem getD_repl (n j : Nat) : (Array.replicate n false).getD j false = false := by
  rw [Array.getD_eq_getD_getElem?, Array.getElem?_replicate]; split <;> rfl
theorem regI_start {m : Nat} {w0 : World} (h0 : M 0 w0) : RegI S M wt ops a0 m (Array.replicate ops.size false) a0 w0 := by
  refine ⟨by simp, rfl, rfl, fun _ _ => rfl, ?_, ?_, ?_, fun _ _ => getD_repl _ _⟩
  · intro j d hj
    rw [getD_repl] at hj
    cases hj
  · intro j o _ hj
    rw [getD_repl] at hj
    cases hj
  · rw [cntL_zero]; exact h0
def dstsOf (ops : Array Oper) : List Nat := ops.toList.filterMap (·.dst)
theorem dstsOf_mem {ops : Array Oper} {d : Nat} : d ∈ dstsOf ops ↔ ∃ j, dstOf ops j = some d := by
  unfold dstsOf dstOf
  rw [List.mem_filterMap]
  constructor
  · rintro ⟨o, ho, hd⟩
    obtain ⟨j, hj, rfl⟩ := List.mem_iff_getElem.1 ho
    refine ⟨j, ?_⟩
    have hj' : j < ops.size := by simpa using hj
    rw [Array.getElem?_eq_getElem hj']
    simpa using hd
  · rintro ⟨j, hj⟩
    cases hoj : ops[j]? with
    | none => rw [hoj] at hj; cases hj
    | some o => rw [hoj] at hj; exact ⟨o, by rw [← Array.mem_def]; exact Array.mem_of_getElem? hoj, by simpa using hj⟩
def fillD (ds : List Nat) (f : Nat → Value) (B : Array Value) : Array Value := ds.foldl (fun arr d => arr.setIfInBounds d (f d)) B
theorem fillD_size (ds : List Nat) (f : Nat → Value) (B : Array Value) : (fillD ds f B).size = B.size := by
  unfold fillD
  induction ds generalizing B with
  | nil => rfl
  | cons d ds ih => rw [List.foldl_cons, ih]; simp
theorem fillD_get (ds : List Nat) (f : Nat → Value) (B : Array Value) (t : Nat) (ht : t < B.size) : (fillD ds f B)[t]? = if t ∈ ds then some (f t) else B[t]? := by
  unfold fillD
  induction ds generalizing B with
  | nil => simp
  | cons d ds ih =>
    rw [List.foldl_cons, ih _ (by simpa using ht)]
    by_cases h : t ∈ ds
    · rw [if_pos h, if_pos (List.mem_cons_of_mem _ h)]
    · rw [if_neg h, Array.getElem?_setIfInBounds]
      by_cases hd : d = t
      · subst hd; rw [if_pos rfl, if_pos List.mem_cons_self, if_pos ht]
      · rw [if_neg hd, if_neg (by rw [List.mem_cons]; rintro (e | e); exact hd e.symm; exact h e)]
theorem tmps_fill {ds : List Nat} {f : Nat → Value} {A B : Array Value} (hs : A.size = B.size) (hold : ∀ t, t ∉ ds → A[t]? = B[t]?) (hnew : ∀ d ∈ ds, A[d]? = some (f d)) : A = fillD ds f B := by
  apply Array.ext_getElem?
  intro t
  rcases Nat.lt_or_ge t B.size with ht | ht
  · rw [fillD_get ds f B t ht]
    by_cases h : t ∈ ds
    · rw [if_pos h]; exact hnew t h
    · rw [if_neg h]; exact hold t h
  · rw [Array.getElem?_eq_none (by omega), Array.getElem?_eq_none (by rw [fillD_size]; exact ht)]
theorem RegI.act {m : Nat} {L : Array Bool} {a : Act} {w : World} (h : RegI S M wt ops a0 m L a w) (hall : ∀ j, (dstOf ops j).isSome = true → L.getD j false = true) :
    ∃ f : Nat → Value, a = ⟨fillD (dstsOf ops) f a0.tmps, a0.defers⟩ ∧ ∀ j d, dstOf ops j = some d → S j (f d) w := by
  refine ⟨fun d => a.tmps.getD d undef, ?_, ?_⟩
  · obtain ⟨tm, df⟩ := a
    have e1 : df = a0.defers := h.defers
    have e2 : tm = fillD (dstsOf ops) (fun d => tm.getD d undef) a0.tmps := by
      refine tmps_fill h.size (fun t ht => h.old t fun j hj => ht (dstsOf_mem.2 ⟨j, hj⟩)) fun d hd => ?_
      obtain ⟨j, hj⟩ := dstsOf_mem.1 hd
      obtain ⟨v, hv, _⟩ := h.new j d (hall j (by rw [hj]; rfl)) hj
      have hv' : tm[d]? = some v := hv
      rw [hv', Array.getD_eq_getD_getElem?, hv']; rfl
    rw [e1]
    exact congrArg (fun x => (⟨x, a0.defers⟩ : Act)) e2
  · intro j d hj
    obtain ⟨v, hv, hs⟩ := h.new j d (hall j (by rw [hj]; rfl)) hj
    have : a.tmps.getD d undef = v := by rw [Array.getD_eq_getD_getElem?, hv]; rfl
    show S j (a.tmps.getD d undef) w
    rw [this]; exact hs
/-- A region each of whose operations yields what S says, in whatever order. -/
theorem region_typed {id : Nat} {w : World} (ds : List Nat) (hds : dstsOf ops = ds) (hm : P.follows .mixedOrders = true) (hR : RegOK ops a0) (hS : ∀ j v w w', S j v w → Le w w' → S j v w')
    (hop : ∀ (i : Nat) (o : Oper), ops[i]? = some o → OpOK P Q S Le M wt ops a0 i o) (h0 : M 0 w.drew)
    (hend : ∀ (f : Nat → Value) w', (∀ j d, dstOf ops j = some d → S j (f d) w') → M (totL wt ops.size) w' → Q .normal ⟨fillD ds f a0.tmps, a0.defers⟩ w') :
    (Code.region id ops true).wp P Q a0 w := by
  subst hds
  refine wp_region_any hm (regI_any (m := ops.size) hR hS (fun i o _ ho => hop i o ho) ?_ ?_ ops.size _ _ _ (regI_start h0) ?_)
  · intro i o L a w hi ho
    have := (Array.getElem?_eq_some_iff.1 ho).1
    omega
  · intro L a w' h hall
    have hall' : ∀ j, (dstOf ops j).isSome = true → L.getD j false = true := by
      intro j hj
      refine hall j ?_
      rcases Nat.lt_or_ge j ops.size with h' | h'
      · exact h'
      · unfold dstOf at hj; rw [Array.getElem?_eq_none h'] at hj; cases hj
    obtain ⟨f, rfl, hs⟩ := h.act hall'
    have hM := h.mem
    rw [cntL_all fun j hj => .inl (hall j hj)] at hM
    exact hend f w' hs hM
  · rintro r rfl
    simp
def succOK (ops : Array Oper) (m : Nat) : Bool := (List.range m).all fun j => (List.range (m + 1)).any fun k => decide (j < k) && match ops[k]? with | some o => o.after.any fun e => Region.binds .any e && e.on == j | none => false
theorem succOK_spec {m : Nat} (h : succOK ops m = true) (j : Nat) (hj : j < m) : ∃ k o, j < k ∧ k ≤ m ∧ ops[k]? = some o ∧ ∃ e ∈ o.after, Region.binds .any e = true ∧ e.on = j := by
  unfold succOK at h
  rw [List.all_eq_true] at h
  have h1 := h j (List.mem_range.2 hj)
  rw [List.any_eq_true] at h1
  obtain ⟨k, hk, h2⟩ := h1
  rw [Bool.and_eq_true] at h2
  obtain ⟨h3, h4⟩ := h2
  cases ho : ops[k]? with
  | none => rw [ho] at h4; cases h4
  | some o =>
    rw [ho] at h4
    simp only at h4
    rw [Array.any_eq_true] at h4
    obtain ⟨x, hx, h5⟩ := h4
    rw [Bool.and_eq_true] at h5
    exact ⟨k, o, by simpa using h3, by have := List.mem_range.1 hk; omega, ho, _, Array.getElem_mem hx, h5.1, by simpa using h5.2⟩
/-- The last operation's own obligation, shut until all is laid. -/
structure LastOp (P : Program) (o : Oper) (a : Act) (w : World) (K : Act → World → Prop) (Q : Exit → Act → World → Prop) : Prop where
  wp : o.wp P a w K Q
/-- The same for a region whose last operation waits for all the others: that one is walked by itself. -/
theorem region_typed_last {id m : Nat} {w : World} {ol : Oper} (ds : List Nat) (hds : dstsOf ops = ds) (hm : P.follows .mixedOrders = true) (hR : RegOK ops a0) (hS : ∀ j v w w', S j v w → Le w w' → S j v w')
    (hsz : ops.size = m + 1) (hol : ops[m]? = some ol) (hnd : ol.dst = none) (hw : wt m = 0) (hsucc : succOK ops m = true)
    (hop : ∀ (i : Nat) (o : Oper), i < m → ops[i]? = some o → OpOK P Q S Le M wt ops a0 i o) (h0 : M 0 w.drew)
    (hlast : ∀ (f : Nat → Value) w', (∀ j d, dstOf ops j = some d → S j (f d) w') → M (totL wt ops.size) w' → LastOp P ol ⟨fillD ds f a0.tmps, a0.defers⟩ w' (fun a w => Q .normal a w) Q) :
    (Code.region id ops true).wp P Q a0 w := by
  subst hds
  have hdm : ∀ j, (dstOf ops j).isSome = true → j < m := by
    intro j hj
    rcases Nat.lt_or_ge j ops.size with h' | h'
    · rcases Nat.lt_or_ge j m with h2 | h2
      · exact h2
      · obtain rfl : j = m := by omega
        unfold dstOf at hj; rw [hol] at hj; simp [hnd] at hj
    · unfold dstOf at hj; rw [Array.getElem?_eq_none h'] at hj; cases hj
  have hrdy : ∀ (L : Array Bool), L.size = ops.size → (∀ j, j < ops.size → L.getD j false = true) → Region.ready .any ops L = [] := by
    intro L hl hall
    apply List.eq_nil_iff_forall_not_mem.2
    intro i hi
    obtain ⟨o, ho, hf, _⟩ := ready_parts hi
    have hlt : i < ops.size := (Array.getElem?_eq_some_iff.1 ho).1
    have := hall i hlt
    rw [Array.getD_eq_getD_getElem?, Array.getElem?_eq_getElem (by omega)] at hf this
    simp_all
  have key : ∀ (L : Array Bool) (a : Act) (w : World), RegI S M wt ops a0 m L a w → (∀ e ∈ ol.after, Region.binds .any e = true → L.getD e.on false = true) → ∀ j, j < m → L.getD j false = true := by
    intro L a w h hdep
    have : ∀ d j, j + d = m → 0 < d → L.getD j false = true := by
      intro d
      induction d using Nat.strongRecOn with
      | _ d ih =>
        intro j hj hd
        obtain ⟨k, o, hjk, hkm, ho, e, he, hb, rfl⟩ := succOK_spec hsucc j (by omega)
        rcases Nat.lt_or_ge k m with hk | hk
        · exact h.down k o ho (ih (m - k) (by omega) k (by omega) (by omega)) e he hb
        · obtain rfl : k = m := by omega
          rw [hol] at ho
          obtain rfl := Option.some.inj ho
          exact hdep e he hb
    intro j hj
    exact this (m - j) j (by omega) (by omega)
  refine wp_region_any hm (regI_any (m := m) hR hS hop ?_ ?_ ops.size _ _ _ (regI_start h0) ?_)
  · intro i o L a w' hi ho h hfi hdep fuel
    have hlt := (Array.getElem?_eq_some_iff.1 ho).1
    obtain rfl : i = m := by omega
    rw [hol] at ho
    obtain rfl := Option.some.inj ho
    have hall := key L a w' h hdep
    obtain ⟨f, rfl, hs⟩ := h.act fun j hj => hall j (hdm j hj)
    have hM := h.mem
    have hcl : ∀ j, j < ops.size → L.getD j false = true ∨ wt j = 0 := by
      intro j hj
      rcases Nat.lt_or_ge j i with h' | h'
      · exact .inl (hall j h')
      · have : j = i := by omega
        subst this
        exact .inr hw
    rw [cntL_all hcl] at hM
    unfold wpOp
    rw [hol]
    simp only
    rw [if_pos (by simp [Region.wanted, hR.guard i ol hol])]
    left
    refine Oper.wp_mono ?_ (hlast f w' hs hM).wp
    intro a2 w2 hq
    have hl := h.lsize
    have hr := hrdy (L.setIfInBounds i true) (by simpa using hl) (fun j hj => by
      rw [getD_set _ _ _ _ (by omega)]
      by_cases e : j = i
      · rw [if_pos e]
      · rw [if_neg e]; exact hall j (by omega))
    cases fuel with
    | zero => exact ⟨hr, hq⟩
    | succ fuel => exact ⟨fun _ => hq, fun i hi => by rw [hr] at hi; cases hi⟩
  · intro L a w' h hall
    exfalso
    have := hall m (by omega)
    rw [h.fresh m (Nat.le_refl _)] at this
    cases this
  · rintro r rfl
    simp
/-- The like for a region whose order is fixed. -/
theorem regI_seq (hR : RegOK ops a0) (hS : ∀ j v w w', S j v w → Le w w' → S j v w') (m : Nat) (hm : m ≤ ops.size) (hop : ∀ (i : Nat) (o : Oper), i < m → ops[i]? = some o → OpOK P Q S Le M wt ops a0 i o)
    (rest : List Nat) (hrest : ∀ L a w, RegI S M wt ops a0 m L a w → (∀ j, j < m → L.getD j false = true) → wpOps P ops Q rest a w) :
    ∀ d k L a w, k + d = m → RegI S M wt ops a0 m L a w → (∀ j, j < k → L.getD j false = true) → (∀ j, k ≤ j → L.getD j false = false) → wpOps P ops Q (List.range' k d ++ rest) a w := by
  intro d
  induction d with
  | zero =>
    intro k L a w hk h hl _
    obtain rfl : k = m := by omega
    exact hrest L a w h hl
  | succ d ih =>
    intro k L a w hk h hl hu
    rw [List.range'_succ, List.cons_append, wpOps_cons]
    have hks : k < ops.size := by omega
    have ho := Array.getElem?_eq_getElem hks
    have hls := h.lsize
    have hf : L.getD k true = false := by
      have := hu k (Nat.le_refl _)
      rw [Array.getD_eq_getD_getElem?, Array.getElem?_eq_getElem (by omega)] at this ⊢; simpa using this
    have hdep : ∀ e ∈ ops[k].after, Region.binds .any e = true → L.getD e.on false = true := fun e he hb => hl _ (hR.back k _ ho e he hb)
    unfold wpOp
    rw [ho]
    simp only
    rw [if_pos (by simp [Region.wanted, hR.guard k _ ho])]
    left
    have hcnt : cntL wt ops.size L + wt k ≤ totL wt ops.size := by
      have := cntL_le wt ops.size (L.setIfInBounds k true)
      rwa [cntL_set wt _ _ k h.lsize hks (hu k (Nat.le_refl _))] at this
    refine Oper.wp_mono ?_ (hop k _ (by omega) ho a w _ h.size h.old (fun e he hb d hd => h.new e.on d (hdep e he hb) hd) h.mem hcnt)
    rintro a' w' ⟨⟨v, ha, hv⟩, hLe, hM⟩
    refine ih (k + 1) _ _ _ (by omega) (h.step (by omega) hR hS ho hf hdep ha hv hLe hM) ?_ ?_
    · intro j hj
      rw [getD_set _ _ _ _ (by omega)]
      by_cases e : j = k
      · rw [if_pos e]
      · rw [if_neg e]; exact hl j (by omega)
    · intro j hj
      rw [getD_set _ _ _ _ (by omega), if_neg (by omega)]
      exact hu j (by omega)
theorem region_typed_f {id : Nat} {w : World} (ds : List Nat) (hds : dstsOf ops = ds) (hR : RegOK ops a0) (hS : ∀ j v w w', S j v w → Le w w' → S j v w')
    (hop : ∀ (i : Nat) (o : Oper), ops[i]? = some o → OpOK P Q S Le M wt ops a0 i o) (h0 : M 0 w)
    (hend : ∀ (f : Nat → Value) w', (∀ j d, dstOf ops j = some d → S j (f d) w') → M (totL wt ops.size) w' → Q .normal ⟨fillD ds f a0.tmps, a0.defers⟩ w') :
    (Code.region id ops false).wp P Q a0 w := by
  subst hds
  refine wp_region ?_
  have := regI_seq (Q := Q) hR hS ops.size (Nat.le_refl _) (fun i o _ ho => hop i o ho) [] (fun L a w' h hall => by
    have hall' : ∀ j, (dstOf ops j).isSome = true → L.getD j false = true := by
      intro j hj
      refine hall j ?_
      rcases Nat.lt_or_ge j ops.size with h' | h'
      · exact h'
      · unfold dstOf at hj; rw [Array.getElem?_eq_none h'] at hj; cases hj
    obtain ⟨f, rfl, hs⟩ := h.act hall'
    have hM := h.mem
    rw [cntL_all fun j hj => .inl (hall j hj)] at hM
    exact hend f w' hs hM) ops.size 0 _ _ _ (by omega) (regI_start h0) (fun j hj => absurd hj (by omega)) (fun j _ => getD_repl _ _)
  rw [List.append_nil] at this
  rw [List.range_eq_range']
  exact this
theorem region_typed_last_f {id m : Nat} {w : World} {ol : Oper} (ds : List Nat) (hds : dstsOf ops = ds) (hR : RegOK ops a0) (hS : ∀ j v w w', S j v w → Le w w' → S j v w')
    (hsz : ops.size = m + 1) (hol : ops[m]? = some ol) (hnd : ol.dst = none) (hw : wt m = 0)
    (hop : ∀ (i : Nat) (o : Oper), i < m → ops[i]? = some o → OpOK P Q S Le M wt ops a0 i o) (h0 : M 0 w)
    (hlast : ∀ (f : Nat → Value) w', (∀ j d, dstOf ops j = some d → S j (f d) w') → M (totL wt ops.size) w' → LastOp P ol ⟨fillD ds f a0.tmps, a0.defers⟩ w' (fun a w => Q .normal a w) Q) :
    (Code.region id ops false).wp P Q a0 w := by
  subst hds
  have hdm : ∀ j, (dstOf ops j).isSome = true → j < m := by
    intro j hj
    rcases Nat.lt_or_ge j ops.size with h' | h'
    · rcases Nat.lt_or_ge j m with h2 | h2
      · exact h2
      · obtain rfl : j = m := by omega
        unfold dstOf at hj; rw [hol] at hj; simp [hnd] at hj
    · unfold dstOf at hj; rw [Array.getElem?_eq_none h'] at hj; cases hj
  refine wp_region ?_
  have := regI_seq (Q := Q) hR hS m (by omega) hop [m] (fun L a w' h hall => by
    obtain ⟨f, rfl, hs⟩ := h.act fun j hj => hall j (hdm j hj)
    have hM := h.mem
    have hcl : ∀ j, j < ops.size → L.getD j false = true ∨ wt j = 0 := by
      intro j hj
      rcases Nat.lt_or_ge j m with h' | h'
      · exact .inl (hall j h')
      · have : j = m := by omega
        subst this
        exact .inr hw
    rw [cntL_all hcl] at hM
    rw [wpOps_cons]
    unfold wpOp
    rw [hol]
    simp only
    rw [if_pos (by simp [Region.wanted, hR.guard m ol hol])]
    left
    exact (hlast f w' hs hM).wp) m 0 _ _ _ (by omega) (regI_start h0) (fun j hj => absurd hj (by omega)) (fun j _ => getD_repl _ _)
  rw [hsz, List.range_succ, List.range_eq_range']
  exact this
end
end Go.Proofs.Ytcpjafhhmhaenaa
