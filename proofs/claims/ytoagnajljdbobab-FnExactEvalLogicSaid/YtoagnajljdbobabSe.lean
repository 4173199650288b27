/- The specification's evaluation of expressions: a stack of truth values. -/
import Derived.Test.YtoagnajljdbobabSl
import Derived.Test.YtoagnajljdbobabE
import Derived.IntWalk
import Derived.Deep.RegionHeld3
import Derived.Deep.RegionLaw
namespace Go.Proofs.Ytoagnajljdbobab
open Go.RowKit
attribute [local go_sem ↓] Go.wp_at_zero Go.wp_at_succ

/-- A row of the call's own whose value is known. -/
theorem own_top1 {w : World} {base e g m c : Nat} {xs : List Value} {u : Value} (h : w.ownsRow base e 1 (.slice (some ⟨g, 0, none⟩) (m + 1) c) (m + 1) (xs ++ [u])) :
    xs.length = m ∧ w.cell? ⟨g, m, none⟩ = some u ∧ w.frozen? ⟨g, m, none⟩ = false := by
  have hl : xs.length = m := by have := h.1; simp at this; omega
  have hc := h.cellAt m (by omega)
  refine ⟨hl, ?_, h.frozenAt m⟩
  rw [hc, ← hl]; simp
theorem own_top2 {w : World} {base e g m c : Nat} {xs : List Value} {u v : Value} (h : w.ownsRow base e 1 (.slice (some ⟨g, 0, none⟩) (m + 2) c) (m + 2) (xs ++ [u, v])) :
    xs.length = m ∧ w.cell? ⟨g, m, none⟩ = some u ∧ w.cell? ⟨g, m + 1, none⟩ = some v ∧ w.ownsRow base e 1 (.slice (some ⟨g, 0, none⟩) m c) m xs ∧ m + 2 ≤ c := by
  have hl : xs.length = m := by have := h.1; simp at this; omega
  have hc := h.cellAt m (by omega)
  have hd := h.cellAt (m + 1) (by omega)
  refine ⟨hl, by rw [hc, ← hl]; simp, by rw [hd, ← hl]; simp, ?_, ?_⟩
  · have h1 : w.ownsRow base e 1 (.slice (some ⟨g, 0, none⟩) (m + 1) c) (m + 1) (xs ++ [u]) := ownsRow_pop (size := 1) (last := [v]) (by simp; omega) (by simpa using h)
    exact ownsRow_pop (size := 1) (by omega) h1
  · rcases h.2 with ⟨h0, _⟩ | ⟨g', cap', cur, hv, _, _, hn, _⟩
    · cases h0
    · cases hv; exact hn
theorem nd_one {n : Int} {x : Nd} {d : Nat} (h : ndOK n x d = true) (h1 : x.op = 1) : 0 ≤ x.bit ∧ x.bit < n := by
  unfold ndOK bitOK at h; simp [h1] at h; exact h.1.2
theorem nd_need {n : Int} {x : Nd} {d : Nat} (h : ndOK n x d = true) : 0 ≤ need x.op ∧ need x.op ≤ (d : Int) := by
  unfold ndOK at h; simp at h; exact ⟨h.1.1, h.2⟩
theorem need_cases {op : Int} (h : 0 ≤ need op) : op = 1 ∨ op = 2 ∨ op = 3 ∨ op = 4 ∨ op = 5 ∨ op = 6 ∨ op = 7 := by
  unfold need at h
  repeat' split at h
  all_goals omega
theorem form1 {α : Type} {st : List α} (h : 1 ≤ st.length) : ∃ a r, st = a :: r := by
  rcases st with _ | ⟨a, r⟩
  · simp at h
  · exact ⟨a, r, rfl⟩
theorem form2 {α : Type} {st : List α} (h : 2 ≤ st.length) : ∃ a b r, st = a :: b :: r := by
  rcases st with _ | ⟨a, _ | ⟨b, r⟩⟩
  · simp at h
  · simp at h
  · exact ⟨a, b, r, rfl⟩
def bAlg (bs : List Bool) : Alg Bool := boolAlg fun k => bs.getD k.toNat false
theorem ev_take {α : Type} (A : Alg α) (l : List Nd) (k : Nat) (h : k < l.length) : ev A (l.take (k + 1)) [] = evStep A (ev A (l.take k) []) l[k] := by
  rw [take_snocN l k h, ev_snoc]
/-- What is known at the head of a round. -/
theorem ev_head {α : Type} (A : Alg α) {l : List Nd} {n : Int} (h : lvalid l n = true) (k : Nat) (hk : k < l.length) : ndOK n l[k] (ev A (l.take k) []).length = true ∧ (ev A (l.take k) []).length ≤ k := by
  obtain ⟨f, h1, h2⟩ := dep_prefix (lvalid_dep h) k
  have h3 := ev_len A n (l.take k) [] f h1
  rw [h3]
  refine ⟨h2 hk, ?_⟩
  have := depOf_le n (l.take k) 0 f h1
  simp at this; omega
def EvP (w : World) (x : Bool) (e : Ending) (w' : World) : Prop := e = .returned (.bool x) ∧ Below w.heap.size w w'
set_option pp.deepTerms true in
set_option pp.maxSteps 10000000 in
/-- One element pushed where there is room, as a step of a region that draws. -/
theorem step_push1 {P : Program} {ops : Array Oper} {o : Oper} {a : Act} {w : World} {K : Act → World → Prop} {Q : Exit → Act → World → Prop} {F : Prop} (hg : o.guard = none) (s x : Operand) (t : TypeId)
    (hop : o.op = Op.call { callee := Callee.builtin Builtin.append, args := #[s, x], argTypes := #[t, t] }) {e : TypeId} {z : Value} {by_ : Nat} (E : Elem P t e z 1 by_) (g n cap : Nat)
    (hs : a.eval s = .slice (some ⟨g, 0, none⟩) n cap) (ad : Addr) (c : Nat) (u : Value) (hx : a.eval x = .slice (some ad) 1 c) (hc : w.cell? ad = some u) (h1 : u.oneCell' = true) (hroom : n + 1 ≤ cap)
    (hsp : (w.cell? ⟨g, n, none⟩).isSome = true ∧ w.frozen? ⟨g, n, none⟩ = false) (hK : K (a.put o.dst (.slice (some ⟨g, 0, none⟩) (n + 1) cap)) (w.setCell ⟨g, n, none⟩ u)) :
    if Region.wanted o (yielded ops a.tmps) = true then Oper.wp P o a w K Q else F := by
  obtain ⟨i, hi, hz, hs1, hb1⟩ := info_parts E.info
  refine Go.step_append_room hg s x t hop e i 1 E.under hi hs1 g 0 n cap hs ad 1 c [u] hx (by simp) ?_ ?_ hroom ?_ ?_
  · intro j v hj
    match j, hj with
    | 0, hj => simp at hj; subst hj; simpa [Addr.add] using hc
  · intro v hv; simp at hv; subst hv; exact h1
  · intro j hj
    obtain rfl : j = 0 := by simp at hj; omega
    simpa using hsp
  · simpa [World.setCells] using hK
theorem own_pop1 {w : World} {base e g m c : Nat} {xs : List Value} {u v : Value} (h : w.ownsRow base e 1 (.slice (some ⟨g, 0, none⟩) (m + 2) c) (m + 2) (xs ++ [u, v])) :
    w.ownsRow base e 1 (.slice (some ⟨g, 0, none⟩) (m + 1) c) (m + 1) (xs ++ [u]) ∧ w.frozen? ⟨g, m, none⟩ = false := by
  have hl : xs.length = m := by have := h.1; simp at this; omega
  exact ⟨ownsRow_pop (size := 1) (last := [v]) (by simp; omega) (by simpa using h), h.frozenAt m⟩
theorem set_last {α : Type} (xs : List α) (u v : α) (m : Nat) (h : xs.length = m) : (xs ++ [u]).set m v = xs ++ [v] := by
  rw [List.set_append_right _ _ (by omega), ← h]; simp
theorem spare_of {wr : World} {g m : Nat} {u : Value} (hg : g < wr.heap.size) (h1 : wr.cell? ⟨g, m, none⟩ = some u) (h2 : wr.frozen? ⟨g, m, none⟩ = false) (c : Array Value) (t : TypeId) :
    (((wr.drew).alloc (.cells c t)).cell? ⟨g, m, none⟩).isSome = true ∧ ((wr.drew).alloc (.cells c t)).frozen? ⟨g, m, none⟩ = false := by
  refine ⟨?_, ?_⟩
  · rw [World.cell?_alloc_lt _ _ _ (by exact hg)]; show (wr.cell? _).isSome = true; rw [h1]; rfl
  · rw [World.frozen?_alloc_past _ _ _ (by exact hg)]; exact h2
theorem keep_set {w : World} {g m : Nat} {u v : Value} (h : w.cell? ⟨g, m + 1, none⟩ = some v) : (w.setCell ⟨g, m, none⟩ u).cell? ⟨g, m + 1, none⟩ = some v := by
  rw [World.cell?_setCell_other w _ _ _ (by simp)]; exact h
set_option maxRecDepth 100000 in
set_option maxHeartbeats 4000000 in
theorem sEval_any (v vb : Value) (l : List Nd) (bs : List Bool) (w : World) (h : NodesR w w.heap.size v l) (hb : BoolsR w w.heap.size vb bs) (hv : lvalid l bs.length = true) :
    Calls Try.prog 16 #[v, vb] w (EvP w (val (bAlg bs) l)) := by
  have hle := lvalid_len hv
  have HV := Lib.hid hv
  obtain ⟨A, c, rfl, hr, hl, hf⟩ := h
  obtain ⟨A2, c2, rfl, hr2, hl2⟩ := hb
  clear hv hf
  go_enter Try.func16, Try.ntmps16
  go_wp2
  go_loopw [5, 6] (fun sv i wr => ∃ (k : Nat) (st : List Bool), k ≤ l.length ∧ i = .int .i64 k ∧ Hid (ev (bAlg bs) (l.take k) [] = st) ∧ OwnB wr w.heap.size sv st.reverse ∧ Below w.heap.size w wr) (fun _ i _ => l.length - (intOf i).toNat)
  case atStart => exact ⟨0, [], by omega, rfl, Lib.hid rfl, own_lit0 rfl (by omega), (Below.refl _ _).alloc (Nat.le_refl _) _⟩
  case round =>
    obtain ⟨k, st, hk, rfl, Hst, hown, hbr⟩ := hrel
    have hsz := hbr.size
    by_cases hlt : k < l.length
    · obtain ⟨p, rfl, hpb, hc1, hc2⟩ := hr.two hlt
      have hO := ev_head (bAlg bs) HV.out k hlt
      have hNX := ev_take (bAlg bs) l k hlt
      rw [Hst.out] at hO hNX
      obtain ⟨x, hx⟩ : ∃ x, x = l[k] := ⟨_, rfl⟩
      rw [← hx] at hc1 hc2 hO hNX
      clear hx Hst
      obtain ⟨hO, hsl⟩ := hO
      have g1 := (hbr.cell (p := p.add (k * 2)) (by rw [add_block]; exact hpb)).trans hc1
      have g2 := (hbr.cell (p := ⟨(p.add (k * 2)).block, (p.add (k * 2)).off + 1, none⟩) (by show (p.add (k * 2)).block < _; rw [add_block]; exact hpb)).trans hc2
      clear hc1 hc2 hr
      have hN := nd_need hO
      have hB := nd_one hO
      clear hO
      obtain ⟨op, bit⟩ := x
      have HN := Lib.hid hNX
      clear hNX
      obtain ⟨SA, sc, rfl, hsc, -⟩ := own_form hown
      obtain ⟨n, hn⟩ : ∃ n, n = st.reverse.length := ⟨_, rfl⟩
      have hownN : wr.ownsRow w.heap.size 4 1 (.slice SA n sc) n (st.reverse.map .bool) := by rw [hn]; exact hown
      rw [← hn]
      have hnk : n ≤ k := by rw [hn]; simpa using hsl
      clear hown
      have HNn := Lib.hid hn
      clear hn
      rcases need_cases hN.1 with rfl | rfl | rfl | rfl | rfl | rfl | rfl
      · obtain ⟨hb0, hb1⟩ := hB rfl
        obtain ⟨j, rfl⟩ := Int.eq_ofNat_of_zero_le hb0
        have hj : j < bs.length := by simpa using hb1
        obtain ⟨q, u, rfl, hqb, hu, hcb⟩ := hr2.one hj
        have hx : u = .bool bs[j] := by rw [List.getElem?_map, List.getElem?_eq_getElem hj] at hu; simpa using hu.symm
        subst hx
        have g3 := (hbr.cell (p := q.add j) (by rw [add_block]; exact hqb)).trans hcb
        obtain ⟨y, hy⟩ : ∃ y, y = bs[j] := ⟨_, rfl⟩
        rw [← hy] at g3
        have HY : Hid (evStep (bAlg bs) st ⟨1, (j : Int)⟩ = y :: st) := by refine Lib.hid ?_; show bs.getD (j : Int).toNat false :: st = _; simp [hy, hj]
        clear hy hu hcb hr2 hb0 hb1 hB hN
        have i1 : (j : Int) < (bs.length : Int) := by omega
        go_wp2_with (at_builtin; refine wpl_append rfl _ _ 22 rfl elB rfl (hownN.alloc _) rfl (Rd.new1 _ _ _) ?_ ?_ ?_ ?_ ?_)
        · first | rfl | (intro u hu; simp at hu; subst hu; rfl)
        · omega
        · omega
        · first | omega | (simp; omega)
        intro v' w1 hown1 hg1 _
        have R : OwnB w1 w.heap.size v' (y :: st).reverse := by unfold OwnB; have h := hown1; rw [HNn.out] at h; simpa using h
        have hb1 : Below w.heap.size w w1 := (hbr.alloc (by first | exact hsz | simpa using hsz) _).grown hg1 (by simp; omega) (fun j hj => (hownN.lt j hj).1)
        have HN2 := Lib.hid (HN.out.trans HY.out)
        clear hown1 hg1 hownN HNn hbr HN
        go_wp2
        go_roundw
        case rel => exact ⟨k + 1, y :: st, by omega, by go_num, HN2, R, hb1⟩
        case measure => simp [intOf]; omega
      · have h1 : 1 ≤ st.length := by have := hN.2; unfold need at this; simp at this; omega
        obtain ⟨a, r, rfl⟩ := form1 h1
        clear hB hN h1
        obtain ⟨m, hm⟩ : ∃ m, m = r.length := ⟨_, rfl⟩
        obtain rfl : n = m + 1 := by rw [HNn.out, hm]; simp
        obtain ⟨g, rfl, hg1, hg2⟩ := own_addr hownN (by omega)
        have hown' : wr.ownsRow w.heap.size 4 1 (.slice (some ⟨g, 0, none⟩) (m + 1) sc) (m + 1) (r.reverse.map .bool ++ [.bool a]) := by simpa using hownN
        obtain ⟨-, t1, t2⟩ := own_top1 hown'
        have hst := hown'.stored m (.bool !a)
        have R : (wr.setCell ⟨g, m, none⟩ (.bool !a)).ownsRow w.heap.size 4 1 (.slice (some ⟨g, 0, none⟩) (m + 1) sc) (m + 1) (((!a) :: r).reverse.map .bool) := by
          have := hst.1
          rw [List.set_append_right _ _ (by simp [hm])] at this
          simpa [hm] using this
        have HR := Lib.hid R
        have HM := Lib.hid hm
        clear hst hownN hown' hm R hsl HNn
        have HN2 := Lib.hid (HN.out.trans (show _ = (!a) :: r from rfl))
        clear HN
        go_wp2
        go_roundw
        case rel => exact ⟨k + 1, (!a) :: r, by omega, by go_num, HN2, by have h := HR.out; unfold OwnB; rw [HM.out] at h ⊢; simpa using h, hbr.setCell (by simp; omega) _⟩
        case measure => simp [intOf]; omega
      · have h1 : 2 ≤ st.length := by have := hN.2; unfold need at this; simp at this; omega
        obtain ⟨a, b, r, rfl⟩ := form2 h1
        clear hB hN h1
        obtain ⟨m, hm⟩ : ∃ m, m = r.length := ⟨_, rfl⟩
        obtain rfl : n = m + 2 := by rw [HNn.out, hm]; simp
        obtain ⟨g, rfl, hg1, hg2⟩ := own_addr hownN (by omega)
        have hown' : wr.ownsRow w.heap.size 4 1 (.slice (some ⟨g, 0, none⟩) (m + 2) sc) (m + 2) (r.reverse.map .bool ++ [.bool b, .bool a]) := by simpa using hownN
        obtain ⟨-, t1, t2, hown2, hcap⟩ := own_top2 hown'
        obtain ⟨hown3, t3⟩ := own_pop1 hown'
        clear hownN hown' hsl HNn hown2
        have HN2 := Lib.hid (HN.out.trans (show _ = (b && a) :: r from rfl))
        have HM := Lib.hid hm
        have HO3 := Lib.hid hown3
        have HBR := Lib.hid hbr
        clear HN hm hown3 hbr
        have w0 : Value.int .i64 (IntKind.i64.wrap (m : Int)) = Value.int .i64 (m : Int) := by rw [IntWalk.i64_in _ (by omega)]
        have w1 : Value.int .i64 (IntKind.i64.wrap ((m : Int) + 2 - 1)) = Value.int .i64 ((m : Int) + 1) := by rw [IntWalk.i64_in _ (by omega), show (m : Int) + 2 - 1 = (m : Int) + 1 by omega]
        have i0 : (m : Int) ≤ (sc : Int) := by omega
        have i1 : (m : Int) < (m : Int) + 2 := by omega
        have i2 : (m : Int) + 1 < (m : Int) + 2 := by omega
        have i3 : (0 : Int) ≤ (m : Int) + 1 := by omega
        have i4 : ((m : Int) + 1).toNat = m + 1 := by omega
        have i5 : ¬ sc = 0 := by omega
        have hroom : m + 1 ≤ sc := by omega
        cases b
        · go_wp2_with fail
          refine wp_region_any (by kernel_rfl) ?_
          change wpAny _ _ _ _ _ _ _ (World.drew _)
          refine wpAny_take (i := 0) (v := ?_) rfl (by kernel_rfl) (by kernel_rfl) (by kernel_rfl) (fun _ _ _ h => h) (Or.inl ⟨by rfl, ?_⟩) ?_
          rotate_left
          · (intro w; go_simp; try with_reducible rfl)
          refine wpAny_take (i := 1) (v := ?_) rfl (by kernel_rfl) (by kernel_rfl) (by kernel_rfl) (fun _ _ _ h => h) (Or.inl ⟨by rfl, ?_⟩) ?_
          rotate_left
          · (intro w; go_simp; try with_reducible rfl)
          refine wpAny_take (i := 2) (v := ?_) rfl (by kernel_rfl) (by kernel_rfl) (by kernel_rfl) (fun _ _ _ h => h) (Or.inl ⟨by rfl, ?_⟩) ?_
          rotate_left
          · (intro w; go_simp; try with_reducible rfl)
          refine wpAny_take (i := 3) (v := ?_) rfl (by kernel_rfl) (by kernel_rfl) (by kernel_rfl) (fun _ _ _ h => h) (Or.inl ⟨by rfl, ?_⟩) ?_
          rotate_left
          · (intro w; go_simp; try with_reducible rfl)
          refine wpAny_take (i := 4) (v := ?_) rfl (by kernel_rfl) (by kernel_rfl) (by kernel_rfl) (fun _ _ _ h => h) (Or.inl ⟨by rfl, ?_⟩) ?_
          rotate_left
          · (intro w; go_simp; try with_reducible rfl)
          refine wpAny_take (i := 5) (v := ?_) rfl (by kernel_rfl) (by kernel_rfl) (by kernel_rfl) (fun _ _ _ h => h) (Or.inl ⟨by rfl, ?_⟩) ?_
          rotate_left
          · (intro w; go_simp; try with_reducible rfl)
          refine wpAny_take (i := 6) (v := ?_) rfl (by kernel_rfl) (by kernel_rfl) (by kernel_rfl) (fun _ _ _ h => h) (Or.inl ⟨by rfl, ?_⟩) ?_
          rotate_left
          · (intro w; go_simp; try with_reducible rfl)
          refine wpAny_take (i := 7) (v := ?_) rfl (by kernel_rfl) (by kernel_rfl) (by kernel_rfl) (fun _ _ _ h => h) (Or.inl ⟨by rfl, ?_⟩) ?_
          rotate_left
          · (intro w; go_simp; try with_reducible rfl)
          refine wpAny_ready (rs := [8]) (by kernel_rfl) (by simp) ?_
          refine AllReady.cons rfl (fun K hK => ?_) AllReady.nil
          go_simp
          refine hK _ _ ?_
          clear hK K
          refine wpAny_take (i := 9) (v := ?_) rfl (by kernel_rfl) (by kernel_rfl) (by kernel_rfl) (fun _ _ _ h => h) (Or.inl ⟨by rfl, ?_⟩) ?_
          rotate_left
          · (intro w; go_simp; try with_reducible rfl)
          refine wpAny_take (i := 10) (v := undef) rfl (by kernel_rfl) (by kernel_rfl) (by kernel_rfl) (fun _ _ _ h => h) (Or.inr ⟨by rfl, rfl⟩) ?_
          refine wpAny_take (i := 11) (v := undef) rfl (by kernel_rfl) (by kernel_rfl) (by kernel_rfl) (fun _ _ _ h => h) (Or.inr ⟨by rfl, rfl⟩) ?_
          refine wpAny_take (i := 12) (v := undef) rfl (by kernel_rfl) (by kernel_rfl) (by kernel_rfl) (fun _ _ _ h => h) (Or.inr ⟨by rfl, rfl⟩) ?_
          refine wpAny_take (i := 13) (v := undef) rfl (by kernel_rfl) (by kernel_rfl) (by kernel_rfl) (fun _ _ _ h => h) (Or.inr ⟨by rfl, rfl⟩) ?_
          refine wpAny_take (i := 14) (v := undef) rfl (by kernel_rfl) (by kernel_rfl) (by kernel_rfl) (fun _ _ _ h => h) (Or.inr ⟨by rfl, rfl⟩) ?_
          refine wpAny_take (i := 15) (v := ?_) rfl (by kernel_rfl) (by kernel_rfl) (by kernel_rfl) (fun _ _ _ h => h) (Or.inl ⟨by rfl, ?_⟩) ?_
          rotate_left
          · (intro w; go_simp; try with_reducible rfl)
          refine wpAny_ready (rs := [16]) (by kernel_rfl) (by simp) ?_
          refine AllReady.cons rfl (fun K hK => ?_) AllReady.nil
          go_simp
          refine hK _ _ ?_
          clear hK K
          refine wpAny_ready (rs := [17]) (by kernel_rfl) (by simp) ?_
          refine AllReady.cons rfl (fun K hK => ?_) AllReady.nil
          (refine step_push1 (by rfl) _ _ 22 (by rfl) elB g m sc (by rfl) ⟨wr.heap.size, 0, none⟩ 1 (.bool false) (by rfl) (by simp) rfl hroom (spare_of hg2 t1 t3 _ _) ?_); try go_simp
          refine hK _ _ ?_
          clear hK K
          refine wpAny_take (i := 18) (v := ?_) rfl (by kernel_rfl) (by kernel_rfl) (by kernel_rfl) (fun _ _ _ h => h) (Or.inl ⟨by rfl, ?_⟩) ?_
          rotate_left
          · (intro w; go_simp; try with_reducible rfl)
          refine wpAny_done (by kernel_rfl) ?_ _
          all_goals
            clear w0 w1 i4 i5
            have R := Lib.hid ((HO3.out.stored m (.bool false)).1.alloc (.cells #[.bool false] 4)).drew
            have hb1 : Below w.heap.size w ((wr.setCell ⟨g, m, none⟩ (.bool false)).alloc (.cells #[.bool false] 4)).drew := (((HBR.out).setCell hg1 _).alloc (by simp; omega) _).drew
            go_wp2
            go_roundw
            case rel => exact ⟨k + 1, _, by omega, by go_num, HN2, by have h := R.out; unfold OwnB; rw [set_last _ _ _ _ (by simp [HM.out])] at h; rw [HM.out] at h ⊢; simpa using h, hb1⟩
            case measure => simp [intOf]; omega
        · go_wp2_with fail
          go_region_law ((refine step_push1 (by rfl) _ _ 22 (by rfl) elB g m sc (by rfl) ⟨wr.heap.size, 0, none⟩ 1 (.bool a) (by rfl) (by simp) rfl hroom (spare_of hg2 t1 t3 _ _) ?_))
          all_goals
            clear w0 w1 i4 i5
            have R := Lib.hid ((HO3.out.stored m (.bool a)).1.alloc (.cells #[.bool a] 4)).drew
            have hb1 : Below w.heap.size w ((wr.setCell ⟨g, m, none⟩ (.bool a)).alloc (.cells #[.bool a] 4)).drew := (((HBR.out).setCell hg1 _).alloc (by simp; omega) _).drew
            go_wp2
            go_roundw
            case rel => exact ⟨k + 1, _, by omega, by go_num, HN2, by have h := R.out; unfold OwnB; rw [set_last _ _ _ _ (by simp [HM.out])] at h; rw [HM.out] at h ⊢; simpa using h, hb1⟩
            case measure => simp [intOf]; omega
      · have h1 : 2 ≤ st.length := by have := hN.2; unfold need at this; simp at this; omega
        obtain ⟨a, b, r, rfl⟩ := form2 h1
        clear hB hN h1
        obtain ⟨m, hm⟩ : ∃ m, m = r.length := ⟨_, rfl⟩
        obtain rfl : n = m + 2 := by rw [HNn.out, hm]; simp
        obtain ⟨g, rfl, hg1, hg2⟩ := own_addr hownN (by omega)
        have hown' : wr.ownsRow w.heap.size 4 1 (.slice (some ⟨g, 0, none⟩) (m + 2) sc) (m + 2) (r.reverse.map .bool ++ [.bool b, .bool a]) := by simpa using hownN
        obtain ⟨-, t1, t2, hown2, hcap⟩ := own_top2 hown'
        obtain ⟨hown3, t3⟩ := own_pop1 hown'
        clear hownN hown' hsl HNn hown2
        have HN2 := Lib.hid (HN.out.trans (show _ = (b || a) :: r from rfl))
        have HM := Lib.hid hm
        have HO3 := Lib.hid hown3
        have HBR := Lib.hid hbr
        clear HN hm hown3 hbr
        have w0 : Value.int .i64 (IntKind.i64.wrap (m : Int)) = Value.int .i64 (m : Int) := by rw [IntWalk.i64_in _ (by omega)]
        have w1 : Value.int .i64 (IntKind.i64.wrap ((m : Int) + 2 - 1)) = Value.int .i64 ((m : Int) + 1) := by rw [IntWalk.i64_in _ (by omega), show (m : Int) + 2 - 1 = (m : Int) + 1 by omega]
        have i0 : (m : Int) ≤ (sc : Int) := by omega
        have i1 : (m : Int) < (m : Int) + 2 := by omega
        have i2 : (m : Int) + 1 < (m : Int) + 2 := by omega
        have i3 : (0 : Int) ≤ (m : Int) + 1 := by omega
        have i4 : ((m : Int) + 1).toNat = m + 1 := by omega
        have i5 : ¬ sc = 0 := by omega
        have hroom : m + 1 ≤ sc := by omega
        cases b
        · go_wp2_with fail
          go_region_law ((refine step_push1 (by rfl) _ _ 22 (by rfl) elB g m sc (by rfl) ⟨wr.heap.size, 0, none⟩ 1 (.bool a) (by rfl) (by simp) rfl hroom (spare_of hg2 t1 t3 _ _) ?_))
          all_goals
            clear w0 w1 i4 i5
            have R := Lib.hid ((HO3.out.stored m (.bool a)).1.alloc (.cells #[.bool a] 4)).drew
            have hb1 : Below w.heap.size w ((wr.setCell ⟨g, m, none⟩ (.bool a)).alloc (.cells #[.bool a] 4)).drew := (((HBR.out).setCell hg1 _).alloc (by simp; omega) _).drew
            go_wp2
            go_roundw
            case rel => exact ⟨k + 1, _, by omega, by go_num, HN2, by have h := R.out; unfold OwnB; rw [set_last _ _ _ _ (by simp [HM.out])] at h; rw [HM.out] at h ⊢; simpa using h, hb1⟩
            case measure => simp [intOf]; omega
        · go_wp2_with fail
          refine wp_region_any (by kernel_rfl) ?_
          change wpAny _ _ _ _ _ _ _ (World.drew _)
          refine wpAny_take (i := 0) (v := ?_) rfl (by kernel_rfl) (by kernel_rfl) (by kernel_rfl) (fun _ _ _ h => h) (Or.inl ⟨by rfl, ?_⟩) ?_
          rotate_left
          · (intro w; go_simp; try with_reducible rfl)
          refine wpAny_take (i := 1) (v := ?_) rfl (by kernel_rfl) (by kernel_rfl) (by kernel_rfl) (fun _ _ _ h => h) (Or.inl ⟨by rfl, ?_⟩) ?_
          rotate_left
          · (intro w; go_simp; try with_reducible rfl)
          refine wpAny_take (i := 2) (v := ?_) rfl (by kernel_rfl) (by kernel_rfl) (by kernel_rfl) (fun _ _ _ h => h) (Or.inl ⟨by rfl, ?_⟩) ?_
          rotate_left
          · (intro w; go_simp; try with_reducible rfl)
          refine wpAny_take (i := 3) (v := ?_) rfl (by kernel_rfl) (by kernel_rfl) (by kernel_rfl) (fun _ _ _ h => h) (Or.inl ⟨by rfl, ?_⟩) ?_
          rotate_left
          · (intro w; go_simp; try with_reducible rfl)
          refine wpAny_take (i := 4) (v := ?_) rfl (by kernel_rfl) (by kernel_rfl) (by kernel_rfl) (fun _ _ _ h => h) (Or.inl ⟨by rfl, ?_⟩) ?_
          rotate_left
          · (intro w; go_simp; try with_reducible rfl)
          refine wpAny_take (i := 5) (v := ?_) rfl (by kernel_rfl) (by kernel_rfl) (by kernel_rfl) (fun _ _ _ h => h) (Or.inl ⟨by rfl, ?_⟩) ?_
          rotate_left
          · (intro w; go_simp; try with_reducible rfl)
          refine wpAny_take (i := 6) (v := ?_) rfl (by kernel_rfl) (by kernel_rfl) (by kernel_rfl) (fun _ _ _ h => h) (Or.inl ⟨by rfl, ?_⟩) ?_
          rotate_left
          · (intro w; go_simp; try with_reducible rfl)
          refine wpAny_take (i := 7) (v := ?_) rfl (by kernel_rfl) (by kernel_rfl) (by kernel_rfl) (fun _ _ _ h => h) (Or.inl ⟨by rfl, ?_⟩) ?_
          rotate_left
          · (intro w; go_simp; try with_reducible rfl)
          refine wpAny_ready (rs := [8]) (by kernel_rfl) (by simp) ?_
          refine AllReady.cons rfl (fun K hK => ?_) AllReady.nil
          go_simp
          refine hK _ _ ?_
          clear hK K
          refine wpAny_take (i := 9) (v := ?_) rfl (by kernel_rfl) (by kernel_rfl) (by kernel_rfl) (fun _ _ _ h => h) (Or.inl ⟨by rfl, ?_⟩) ?_
          rotate_left
          · (intro w; go_simp; try with_reducible rfl)
          refine wpAny_take (i := 10) (v := undef) rfl (by kernel_rfl) (by kernel_rfl) (by kernel_rfl) (fun _ _ _ h => h) (Or.inr ⟨by rfl, rfl⟩) ?_
          refine wpAny_take (i := 11) (v := undef) rfl (by kernel_rfl) (by kernel_rfl) (by kernel_rfl) (fun _ _ _ h => h) (Or.inr ⟨by rfl, rfl⟩) ?_
          refine wpAny_take (i := 12) (v := undef) rfl (by kernel_rfl) (by kernel_rfl) (by kernel_rfl) (fun _ _ _ h => h) (Or.inr ⟨by rfl, rfl⟩) ?_
          refine wpAny_take (i := 13) (v := undef) rfl (by kernel_rfl) (by kernel_rfl) (by kernel_rfl) (fun _ _ _ h => h) (Or.inr ⟨by rfl, rfl⟩) ?_
          refine wpAny_take (i := 14) (v := undef) rfl (by kernel_rfl) (by kernel_rfl) (by kernel_rfl) (fun _ _ _ h => h) (Or.inr ⟨by rfl, rfl⟩) ?_
          refine wpAny_take (i := 15) (v := ?_) rfl (by kernel_rfl) (by kernel_rfl) (by kernel_rfl) (fun _ _ _ h => h) (Or.inl ⟨by rfl, ?_⟩) ?_
          rotate_left
          · (intro w; go_simp; try with_reducible rfl)
          refine wpAny_ready (rs := [16]) (by kernel_rfl) (by simp) ?_
          refine AllReady.cons rfl (fun K hK => ?_) AllReady.nil
          go_simp
          refine hK _ _ ?_
          clear hK K
          refine wpAny_ready (rs := [17]) (by kernel_rfl) (by simp) ?_
          refine AllReady.cons rfl (fun K hK => ?_) AllReady.nil
          (refine step_push1 (by rfl) _ _ 22 (by rfl) elB g m sc (by rfl) ⟨wr.heap.size, 0, none⟩ 1 (.bool true) (by rfl) (by simp) rfl hroom (spare_of hg2 t1 t3 _ _) ?_); try go_simp
          refine hK _ _ ?_
          clear hK K
          refine wpAny_take (i := 18) (v := ?_) rfl (by kernel_rfl) (by kernel_rfl) (by kernel_rfl) (fun _ _ _ h => h) (Or.inl ⟨by rfl, ?_⟩) ?_
          rotate_left
          · (intro w; go_simp; try with_reducible rfl)
          refine wpAny_done (by kernel_rfl) ?_ _
          all_goals
            clear w0 w1 i4 i5
            have R := Lib.hid ((HO3.out.stored m (.bool true)).1.alloc (.cells #[.bool true] 4)).drew
            have hb1 : Below w.heap.size w ((wr.setCell ⟨g, m, none⟩ (.bool true)).alloc (.cells #[.bool true] 4)).drew := (((HBR.out).setCell hg1 _).alloc (by simp; omega) _).drew
            go_wp2
            go_roundw
            case rel => exact ⟨k + 1, _, by omega, by go_num, HN2, by have h := R.out; unfold OwnB; rw [set_last _ _ _ _ (by simp [HM.out])] at h; rw [HM.out] at h ⊢; simpa using h, hb1⟩
            case measure => simp [intOf]; omega
      · have h1 : 2 ≤ st.length := by have := hN.2; unfold need at this; simp at this; omega
        obtain ⟨a, b, r, rfl⟩ := form2 h1
        clear hB hN h1
        obtain ⟨m, hm⟩ : ∃ m, m = r.length := ⟨_, rfl⟩
        obtain rfl : n = m + 2 := by rw [HNn.out, hm]; simp
        obtain ⟨g, rfl, hg1, hg2⟩ := own_addr hownN (by omega)
        have hown' : wr.ownsRow w.heap.size 4 1 (.slice (some ⟨g, 0, none⟩) (m + 2) sc) (m + 2) (r.reverse.map .bool ++ [.bool b, .bool a]) := by simpa using hownN
        obtain ⟨-, t1, t2, hown2, hcap⟩ := own_top2 hown'
        obtain ⟨hown3, t3⟩ := own_pop1 hown'
        clear hownN hown' hsl HNn hown2
        have HN2 := Lib.hid (HN.out.trans (show _ = (b != a) :: r from rfl))
        have HM := Lib.hid hm
        have HO3 := Lib.hid hown3
        have HBR := Lib.hid hbr
        clear HN hm hown3 hbr
        have w0 : Value.int .i64 (IntKind.i64.wrap (m : Int)) = Value.int .i64 (m : Int) := by rw [IntWalk.i64_in _ (by omega)]
        have w1 : Value.int .i64 (IntKind.i64.wrap ((m : Int) + 2 - 1)) = Value.int .i64 ((m : Int) + 1) := by rw [IntWalk.i64_in _ (by omega), show (m : Int) + 2 - 1 = (m : Int) + 1 by omega]
        have i0 : (m : Int) ≤ (sc : Int) := by omega
        have i1 : (m : Int) < (m : Int) + 2 := by omega
        have i2 : (m : Int) + 1 < (m : Int) + 2 := by omega
        have i3 : (0 : Int) ≤ (m : Int) + 1 := by omega
        have i4 : ((m : Int) + 1).toNat = m + 1 := by omega
        have i5 : ¬ sc = 0 := by omega
        have hroom : m + 1 ≤ sc := by omega
        cases b
        · go_wp2_with fail
          go_region_law ((refine step_push1 (by rfl) _ _ 22 (by rfl) elB g m sc (by rfl) ⟨wr.heap.size, 0, none⟩ 1 (.bool a) (by rfl) (by simp) rfl hroom (spare_of hg2 t1 t3 _ _) ?_))
          all_goals
            clear w0 w1 i4 i5
            have R := Lib.hid ((HO3.out.stored m (.bool a)).1.alloc (.cells #[.bool a] 4)).drew
            have hb1 : Below w.heap.size w ((wr.setCell ⟨g, m, none⟩ (.bool a)).alloc (.cells #[.bool a] 4)).drew := (((HBR.out).setCell hg1 _).alloc (by simp; omega) _).drew
            go_wp2
            go_roundw
            case rel => exact ⟨k + 1, _, by omega, by go_num, HN2, by have h := R.out; unfold OwnB; rw [set_last _ _ _ _ (by simp [HM.out])] at h; rw [HM.out] at h ⊢; simpa using h, hb1⟩
            case measure => simp [intOf]; omega
        · go_wp2_with fail
          go_region_law ((refine step_push1 (by rfl) _ _ 22 (by rfl) elB g m sc (by rfl) ⟨wr.heap.size, 0, none⟩ 1 (.bool (!a)) (by rfl) (by simp) rfl hroom (spare_of hg2 t1 t3 _ _) ?_))
          all_goals
            clear w0 w1 i4 i5
            have R := Lib.hid ((HO3.out.stored m (.bool (!a))).1.alloc (.cells #[.bool (!a)] 4)).drew
            have hb1 : Below w.heap.size w ((wr.setCell ⟨g, m, none⟩ (.bool (!a))).alloc (.cells #[.bool (!a)] 4)).drew := (((HBR.out).setCell hg1 _).alloc (by simp; omega) _).drew
            go_wp2
            go_roundw
            case rel => exact ⟨k + 1, _, by omega, by go_num, HN2, by have h := R.out; unfold OwnB; rw [set_last _ _ _ _ (by simp [HM.out])] at h; rw [HM.out] at h ⊢; simpa using h, hb1⟩
            case measure => simp [intOf]; omega
      · clear hB hN
        go_wp2_with (at_builtin; refine wpl_append rfl _ _ 22 rfl elB rfl (hownN.alloc _) rfl (Rd.new1 _ _ _) ?_ ?_ ?_ ?_ ?_)
        · first | rfl | (intro u hu; simp at hu; subst hu; rfl)
        · omega
        · omega
        · first | omega | (simp; omega)
        intro v' w1 hown1 hg1 _
        have R : OwnB w1 w.heap.size v' (true :: st).reverse := by unfold OwnB; have h := hown1; rw [HNn.out] at h; simpa using h
        have hb1 : Below w.heap.size w w1 := (hbr.alloc (by first | exact hsz | simpa using hsz) _).grown hg1 (by simp; omega) (fun j hj => (hownN.lt j hj).1)
        have HN2 := Lib.hid (HN.out.trans (show _ = true :: st from rfl))
        clear hown1 hg1 hownN HNn hbr HN
        go_wp2
        go_roundw
        case rel => exact ⟨k + 1, true :: st, by omega, by go_num, HN2, R, hb1⟩
        case measure => simp [intOf]; omega
      · clear hB hN
        go_wp2_with (at_builtin; refine wpl_append rfl _ _ 22 rfl elB rfl (hownN.alloc _) rfl (Rd.new1 _ _ _) ?_ ?_ ?_ ?_ ?_)
        · first | rfl | (intro u hu; simp at hu; subst hu; rfl)
        · omega
        · omega
        · first | omega | (simp; omega)
        intro v' w1 hown1 hg1 _
        have R : OwnB w1 w.heap.size v' (false :: st).reverse := by unfold OwnB; have h := hown1; rw [HNn.out] at h; simpa using h
        have hb1 : Below w.heap.size w w1 := (hbr.alloc (by first | exact hsz | simpa using hsz) _).grown hg1 (by simp; omega) (fun j hj => (hownN.lt j hj).1)
        have HN2 := Lib.hid (HN.out.trans (show _ = false :: st from rfl))
        clear hown1 hg1 hownN HNn hbr HN
        go_wp2
        go_roundw
        case rel => exact ⟨k + 1, false :: st, by omega, by go_num, HN2, R, hb1⟩
        case measure => simp [intOf]; omega
    · obtain rfl : k = l.length := by omega
      have hl1 := ev_len (bAlg bs) bs.length l [] 1 (lvalid_dep HV.out)
      have hE := Hst.out
      rw [List.take_length] at hE
      rw [hE] at hl1
      obtain ⟨a, r, rfl⟩ := form1 (show 1 ≤ st.length by omega)
      obtain rfl : r = [] := List.eq_nil_of_length_eq_zero (by simpa using hl1)
      have HE := Lib.hid (show val (bAlg bs) l = a by unfold val; rw [hE]; rfl)
      clear Hst hE hl1
      obtain ⟨SA, sc, rfl, hsc, -⟩ := own_form hown
      obtain ⟨g, rfl, hg1, hg2⟩ := own_addr hown (by simp)
      have hown' : wr.ownsRow w.heap.size 4 1 (.slice (some ⟨g, 0, none⟩) (0 + 1) sc) (0 + 1) ([] ++ [.bool a]) := hown
      obtain ⟨-, t1, t2⟩ := own_top1 hown'
      clear hown hown'
      go_wp2
      go_ret
      exact ⟨ret_bool HE.out.symm, hbr⟩
end Go.Proofs.Ytoagnajljdbobab
