/- The program's stack machine over row sets. The program's stack machine: its execution of expressions. The program's stack machine: a whole run; rows. -/
import Derived.Test.YtoagnajljdbobabP
import Derived.Test.YtoagnajljdbobabNm
import Derived.WalkSmall
import Derived.StillTailTactics
import Derived.Deep.QuietTactic
import Derived.BigQuiet
import Derived.IntWalk
import Derived.Test.YtoagnajljdbobabB
namespace Go.Proofs.Ytoagnajljdbobab
open Go.RowKit
attribute [local go_sem ↓] Go.wp_at_zero Go.wp_at_succ

/-- The sixteen columns and the stack's slice. -/
def mCells (c : Nat → Int) (v : Value) : List Value := ((List.range 16).map fun k => Value.int .u64 (c k)) ++ [v]
theorem mCells_len (c : Nat → Int) (v : Value) : (mCells c v).length = 17 := by simp [mCells]
theorem mCells_col (c : Nat → Int) (v : Value) (k : Nat) (h : k < 16) : (mCells c v)[k]? = some (.int .u64 (c k)) := by
  unfold mCells
  rw [List.getElem?_append_left (by simpa using h)]
  simp [h]
theorem mCells_top (c : Nat → Int) (v : Value) : (mCells c v)[16]? = some v := by
  unfold mCells
  rw [List.getElem?_append_right (by simp)]
  simp
theorem mCells_set (c : Nat → Int) (u v : Value) : (mCells c v).set 16 u = mCells c u := by
  unfold mCells
  rw [List.set_append_right _ _ (by simp)]
  simp
theorem elR : Elem Try.prog 65 63 (.int .u64 0) 1 8 := ⟨Try.underlying65, by kernel_rfl, rfl, by decide⟩
def stkV (st : List Int) : List Value := st.reverse.map (.int .u64)
/-- Block g holds the machine; its stack lies from base on. -/
structure MachV (w : World) (g base : Nat) (c : Nat → Int) (v : Value) (st : List Int) : Prop where
  blk : w.heap[g]? = some (.cells (mCells c v).toArray 67 (0, 0))
  own : w.ownsRow base 63 1 v st.length (stkV st)
  lt : g < base
def Mach (w : World) (g base : Nat) (c : Nat → Int) (st : List Int) : Prop := ∃ v, MachV w g base c v st
section
variable {w w' : World} {g base : Nat} {c : Nat → Int} {v : Value} {st : List Int}
theorem MachV.glt (h : MachV w g base c v st) : g < w.heap.size := (Array.getElem?_eq_some_iff.1 h.blk).1
theorem MachV.top (h : MachV w g base c v st) : w.cell? ⟨g, 16, none⟩ = some v ∧ w.frozen? ⟨g, 16, none⟩ = false := by
  refine ⟨?_, frozen_of_row w g 16 _ _ h.blk⟩
  rw [cell_of_row w g 16 _ _ _ h.blk, List.getElem?_toArray]; exact mCells_top c v
theorem MachV.col (h : MachV w g base c v st) (k : Nat) (hk : k < 16) : w.cell? ⟨g, k, none⟩ = some (.int .u64 (c k)) := by
  rw [cell_of_row w g k _ _ _ h.blk, List.getElem?_toArray]; exact mCells_col c v k hk
theorem MachV.ne (h : MachV w g base c v st) : v.ownBlock ≠ some g := fun e => by have := (h.own.lt g e).1; have := h.lt; omega
theorem MachV.below (h : MachV w g base c v st) (hb : Below w.heap.size w w') : MachV w' g base c v st :=
  ⟨(hb.block g h.glt).trans h.blk, own_below h.own hb, h.lt⟩
theorem MachV.alloc (h : MachV w g base c v st) (o : Obj) : MachV (w.alloc o) g base c v st := h.below ((Below.refl _ _).alloc (Nat.le_refl _) o)
theorem MachV.drew (h : MachV w g base c v st) : MachV w.drew g base c v st := ⟨h.blk, h.own.drew, h.lt⟩
theorem Mach.alloc (h : Mach w g base c st) (o : Obj) : Mach (w.alloc o) g base c st := by obtain ⟨v, h⟩ := h; exact ⟨v, h.alloc o⟩
theorem Mach.drew (h : Mach w g base c st) : Mach w.drew g base c st := by obtain ⟨v, h⟩ := h; exact ⟨v, h.drew⟩
theorem Mach.glt (h : Mach w g base c st) : g < w.heap.size := by obtain ⟨v, h⟩ := h; exact h.glt
theorem Mach.lt (h : Mach w g base c st) : g < base := by obtain ⟨v, h⟩ := h; exact h.lt
/-- The stack's slice is stored anew. -/
theorem MachV.put (hb : w.heap[g]? = some (.cells (mCells c v).toArray 67 (0, 0))) (hg : g < base) {u : Value} {st' : List Int} (ho : w.ownsRow base 63 1 u st'.length (stkV st')) :
    MachV (w.setCell ⟨g, 16, none⟩ u) g base c u st' := by
  refine ⟨?_, ownsRow_setCell_below ho (by exact hg) _, hg⟩
  rw [heap_setCell_same w g 16 _ _ _ hb]
  congr 2
end
def MPost (g base : Nat) (c : Nat → Int) (st : List Int) (B : Nat) (r : Value) (w : World) (e : Ending) (w' : World) : Prop := e = .returned r ∧ Mach w' g base c st ∧ Fr B g w w'
set_option maxHeartbeats 400000 in
theorem push_any (g base B : Nat) (c : Nat → Int) (st : List Int) (x : Int) (w : World) (h : Mach w g base c st) (hB : B ≤ base) (hb : base ≤ w.heap.size) (hl : st.length ≤ 1000) :
    Calls Try.prog 41 #[.pointer (some ⟨g, 0, none⟩), .int .u64 x] w (MPost g base c (x :: st) B (.tuple #[]) w) := by
  obtain ⟨v, h⟩ := h
  obtain ⟨c16, z16⟩ := h.top
  have hgl := h.glt
  have H := Lib.hid h
  have hown := h.own
  clear h
  go_enter Try.func41, Try.ntmps41
  go_wp2_with (at_builtin; refine wpl_append rfl _ _ 65 rfl elR rfl (hown.alloc _) rfl (Rd.new1 _ _ _) ?_ ?_ ?_ ?_ ?_)
  · first | rfl | (intro u hu; simp at hu; subst hu; rfl)
  · omega
  · omega
  · first | omega | (simp; omega)
  intro v' w1 hown1 hg1 _
  obtain ⟨VA, vc, rfl, -, -⟩ := own_form hown1
  have hblk : w1.heap[g]? = some (.cells (mCells c v).toArray 67 (0, 0)) := (hg1.block g (by simp; omega) (fun e => H.out.ne e.symm)).trans ((H.out.alloc _).blk)
  have d16 : w1.cell? ⟨g, 16, none⟩ = some v := by rw [cell_of_row w1 g 16 _ _ _ hblk, List.getElem?_toArray]; exact mCells_top c v
  have y16 : w1.frozen? ⟨g, 16, none⟩ = false := frozen_of_row w1 g 16 _ _ hblk
  have hF : Fr B g w w1 := ((Fr.refl B g w).alloc (by omega) _).grown hg1 (by simp; omega) (fun j hj => .inl (by have := (hown.lt j hj).1; omega))
  have R : w1.ownsRow base 63 1 (.slice VA (st.length + 1) vc) (x :: st).length (stkV (x :: st)) := by
    have := hown1; unfold stkV at this ⊢; simpa using this
  have HR := Lib.hid (MachV.put hblk H.out.lt R)
  clear hown1 hg1 hown R hblk c16 z16
  go_wp2
  go_end0
  exact ⟨rfl, ⟨_, HR.out⟩, hF.setCell (.inr rfl) _⟩
set_option maxHeartbeats 400000 in
theorem pop_any (g base B : Nat) (c : Nat → Int) (st : List Int) (x : Int) (w : World) (h : Mach w g base c (x :: st)) (hl : st.length ≤ 1000) :
    Calls Try.prog 39 #[.pointer (some ⟨g, 0, none⟩)] w (MPost g base c st B (.int .u64 x) w) := by
  obtain ⟨v, h⟩ := h
  obtain ⟨SA, sc, rfl, hsc, -⟩ := own_form h.own
  obtain ⟨gs, rfl, hg1, hg2⟩ := own_addr h.own (by simp)
  obtain ⟨m, hm⟩ : ∃ m, m = st.length := ⟨_, rfl⟩
  have hlen : (x :: st).length = m + 1 := by simp [hm]
  rw [hlen] at h hsc
  obtain ⟨c16, z16⟩ := h.top
  have hown : w.ownsRow base 63 1 (.slice (some ⟨gs, 0, none⟩) (m + 1) sc) (m + 1) (stkV st ++ [.int .u64 x]) := by have := h.own; rw [hlen] at this; unfold stkV at this ⊢; simpa using this
  have hc := hown.cellAt m (by omega)
  rw [show (stkV st ++ [Value.int .u64 x])[m]? = some (.int .u64 x) by rw [hm]; unfold stkV; simp] at hc
  have R : w.ownsRow base 63 1 (.slice (some ⟨gs, 0, none⟩) m sc) st.length (stkV st) := by
    have := ownsRow_pop (size := 1) (last := [.int .u64 x]) (by unfold stkV; simp [hm]) hown; rwa [← hm]
  have HR := Lib.hid (MachV.put h.blk h.lt R)
  have hml : m ≤ 1000 := by omega
  have i0 : ¬ sc = 0 := by omega
  clear hown R h hlen hm hl
  go_enter Try.func39, Try.ntmps39
  go_wp2
  go_ret
  exact ⟨rfl, ⟨_, HR.out⟩, (Fr.refl B g w).setCell (.inr rfl) _⟩
end Go.Proofs.Ytoagnajljdbobab

namespace Go.Proofs.Ytoagnajljdbobab
open Go.RowKit
attribute [local go_sem ↓] Go.wp_at_zero Go.wp_at_succ

/-- The algebra of the program's own operations. -/
def iAlg (c : Nat → Int) : Alg Int := ⟨fun k => c k.toNat, fun a => bits .xor .u64 18446744073709551615 a, fun b a => bits .and .u64 a b, fun b a => bits .or .u64 a b, fun b a => bits .xor .u64 a b, 18446744073709551615, 0⟩
theorem i_nd {n : Int} {x : Nd} {d : Nat} (h : ndOK n x d = true) : 0 ≤ need x.op ∧ need x.op ≤ (d : Int) := by
  unfold ndOK at h; simp at h; exact ⟨h.1.1, h.2⟩
theorem i_bit {n : Int} {x : Nd} {d : Nat} (h : ndOK n x d = true) (h1 : x.op = 1) : 0 ≤ x.bit ∧ x.bit < n := by
  unfold ndOK bitOK at h; simp [h1] at h; exact h.1.2
theorem i_cases {op : Int} (h : 0 ≤ need op) : op = 1 ∨ op = 2 ∨ op = 3 ∨ op = 4 ∨ op = 5 ∨ op = 6 ∨ op = 7 := by
  unfold need at h
  repeat' split at h
  all_goals omega
theorem i_one {α : Type} {st : List α} (h : 1 ≤ st.length) : ∃ a r, st = a :: r := by
  rcases st with _ | ⟨a, r⟩
  · simp at h
  · exact ⟨a, r, rfl⟩
theorem i_two {α : Type} {st : List α} (h : 2 ≤ st.length) : ∃ a b r, st = a :: b :: r := by
  rcases st with _ | ⟨a, _ | ⟨b, r⟩⟩
  · simp at h
  · simp at h
  · exact ⟨a, b, r, rfl⟩
set_option maxRecDepth 100000 in
set_option maxHeartbeats 2000000 in
theorem execute_any (g base B : Nat) (c : Nat → Int) (st : List Int) (op bit : Int) (n : Nat) (w : World) (h : Mach w g base c st) (hO : ndOK n ⟨op, bit⟩ st.length = true) (hn : n ≤ 16) (hB : B ≤ base) (hb : base ≤ w.heap.size) (hl : st.length ≤ 900) :
    Calls Try.prog 38 #[.pointer (some ⟨g, 0, none⟩), .agg #[.int .i64 op, .int .i64 bit]] w (MPost g base c (evStep (iAlg c) st ⟨op, bit⟩) B (.tuple #[]) w) := by
  have hN := i_nd hO
  have hBt := i_bit hO
  have h1 : ∀ o, Mach (w.alloc o) g base c st := fun o => h.alloc o
  have F1 : ∀ o, Fr B g w (w.alloc o) := fun o => (Fr.refl B g w).alloc (by omega) o
  have hgl := h.glt
  clear hO
  rcases i_cases hN.1 with rfl | rfl | rfl | rfl | rfl | rfl | rfl
  · obtain ⟨b0, b1⟩ := hBt rfl
    obtain ⟨j, rfl⟩ := Int.eq_ofNat_of_zero_le b0
    have hj : j < 16 := by simp at b1; omega
    have hc : w.cell? ⟨g, j, none⟩ = some (.int .u64 (c j)) := by obtain ⟨v, hv⟩ := h; exact hv.col j hj
    have i1 : (j : Int) < 16 := by omega
    have e1 : (w.alloc (.cells #[.int .i64 1, .int .i64 (j : Int)] 45)).cell? ⟨w.heap.size, 1, none⟩ = some (.int .i64 (j : Int)) := by rw [cell_of_row _ _ 1 _ _ _ (heap_alloc_new w _)]; rfl
    have e2 : (w.alloc (.cells #[.int .i64 1, .int .i64 (j : Int)] 45)).cell? ⟨g, j, none⟩ = some (.int .u64 (c j)) := by rw [World.cell?_alloc_lt w _ _ (by exact hgl)]; exact hc
    have HM := h1 (.cells #[.int .i64 1, .int .i64 (j : Int)] 45)
    have HF := F1 (.cells #[.int .i64 1, .int .i64 (j : Int)] 45)
    clear h1 F1 b1 b0 hN hBt h hc
    go_enter Try.func38, Try.ntmps38
    go_wp2_with fail
    generalize w.alloc (.cells #[.int .i64 1, .int .i64 (j : Int)] 45) = W at e1 e2 HM HF ⊢
    have hsW := HF.size
    go_still_tail 8, (by kernel_rfl)
    go_wp2_with fail
    refine (push_any g base B c st (c j) _ HM.drew hB (by show base ≤ W.heap.size; omega) (by omega)).mono ?_
    rintro e w2 ⟨rfl, hM2, hF2⟩
    go_wp2
    go_end0
    exact ⟨rfl, hM2, HF.drew.trans hF2⟩
  · obtain ⟨a, r, rfl⟩ := i_one (show 1 ≤ st.length by have := hN.2; unfold need at this; simp at this; omega)
    have HM := Lib.hid h1
    have HF := Lib.hid F1
    clear h1 F1 hN hBt h
    simp at hl
    go_enter Try.func38, Try.ntmps38
    go_wp2_with fail
    refine (pop_any g base B c r a _ (HM.out _) (by omega)).mono ?_
    rintro e w1 ⟨rfl, hM1, hF1⟩
    replace hF1 := (HF.out _).trans hF1
    have hs1 := hF1.size
    go_wp2_with fail
    refine (push_any g base B c r _ _ hM1 hB (by omega) (by omega)).mono ?_
    rintro e w2 ⟨rfl, hM2, hF2⟩
    go_wp2
    go_end0
    exact ⟨rfl, hM2, hF1.trans hF2⟩
  iterate 3
    · obtain ⟨a, b, r, rfl⟩ := i_two (show 2 ≤ st.length by have := hN.2; unfold need at this; simp at this; omega)
      have HM := Lib.hid h1
      have HF := Lib.hid F1
      clear h1 F1 hN hBt h
      simp at hl
      go_enter Try.func38, Try.ntmps38
      go_wp2_with fail
      refine (pop_any g base B c (b :: r) a _ (HM.out _) (by simp; omega)).mono ?_
      rintro e w1 ⟨rfl, hM1, hF1⟩
      replace hF1 := (HF.out _).trans hF1
      have hs1 := hF1.size
      go_wp2_with fail
      refine (pop_any g base B c r b _ hM1 (by omega)).mono ?_
      rintro e w2 ⟨rfl, hM2, hF2⟩
      replace hF2 := hF1.trans hF2
      have hs2 := hF2.size
      clear hM1 hF1 hs1
      go_wp2_with fail
      refine (push_any g base B c r _ _ hM2 hB (by omega) (by omega)).mono ?_
      rintro e w3 ⟨rfl, hM3, hF3⟩
      go_wp2
      go_end0
      exact ⟨rfl, hM3, hF2.trans hF3⟩
  iterate 2
    · have HM := Lib.hid h1
      have HF := Lib.hid F1
      clear h1 F1 hN hBt h
      go_enter Try.func38, Try.ntmps38
      go_wp2_with fail
      refine (push_any g base B c st _ _ (HM.out _) hB ?_ (by omega)).mono ?_
      · simp; omega
      rintro e w2 ⟨rfl, hM2, hF2⟩
      go_wp2
      go_end0
      exact ⟨rfl, hM2, (HF.out _).trans hF2⟩
end Go.Proofs.Ytoagnajljdbobab

namespace Go.Proofs.Ytoagnajljdbobab
open Go.RowKit
attribute [local go_sem ↓] Go.wp_at_zero Go.wp_at_succ

theorem ev_takeI {α : Type} (A : Alg α) (l : List Nd) (k : Nat) (h : k < l.length) : ev A (l.take (k + 1)) [] = evStep A (ev A (l.take k) []) l[k] := by
  rw [take_snocN l k h, ev_snoc]
theorem ev_headI {α : Type} (A : Alg α) {l : List Nd} {n : Int} (h : lvalid l n = true) (k : Nat) (hk : k < l.length) : ndOK n l[k] (ev A (l.take k) []).length = true ∧ (ev A (l.take k) []).length ≤ k := by
  obtain ⟨f, h1, h2⟩ := dep_prefix (lvalid_dep h) k
  have h3 := ev_len A n (l.take k) [] f h1
  rw [h3]
  refine ⟨h2 hk, ?_⟩
  have := depOf_le n (l.take k) 0 f h1
  simp at this; omega
def RunP (B : Nat) (r : Value) (w : World) (e : Ending) (w' : World) : Prop := e = .returned r ∧ Below B w w'
theorem Mach.below {w w' : World} {g base : Nat} {c : Nat → Int} {st : List Int} (h : Mach w g base c st) (hb : Below w.heap.size w w') : Mach w' g base c st := by obtain ⟨v, h⟩ := h; exact ⟨v, h.below hb⟩
set_option maxHeartbeats 1000000 in
theorem run_any (g base B : Nat) (c : Nat → Int) (v : Value) (l : List Nd) (n : Nat) (w : World) (hM : Mach w g base c []) (hN : NodesR w B v l) (hBg : B ≤ g) (hv : lvalid l n = true) (hn : n ≤ 16) (hb : base ≤ w.heap.size) :
    Calls Try.prog 33 #[.pointer (some ⟨g, 0, none⟩), v] w (RunP B (.int .u64 (val (iAlg c) l)) w) := by
  have hle := lvalid_len hv
  have HV := Lib.hid hv
  have hgb := hM.lt
  obtain ⟨A, c0, rfl, hr, hl, hf⟩ := hN
  clear hv hf
  go_enter Try.func33, Try.ntmps33
  go_wp2
  go_loopw [9] (fun i wr => ∃ (k : Nat) (st : List Int), k ≤ l.length ∧ i = .int .i64 k ∧ Hid (ev (iAlg c) (l.take k) [] = st) ∧ Mach wr g base c st ∧ Fr B g w wr) (fun i _ => l.length - (intOf i).toNat)
  case atStart => exact ⟨0, [], by omega, rfl, Lib.hid rfl, hM, Fr.refl _ _ _⟩
  case round =>
    obtain ⟨k, st, hk, rfl, Hst, hMr, hF⟩ := hrel
    have hsz := hF.size
    by_cases hlt : k < l.length
    · obtain ⟨p, rfl, hpb, hc1, hc2⟩ := hr.two hlt
      have hO := ev_headI (iAlg c) HV.out k hlt
      have hNX := ev_takeI (iAlg c) l k hlt
      rw [Hst.out] at hO hNX
      obtain ⟨x, hx⟩ : ∃ x, x = l[k] := ⟨_, rfl⟩
      rw [← hx] at hc1 hc2 hO hNX
      clear hx Hst
      obtain ⟨hO, hsl⟩ := hO
      have g1 := ((World.cell?_of_block (w := w) (a := p.add (k * 2)) (hF.block _ (by rw [add_block]; exact hpb) (by rw [add_block]; omega)))).trans hc1
      have g2 := ((World.cell?_of_block (w := w) (a := ⟨(p.add (k * 2)).block, (p.add (k * 2)).off + 1, none⟩) (hF.block _ (by show (p.add (k * 2)).block < _; rw [add_block]; exact hpb) (by show (p.add (k * 2)).block ≠ _; rw [add_block]; omega)))).trans hc2
      clear hc1 hc2 hr
      obtain ⟨op, bit⟩ := x
      have HN := Lib.hid hNX
      have HO := Lib.hid hO
      clear hNX hO
      go_wp2_with fail
      refine (execute_any g base B c st op bit n _ (hMr.alloc _) HO.out hn (by omega) (by simp; omega) (by omega)).mono ?_
      rintro e w2 ⟨rfl, hM2, hF2⟩
      have hF3 := (hF.alloc (by have := hMr.glt; omega) _).trans hF2
      clear hMr hF hF2
      go_wp2
      go_roundw
      case rel => exact ⟨k + 1, _, by omega, by go_num, HN, hM2, hF3⟩
      case measure => simp [intOf]; omega
    · obtain rfl : k = l.length := by omega
      have hl1 := ev_len (iAlg c) n l [] 1 (lvalid_dep HV.out)
      have hE := Hst.out
      rw [List.take_length] at hE
      rw [hE] at hl1
      obtain ⟨a, r, rfl⟩ := i_one (show 1 ≤ st.length by omega)
      obtain rfl : r = [] := List.eq_nil_of_length_eq_zero (by simpa using hl1)
      have HE := Lib.hid (show val (iAlg c) l = a by unfold val; rw [hE]; rfl)
      clear Hst hE hl1
      go_wp2_with fail
      refine (pop_any g base B c [] a _ hMr (by simp)).mono ?_
      rintro e w2 ⟨rfl, hM2, hF2⟩
      go_wp2
      go_ret
      exact ⟨by rw [HE.out]; rfl, (hF.trans hF2).below hBg⟩
/-- The algebra of the program's operations goes along with the algebra of rows. -/
theorem iAlg_step (c : Nat → Int) (d : Int → Nat) (x : Nd) (st : List Nat) (hc : x.op = 1 → c x.bit.toNat = (d x.bit : Int) ∧ d x.bit < 18446744073709551616) (hs : ∀ v ∈ st, v < 18446744073709551616) :
    evStep (iAlg c) (st.map Int.ofNat) x = (evStep (rowAlg d) st x).map Int.ofNat := by
  have a0 : ∀ a : Nat, a < 18446744073709551616 → bits .xor .u64 18446744073709551615 (Int.ofNat a) = Int.ofNat (18446744073709551615 ^^^ a) := fun a ha => u64_xor_nat 18446744073709551615 a (by omega) ha
  have a1 : ∀ a b : Nat, a < 18446744073709551616 → b < 18446744073709551616 → bits .and .u64 (Int.ofNat a) (Int.ofNat b) = Int.ofNat (b &&& a) := fun a b ha hb => by rw [Nat.and_comm]; exact u64_and_nat a b ha hb
  have a2 : ∀ a b : Nat, a < 18446744073709551616 → b < 18446744073709551616 → bits .or .u64 (Int.ofNat a) (Int.ofNat b) = Int.ofNat (b ||| a) := fun a b ha hb => by rw [Nat.or_comm]; exact u64_or_nat a b ha hb
  have a3 : ∀ a b : Nat, a < 18446744073709551616 → b < 18446744073709551616 → bits .xor .u64 (Int.ofNat a) (Int.ofNat b) = Int.ofNat (b ^^^ a) := fun a b ha hb => by rw [Nat.xor_comm]; exact u64_xor_nat a b ha hb
  unfold evStep
  by_cases h1 : x.op = 1
  · simp only [h1, if_true, List.map_cons]
    congr 1
    exact (hc h1).1
  · simp only [h1, if_false]
    rcases st with _ | ⟨a, _ | ⟨b, r⟩⟩
    · simp only [List.map_nil]
      repeat' split
      all_goals rfl
    · have ha := hs a (by simp)
      simp only [List.map_cons, List.map_nil]
      repeat' split
      all_goals first | rfl | (show _ :: _ = Int.ofNat _ :: _; rw [show (iAlg c).no (Int.ofNat a) = _ from a0 a ha]; rfl)
    · have ha := hs a (by simp)
      have hb := hs b (by simp)
      simp only [List.map_cons]
      split
      · rw [show (iAlg c).no (Int.ofNat a) = _ from a0 a ha]; rfl
      split
      · rw [show (iAlg c).an (Int.ofNat b) (Int.ofNat a) = _ from a1 a b ha hb]; rfl
      split
      · rw [show (iAlg c).or_ (Int.ofNat b) (Int.ofNat a) = _ from a2 a b ha hb]; rfl
      split
      · rw [show (iAlg c).xo (Int.ofNat b) (Int.ofNat a) = _ from a3 a b ha hb]; rfl
      split <;> rfl
theorem iAlg_ev (c : Nat → Int) (d : Int → Nat) (l : List Nd) (st : List Nat) (hc : ∀ x ∈ l, x.op = 1 → c x.bit.toNat = (d x.bit : Int) ∧ d x.bit < 18446744073709551616) (hs : ∀ v ∈ st, v < 18446744073709551616) :
    ev (iAlg c) l (st.map Int.ofNat) = (ev (rowAlg d) l st).map Int.ofNat := by
  induction l generalizing st with
  | nil => rfl
  | cons x l ih =>
    show ev (iAlg c) l (evStep (iAlg c) (st.map Int.ofNat) x) = (ev (rowAlg d) l (evStep (rowAlg d) st x)).map Int.ofNat
    rw [iAlg_step c d x st (hc x (by simp)) hs]
    exact ih _ (fun y hy => hc y (by simp [hy])) (evStep_lt d x st (fun h => (hc x (by simp) h).2) hs)
theorem iAlg_val (c : Nat → Int) (d : Int → Nat) (l : List Nd) (hc : ∀ x ∈ l, x.op = 1 → c x.bit.toNat = (d x.bit : Int) ∧ d x.bit < 18446744073709551616) : val (iAlg c) l = ((val (rowAlg d) l : Nat) : Int) := by
  have h := iAlg_ev c d l [] hc (by simp)
  unfold val
  rw [show ev (iAlg c) l [] = _ from h]
  cases ev (rowAlg d) l [] <;> rfl
end Go.Proofs.Ytoagnajljdbobab
