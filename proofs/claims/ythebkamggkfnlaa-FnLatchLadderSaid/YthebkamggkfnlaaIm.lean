/- The program's stack machine over row sets. -/
import Derived.Test.YthebkamggkfnlaaP
import Derived.Test.YthebkamggkfnlaaNm
import Derived.WalkSmall
import Derived.StillTailTactics
namespace Go.Proofs.Ythebkamggkfnlaa
open Go.RowKit
attribute [local go_sem ↓] Go.wp_at_zero Go.wp_at_succ

/-- The sixteen columns and the stack's slice. -/
def mCells (c : Nat → Int) (v : Value) : List Value := ((List.range 16).map fun k => Value.int .u64 (c k)) ++ [v]
theorem mCells_len (c : Nat → Int) (v : Value) : (mCells c v).length = 17 := by simp [mCells]
theorem mCells_col (c : Nat → Int) (v : Value) (k : Nat) (h : k < 16) : (mCells c v)[k]? = some (.int .u64 (c k)) := by
  unfold mCells
  rw [List.getElem?_append_left (by simpa using h)]
  simp [h]
theorem mCells_top (c : Nat → Int) (v : Value) : (mCells c v)[16]? = some v := by
  unfold mCells
  rw [List.getElem?_append_right (by simp)]
  simp
theorem mCells_set (c : Nat → Int) (u v : Value) : (mCells c v).set 16 u = mCells c u := by
  unfold mCells
  rw [List.set_append_right _ _ (by simp)]
  simp
theorem elR : Elem Try.prog 90 88 (.int .u64 0) 1 8 := ⟨Try.underlying90, by kernel_rfl, rfl, by decide⟩
def stkV (st : List Int) : List Value := st.reverse.map (.int .u64)
/-- Block g holds the machine; its stack lies from base on. -/
structure MachV (w : World) (g base : Nat) (c : Nat → Int) (v : Value) (st : List Int) : Prop where
  blk : w.heap[g]? = some (.cells (mCells c v).toArray 92 (0, 0))
  own : w.ownsRow base 88 1 v st.length (stkV st)
  lt : g < base
def Mach (w : World) (g base : Nat) (c : Nat → Int) (st : List Int) : Prop := ∃ v, MachV w g base c v st
section
variable {w w' : World} {g base : Nat} {c : Nat → Int} {v : Value} {st : List Int}
theorem MachV.glt (h : MachV w g base c v st) : g < w.heap.size := (Array.getElem?_eq_some_iff.1 h.blk).1
theorem MachV.top (h : MachV w g base c v st) : w.cell? ⟨g, 16, none⟩ = some v ∧ w.frozen? ⟨g, 16, none⟩ = false := by
  refine ⟨?_, frozen_of_row w g 16 _ _ h.blk⟩
  rw [cell_of_row w g 16 _ _ _ h.blk, List.getElem?_toArray]; exact mCells_top c v
theorem MachV.col (h : MachV w g base c v st) (k : Nat) (hk : k < 16) : w.cell? ⟨g, k, none⟩ = some (.int .u64 (c k)) := by
  rw [cell_of_row w g k _ _ _ h.blk, List.getElem?_toArray]; exact mCells_col c v k hk
theorem MachV.ne (h : MachV w g base c v st) : v.ownBlock ≠ some g := fun e => by have := (h.own.lt g e).1; have := h.lt; omega
theorem MachV.below (h : MachV w g base c v st) (hb : Below w.heap.size w w') : MachV w' g base c v st :=
  ⟨(hb.block g h.glt).trans h.blk, own_below h.own hb, h.lt⟩
theorem MachV.alloc (h : MachV w g base c v st) (o : Obj) : MachV (w.alloc o) g base c v st := h.below ((Below.refl _ _).alloc (Nat.le_refl _) o)
theorem MachV.drew (h : MachV w g base c v st) : MachV w.drew g base c v st := ⟨h.blk, h.own.drew, h.lt⟩
theorem Mach.alloc (h : Mach w g base c st) (o : Obj) : Mach (w.alloc o) g base c st := by obtain ⟨v, h⟩ := h; exact ⟨v, h.alloc o⟩
theorem Mach.drew (h : Mach w g base c st) : Mach w.drew g base c st := by obtain ⟨v, h⟩ := h; exact ⟨v, h.drew⟩
theorem Mach.glt (h : Mach w g base c st) : g < w.heap.size := by obtain ⟨v, h⟩ := h; exact h.glt
theorem Mach.lt (h : Mach w g base c st) : g < base := by obtain ⟨v, h⟩ := h; exact h.lt
/-- The stack's slice is stored anew. -/
theorem MachV.put (hb : w.heap[g]? = some (.cells (mCells c v).toArray 92 (0, 0))) (hg : g < base) {u : Value} {st' : List Int} (ho : w.ownsRow base 88 1 u st'.length (stkV st')) :
    MachV (w.setCell ⟨g, 16, none⟩ u) g base c u st' := by
  refine ⟨?_, ownsRow_setCell_below ho (by exact hg) _, hg⟩
  rw [heap_setCell_same w g 16 _ _ _ hb]
  congr 2
end
def MPost (g base : Nat) (c : Nat → Int) (st : List Int) (B : Nat) (r : Value) (w : World) (e : Ending) (w' : World) : Prop := e = .returned r ∧ Mach w' g base c st ∧ Fr B g w w'
set_option maxHeartbeats 400000 in
theorem push_any (g base B : Nat) (c : Nat → Int) (st : List Int) (x : Int) (w : World) (h : Mach w g base c st) (hB : B ≤ base) (hb : base ≤ w.heap.size) (hl : st.length ≤ 1000) :
    Calls Try.prog 69 #[.pointer (some ⟨g, 0, none⟩), .int .u64 x] w (MPost g base c (x :: st) B (.tuple #[]) w) := by
  obtain ⟨v, h⟩ := h
  obtain ⟨c16, z16⟩ := h.top
  have hgl := h.glt
  have H := Lib.hid h
  have hown := h.own
  clear h
  go_enter Try.func69, Try.ntmps69
  go_wp2_with (at_builtin; refine wpl_append rfl _ _ 90 rfl elR rfl (hown.alloc _) rfl (Rd.new1 _ _ _) ?_ ?_ ?_ ?_ ?_)
  · first | rfl | (intro u hu; simp at hu; subst hu; rfl)
  · omega
  · omega
  · first | omega | (simp; omega)
  intro v' w1 hown1 hg1 _
  obtain ⟨VA, vc, rfl, -, -⟩ := own_form hown1
  have hblk : w1.heap[g]? = some (.cells (mCells c v).toArray 92 (0, 0)) := (hg1.block g (by simp; omega) (fun e => H.out.ne e.symm)).trans ((H.out.alloc _).blk)
  have d16 : w1.cell? ⟨g, 16, none⟩ = some v := by rw [cell_of_row w1 g 16 _ _ _ hblk, List.getElem?_toArray]; exact mCells_top c v
  have y16 : w1.frozen? ⟨g, 16, none⟩ = false := frozen_of_row w1 g 16 _ _ hblk
  have hF : Fr B g w w1 := ((Fr.refl B g w).alloc (by omega) _).grown hg1 (by simp; omega) (fun j hj => .inl (by have := (hown.lt j hj).1; omega))
  have R : w1.ownsRow base 88 1 (.slice VA (st.length + 1) vc) (x :: st).length (stkV (x :: st)) := by
    have := hown1; unfold stkV at this ⊢; simpa using this
  have HR := Lib.hid (MachV.put hblk H.out.lt R)
  clear hown1 hg1 hown R hblk c16 z16
  go_wp2
  go_end0
  exact ⟨rfl, ⟨_, HR.out⟩, hF.setCell (.inr rfl) _⟩
set_option maxHeartbeats 400000 in
theorem pop_any (g base B : Nat) (c : Nat → Int) (st : List Int) (x : Int) (w : World) (h : Mach w g base c (x :: st)) (hl : st.length ≤ 1000) :
    Calls Try.prog 68 #[.pointer (some ⟨g, 0, none⟩)] w (MPost g base c st B (.int .u64 x) w) := by
  obtain ⟨v, h⟩ := h
  obtain ⟨SA, sc, rfl, hsc, -⟩ := own_form h.own
  obtain ⟨gs, rfl, hg1, hg2⟩ := own_addr h.own (by simp)
  obtain ⟨m, hm⟩ : ∃ m, m = st.length := ⟨_, rfl⟩
  have hlen : (x :: st).length = m + 1 := by simp [hm]
  rw [hlen] at h hsc
  obtain ⟨c16, z16⟩ := h.top
  have hown : w.ownsRow base 88 1 (.slice (some ⟨gs, 0, none⟩) (m + 1) sc) (m + 1) (stkV st ++ [.int .u64 x]) := by have := h.own; rw [hlen] at this; unfold stkV at this ⊢; simpa using this
  have hc := hown.cellAt m (by omega)
  rw [show (stkV st ++ [Value.int .u64 x])[m]? = some (.int .u64 x) by rw [hm]; unfold stkV; simp] at hc
  have R : w.ownsRow base 88 1 (.slice (some ⟨gs, 0, none⟩) m sc) st.length (stkV st) := by
    have := ownsRow_pop (size := 1) (last := [.int .u64 x]) (by unfold stkV; simp [hm]) hown; rwa [← hm]
  have HR := Lib.hid (MachV.put h.blk h.lt R)
  have hml : m ≤ 1000 := by omega
  have i0 : ¬ sc = 0 := by omega
  clear hown R h hlen hm hl
  go_enter Try.func68, Try.ntmps68
  go_wp2
  go_ret
  exact ⟨rfl, ⟨_, HR.out⟩, (Fr.refl B g w).setCell (.inr rfl) _⟩
end Go.Proofs.Ythebkamggkfnlaa
