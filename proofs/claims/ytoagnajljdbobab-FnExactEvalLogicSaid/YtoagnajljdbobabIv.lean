/- The value of an expression for a set of bits; evaluation: the program's functions. -/
import Derived.Test.YtoagnajljdbobabIu
namespace Go.Proofs.Ytoagnajljdbobab
open Go.RowKit
attribute [local go_sem ↓] Go.wp_at_zero Go.wp_at_succ

theorem mem_numsTo (s n : Nat) (x : Int) : x ∈ numsTo s n ↔ ∃ k : Nat, k < n ∧ s.testBit k = true ∧ x = (k : Int) := by
  unfold numsTo
  simp only [List.mem_map, List.mem_filter, List.mem_range]
  exact ⟨fun ⟨k, ⟨h1, h2⟩, h3⟩ => ⟨k, h1, h2, h3.symm⟩, fun ⟨k, h1, h2, h3⟩ => ⟨k, ⟨h1, h2⟩, h3.symm⟩⟩
/-- The columns after the first k numbers of a list. -/
def colS (L : List Int) (k : Nat) (j : Nat) : Int := if (j : Int) ∈ L.take k then 18446744073709551615 else 0
theorem colS_zero (L : List Int) : mCells (colS L 0) (.slice none 0 0) = [.int .u64 0, .int .u64 0, .int .u64 0, .int .u64 0, .int .u64 0, .int .u64 0, .int .u64 0, .int .u64 0, .int .u64 0, .int .u64 0, .int .u64 0, .int .u64 0, .int .u64 0, .int .u64 0, .int .u64 0, .int .u64 0, .slice none 0 0] := by
  have h : colS L 0 = fun _ => 0 := by funext j; simp [colS]
  rw [h]; rfl
theorem colS_put (L : List Int) (k x : Nat) (h : k < L.length) (hx : L[k] = (x : Int)) : (fun j => if j = x then 18446744073709551615 else colS L k j) = colS L (k + 1) := by
  funext j
  unfold colS
  rw [List.take_succ_eq_append_getElem h, hx]
  by_cases e : j = x
  · subst e; simp
  · have e2 : ¬ ((j : Int) = (x : Int)) := by omega
    simp [e, e2]
def rowS (s : Nat) (k : Int) : Nat := if s.testBit k.toNat = true then 18446744073709551615 else 0
theorem rowS_lt (s : Nat) (k : Int) : rowS s k < 18446744073709551616 := by unfold rowS; split <;> omega
/-- The value of an expression if exactly the bits of s are true. -/
def evs (s : Nat) (l : List Nd) : Bool := evb l fun k => s.testBit k.toNat
theorem evS_val (s : Nat) (l : List Nd) {n : Nat} (hv : lvalid l n = true) (hn : n ≤ 16) : val (iAlg (colS (numsTo s 16) (numsTo s 16).length)) l = ((val (rowAlg (rowS s)) l : Nat) : Int) ∧ (val (rowAlg (rowS s)) l).testBit 0 = evs s l ∧ val (rowAlg (rowS s)) l < 18446744073709551616 := by
  refine ⟨iAlg_val _ _ l fun x hx h1 => ?_, ?_, val_lt _ l fun _ _ _ => rowS_lt _ _⟩
  · have := valid_bits (lvalid_dep hv) x hx h1
    refine ⟨?_, rowS_lt _ _⟩
    unfold colS rowS
    rw [List.take_length]
    by_cases hb : s.testBit x.bit.toNat = true
    · rw [if_pos hb, if_pos ((mem_numsTo _ _ _).2 ⟨x.bit.toNat, by omega, hb, rfl⟩)]; rfl
    · rw [if_neg hb, if_neg (fun hm => by obtain ⟨k, _, h2, h3⟩ := (mem_numsTo _ _ _).1 hm; exact hb (by rw [show x.bit.toNat = k by omega]; exact h2))]; rfl
  · rw [val_row _ l 0 (by omega)]
    unfold evs
    congr 1
    funext k
    unfold rowS
    split
    · rename_i h; rw [h]; exact testBit_all 0 (by omega)
    · rename_i h; simp at h; simp [h]
theorem evs_setTo (bs : List Bool) (l : List Nd) (hv : lvalid l bs.length = true) (h16 : bs.length ≤ 16) : evs (setTo bs bs.length) l = evb l fun k => bs.getD k.toNat false := by
  unfold evs
  refine evb_valid hv _ _ fun k h0 h1 => ?_
  rw [testBit_setTo, decide_eq_true (by omega), decide_eq_true (by omega)]; rfl
set_option maxHeartbeats 2000000 in
theorem logicValue_any (s : Nat) (v : Value) (l : List Nd) (n : Nat) (w : World) (hs : s < 65536) (h : NodesR w w.heap.size v l) (hv : lvalid l n = true) (hn : n ≤ 16) :
    Calls Try.prog 22 #[.int .u16 s, v] w (EvIP (evs s l) w) := by
  have HK := Lib.hid (fun (w' : World) (hb : Below w.heap.size w w') => h.keep (B' := w.heap.size) (fun _ hp => hb.cell hp) (Nat.le_refl _))
  obtain ⟨hE1, hE2, hE3⟩ := evS_val s l hv hn
  obtain ⟨L, hL⟩ : ∃ L, L = numsTo s 16 := ⟨_, rfl⟩
  have hx : ∀ x ∈ L, ∃ k : Nat, k < 16 ∧ x = (k : Int) := by
    intro x hx; rw [hL] at hx; obtain ⟨k, h1, _, h3⟩ := (mem_numsTo _ _ _).1 hx; exact ⟨k, h1, h3⟩
  have hL16 : L.length ≤ 16 := by rw [hL]; exact numsTo_length _ _
  rw [← hL] at hE1
  have HL := Lib.hid hL
  have HX := Lib.hid hx
  have HE1 := Lib.hid hE1
  have HE2 := Lib.hid hE2
  have HE3 := Lib.hid hE3
  have HV := Lib.hid hv
  clear hv hE1 hE2 hE3 hL hx h
  go_enter Try.func22, Try.ntmps22
  go_wp2_with fail
  refine (numbers_any s _ hs).mono ?_
  rintro e w1 ⟨v1, rfl, hO, hb1⟩
  rw [← HL.out] at hO
  obtain ⟨A, c, rfl, -, -⟩ := own_form hO
  have hk1 : w1.heap[w.heap.size]? = some (.cells (mCells (colS L 0) (.slice none 0 0)).toArray 67 (0, 0)) := by
    rw [hb1.block _ (by simp), colS_zero]; exact heap_alloc_new _ _
  have hbw : Below w.heap.size w w1 := ((Below.refl _ _).alloc (Nat.le_refl _) _).trans (hb1.mono (by simp))
  have hsz1 : w.heap.size + 1 ≤ w1.heap.size := by have := hb1.size; simpa using this
  have hO1 : OwnI w1 (w.heap.size + 1) (.slice A L.length c) L := by simpa using hO
  have HK1 := Lib.hid hk1
  clear hO hb1 hk1
  go_wp2
  go_loopw [11] (fun i wr => ∃ k : Nat, k ≤ L.length ∧ i = .int .i64 k ∧ wr.heap[w.heap.size]? = some (.cells (mCells (colS L k) (.slice none 0 0)).toArray 67 (0, 0)) ∧ OwnI wr (w.heap.size + 1) (.slice A L.length c) L ∧ Below w.heap.size w wr ∧ w.heap.size + 1 ≤ wr.heap.size) (fun i _ => L.length - (intOf i).toNat)
  case atStart => exact ⟨0, by omega, rfl, HK1.out, hO1, hbw, hsz1⟩
  case round =>
    obtain ⟨k, hk, rfl, hblk, hOr, hbr, hsz⟩ := hrel
    by_cases hlt : k < L.length
    · obtain ⟨x, hx16, hxe⟩ := HX.out L[k] (List.getElem_mem hlt)
      obtain ⟨g, rfl, hg1, hg2⟩ := own_addr hOr (by omega)
      have hc := hOr.cellAt k (by omega)
      rw [List.getElem?_map, List.getElem?_eq_getElem hlt, hxe] at hc
      simp only [Option.map_some] at hc
      have i1 : (k : Int) < (L.length : Int) := by omega
      have i2 : (x : Int) < 16 := by omega
      have c1 : wr.cell? ⟨w.heap.size, x, none⟩ = some (.int .u64 (colS L k x)) := by rw [cell_of_row wr _ x _ _ _ hblk, List.getElem?_toArray]; exact mCells_col _ _ x hx16
      have z1 : wr.frozen? ⟨w.heap.size, x, none⟩ = false := frozen_of_row wr _ x _ _ hblk
      have R := heap_setCell_same wr _ x _ _ (.int .u64 18446744073709551615) hblk
      rw [List.setIfInBounds_toArray, mCells_put _ _ x _ hx16, colS_put L k x hlt hxe] at R
      have HR := Lib.hid R
      have HO := Lib.hid (show OwnI (wr.setCell ⟨w.heap.size, x, none⟩ (.int .u64 18446744073709551615)) (w.heap.size + 1) (.slice (some ⟨g, 0, none⟩) L.length c) L from ownsRow_setCell_below hOr (by simp) _)
      clear R hblk hxe hO1 hOr
      go_wp2
      go_roundw
      case rel => exact ⟨k + 1, by omega, by go_num, HR.out, HO.out, hbr.setCell (Nat.le_refl _) _, by simp [World.setCell]; exact hsz⟩
      case measure => simp [intOf]; omega
    · obtain rfl : k = L.length := by omega
      have hM : Mach wr w.heap.size wr.heap.size (colS L L.length) [] := ⟨_, hblk, World.ownsRow_nil _ _ _ _, by omega⟩
      have HNr := Lib.hid (HK.out wr hbr)
      clear hblk hOr hO1
      go_wp2_with fail
      refine (run_any w.heap.size wr.heap.size w.heap.size (colS L L.length) v l n wr hM HNr.out (Nat.le_refl _) HV.out hn (Nat.le_refl _)).mono ?_
      rintro e w3 ⟨rfl, hb4⟩
      rw [HE1.out]
      go_wp2_with fail
      refine (rhas_any (val (rowAlg (rowS s)) l) 0 _ HE3.out (by omega)).mono ?_
      rintro e w4 ⟨rfl, rfl⟩
      go_wp2
      go_ret
      exact ⟨ret_bool (by rw [← HE2.out, Nat.testBit_zero]), hbr.trans hb4⟩
set_option maxHeartbeats 1000000 in
theorem iEvalLogic_any (vm v : Value) (m : Img) (l : List Nd) (w : World) (hm : ImgR w w.heap.size vm m) (h : NodesR w w.heap.size v l) :
    Calls Try.prog 9 #[vm, v] w (EvIP (evI m l) w) := by
  have HM := Lib.hid (fun (w' : World) (hb : Below w.heap.size w w') => hm.below hb)
  have HN := Lib.hid (fun (w' : World) (hb : Below w.heap.size w w') => h.below hb)
  obtain ⟨v1, v2, rfl, hB, ⟨A2, c2, rfl, -⟩⟩ := hm
  have HB := Lib.hid (fun (w' : World) (hb : Below w.heap.size w w') => hB.below hb)
  obtain ⟨A, c, rfl, -, -⟩ := hB
  have B0 : ∀ o, Below w.heap.size w (w.alloc o) := fun o => (Below.refl _ _).alloc (Nat.le_refl _) o
  clear h
  cases hi : imgOK m
  · have hE : evI m l = false := by unfold evI; rw [hi]; rfl
    go_enter Try.func9, Try.ntmps9
    go_wp2_with fail
    refine (iImageValid_any _ m _ (HM.out _ (B0 _))).mono ?_
    rintro e w1 ⟨rfl, hb1⟩
    go_wp2
    go_ret
    exact ⟨ret_bool hE.symm, (B0 _).trans (hb1.mono (by simp))⟩
  · have h16 : m.bits.length ≤ 16 := by unfold imgOK at hi; simp at hi; exact hi.1
    have HI := Lib.hid hi
    clear hi
    cases hv : lvalid l m.bits.length
    · have hE : evI m l = false := by unfold evI; rw [hv]; simp
      have HV := Lib.hid hv
      clear hv
      go_enter Try.func9, Try.ntmps9
      go_wp2_with fail
      refine (iImageValid_any _ m _ (HM.out _ (B0 _))).mono ?_
      rintro e w1 ⟨rfl, hb1⟩
      obtain ⟨k0, f0, l0⟩ := kept hb1 w.heap.size (by simp)
      have hb1' := (B0 (.cells #[.slice A m.bits.length c, .slice A2 m.words.length c2] 30)).trans (hb1.mono (by simp))
      have hi := HI.out
      go_wp2_with fail
      refine (iLogicValid_any v l m.bits.length _ (HN.out _ hb1')).mono ?_
      rintro e w2 ⟨rfl, hb2⟩
      have hv := HV.out
      go_wp2
      go_ret
      exact ⟨ret_bool hE.symm, hb1'.trans (hb2.mono hb1'.size)⟩
    · have hE : evI m l = evs (setTo m.bits m.bits.length) l := by rw [evs_setTo m.bits l hv h16]; unfold evI; rw [hv, HI.out]; rfl
      have HE := Lib.hid hE
      have HV := Lib.hid hv
      have hlt := setTo_lt m.bits m.bits.length
      obtain ⟨S, hS⟩ : ∃ S, S = setTo m.bits m.bits.length := ⟨_, rfl⟩
      rw [← hS] at hlt
      have HS := Lib.hid hS
      clear hv hE hS
      go_enter Try.func9, Try.ntmps9
      go_wp2_with fail
      refine (iImageValid_any _ m _ (HM.out _ (B0 _))).mono ?_
      rintro e w1 ⟨rfl, hb1⟩
      obtain ⟨k0, f0, l0⟩ := kept hb1 w.heap.size (by simp)
      have hb1' := (B0 (.cells #[.slice A m.bits.length c, .slice A2 m.words.length c2] 30)).trans (hb1.mono (by simp))
      have hi := HI.out
      go_wp2_with fail
      refine (iLogicValid_any v l m.bits.length _ (HN.out _ hb1')).mono ?_
      rintro e w2 ⟨rfl, hb2⟩
      obtain ⟨k1, f1, l1⟩ := kept hb2 w.heap.size l0
      have hb2' := hb1'.trans (hb2.mono hb1'.size)
      have hv := HV.out
      clear hb1 hb2 hb1'
      go_wp2_with fail
      refine (bitSetOf_any _ m.bits _ (HB.out _ hb2')).mono ?_
      rintro e w3 ⟨rfl, rfl⟩
      rw [← HS.out]
      clear hv hi
      go_wp2_with fail
      refine (logicValue_any S v l m.bits.length _ hlt (HN.out _ hb2') HV.out h16).mono ?_
      rintro e w3 ⟨rfl, hb3⟩
      go_wp2
      go_ret
      exact ⟨ret_bool (by rw [HE.out, ← HS.out]), hb2'.trans (hb3.mono hb2'.size)⟩
end Go.Proofs.Ytoagnajljdbobab
