/- The law of ChangedBits: its walk. -/
import Derived.Test.YtoagnajljdbobaaDC
import Derived.Test.YtoagnajljdbobaaEG
import Derived.StillTailTactics
namespace Go.Proofs.Ytoagnajljdbobaa
open Go.RowKit
attribute [local go_sem ↓] Go.wp_at_zero Go.wp_at_succ

/-- The bits of b at the numbers of a list, put into a one by one. -/
def stepsM (a b : Img) (l : List Int) : Img := l.foldl (fun m n => setBitM m n (getB b.bits n)) a
theorem steps_take (a b : Img) (l : List Int) (k : Nat) (h : k < l.length) : stepsM a b (l.take (k + 1)) = setBitM (stepsM a b (l.take k)) l[k] (getB b.bits l[k]) := by
  unfold stepsM; rw [List.take_succ_eq_append_getElem h, List.foldl_append]; rfl
theorem imgOK_setBit (m : Img) (n : Int) (b : Bool) (h : imgOK m = true) : imgOK (setBitM m n b) = true := by
  have e1 := setBit_len n b h
  have e2 := setBit_words n b h
  unfold imgOK at h ⊢
  rw [e1, e2]; exact h
theorem getD_setBit (m : Img) (n : Int) (b : Bool) (h : imgOK m = true) (k : Nat) (hk : k < m.bits.length) : (setBitM m n b).bits.getD k false = if (k : Int) = n then b else m.bits.getD k false := by
  have e1 := setBit_len n b h
  rw [List.getD_eq_getElem?_getD, List.getElem?_eq_getElem (by omega), List.getD_eq_getElem?_getD, List.getElem?_eq_getElem hk]
  exact setBit_at n b h hk (by omega)
theorem steps_ok (b : Img) (l : List Int) : ∀ (a : Img), imgOK a = true → a.bits.length = b.bits.length → imgOK (stepsM a b l) = true ∧ (stepsM a b l).bits.length = a.bits.length ∧
    ∀ j, j < a.bits.length → (stepsM a b l).bits.getD j false = if (j : Int) ∈ l then b.bits.getD j false else a.bits.getD j false := by
  induction l with
  | nil => intro a h _; exact ⟨h, rfl, fun j _ => by simp [stepsM]⟩
  | cons n l ih =>
    intro a h hl
    have e1 := setBit_len n (getB b.bits n) h
    obtain ⟨g1, g2, g3⟩ := ih (setBitM a n (getB b.bits n)) (imgOK_setBit _ _ _ h) (by omega)
    have e : stepsM a b (n :: l) = stepsM (setBitM a n (getB b.bits n)) b l := rfl
    rw [e]
    refine ⟨g1, by omega, fun j hj => ?_⟩
    rw [g3 j (by omega), getD_setBit _ _ _ h j hj]
    by_cases hm : (j : Int) ∈ l
    · simp [hm]
    · by_cases hn : (j : Int) = n
      · have : getB b.bits n = b.bits.getD j false := by
          rw [← hn, getB_in (by omega), List.getD_eq_getElem?_getD, List.getElem?_eq_getElem (show j < b.bits.length by omega)]; rfl
        rw [if_neg hm, if_pos hn, this, if_pos (by rw [hn]; exact List.mem_cons_self)]
      · rw [if_neg hm, if_neg hn, if_neg (by intro hc; rcases List.mem_cons.1 hc with hc | hc; exact hn hc; exact hm hc)]
theorem mem_diff (a b : List Bool) (n j : Nat) (hj : j < n) : (j : Int) ∈ diffTo a b n ↔ a.getD j false ≠ b.getD j false := by
  unfold diffTo
  simp only [List.mem_map, List.mem_filter, List.mem_range, bne_iff_ne]
  constructor
  · rintro ⟨k, ⟨_, h⟩, e⟩
    obtain rfl : k = j := by omega
    exact h
  · intro h
    exact ⟨j, ⟨hj, h⟩, rfl⟩
theorem steps_all (a b : Img) (h : imgOK a = true) (hl : a.bits.length = b.bits.length) : (stepsM a b (diffTo a.bits b.bits a.bits.length)).bits = b.bits := by
  obtain ⟨-, g2, g3⟩ := steps_ok b (diffTo a.bits b.bits a.bits.length) a h hl
  apply List.ext_getElem
  · omega
  · intro j h1 h2
    have e := g3 j (by omega)
    rw [List.getD_eq_getElem?_getD, List.getElem?_eq_getElem h1, List.getD_eq_getElem?_getD, List.getElem?_eq_getElem h2] at e
    have hm := mem_diff a.bits b.bits a.bits.length j (by omega)
    by_cases hd : a.bits.getD j false = b.bits.getD j false
    · have hn : ¬ (j : Int) ∈ diffTo a.bits b.bits a.bits.length := fun hc => (hm.1 hc) hd
      rw [if_neg hn, hd, List.getD_eq_getElem?_getD, List.getElem?_eq_getElem h2] at e
      exact e
    · rw [if_pos (hm.2 hd)] at e
      exact e
theorem diff_comm (a b : Img) : diffM a b = diffM b a := by
  unfold diffM
  by_cases h : a.bits.length = b.bits.length
  · have e : diffTo a.bits b.bits a.bits.length = diffTo b.bits a.bits b.bits.length := by
      unfold diffTo; rw [h]; congr 1; apply List.filter_congr; intro k _
      cases a.bits.getD k false <;> cases b.bits.getD k false <;> rfl
    rw [e]
    cases imgOK a <;> cases imgOK b <;> simp [h]
  · simp [h, Ne.symm h]
theorem diff_self (a : Img) : diffM a a = [] := by
  unfold diffM
  split
  · unfold diffTo; simp
  · rfl
theorem small_steps (b : Img) {x y : Nat} (l : List Int) : ∀ (a : Img), smallM a x y → smallM (stepsM a b l) x y := by
  induction l with
  | nil => intro a h; exact h
  | cons n l ih => intro a h; exact ih _ (small_setBit n _ h)
theorem diff_small (a b : Img) (h : smallM a 17 9) : (diffM a b).length ≤ 17 := Nat.le_trans (diff_len a b) h.1
theorem Held.new2 {w : World} {b : Nat} {A1 A2 : Option Addr} {c1 c2 : Nat} {m : Img} (h : OwnM w b (.agg #[.slice A1 m.bits.length c1, .slice A2 m.words.length c2]) m) (hs : smallM m 100 100) (o : Obj) :
    Held ((w.alloc o).alloc (.cells #[.slice A1 m.bits.length c1, .slice A2 m.words.length c2] 26)) (w.heap.size + 1) A1 c1 A2 c2 m :=
  ⟨heap_alloc2 _ _ _, ((h.read hs).below ((Below.refl _ _).alloc (Nat.le_refl _) _)).below ((Below.refl _ _).alloc (Nat.le_refl _) _)⟩
/-- The image in block k is written anew. -/
theorem Held.store {w w' : World} {k : Nat} {A1 A2 Y1 Y2 : Option Addr} {c1 c2 y1 y2 : Nat} {m m' : Img} (h : Held w k A1 c1 A2 c2 m) (hb : Below w.heap.size w w') (ho : OwnM w' w.heap.size (.agg #[.slice Y1 m'.bits.length y1, .slice Y2 m'.words.length y2]) m') (hs : smallM m' 100 100) :
    Held ((w'.setCell ⟨k, 0, none⟩ (.slice Y1 m'.bits.length y1)).setCell ⟨k, 1, none⟩ (.slice Y2 m'.words.length y2)) k Y1 y1 Y2 y2 m' := by
  have hk := (hb.block k (blk_lt h.blk)).trans h.blk
  have hlt := blk_lt h.blk
  have h1 := heap_setCell_same w' k 0 _ _ (.slice Y1 m'.bits.length y1) hk
  obtain ⟨v1, v2, e, o1, o2⟩ := ho
  simp only [Value.agg.injEq, Array.mk.injEq, List.cons.injEq, and_true] at e
  obtain ⟨rfl, rfl⟩ := e
  exact ⟨heap_setCell_same _ k 1 _ _ _ h1, OwnM.read ⟨_, _, rfl, own_2set o1 hlt _ _, own_2set o2 hlt _ _⟩ hs⟩
theorem FnChangedBits_long (a : Option Addr) (n c : Nat) (w : World) (h : 1048576 < n) (_hn : n ≤ 9223372036854775807) : Calls Try.prog 7 #[.slice a n c] w (LawPost w) := by
  go_enter Try.func7, Try.ntmps7
  go_wp2
  go_ret
  exact ⟨rfl, Below.refl _ _⟩
set_option maxRecDepth 100000 in
set_option maxHeartbeats 2000000 in
theorem FnChangedBits_core (v : Value) (l : List Int) (w : World) (h : BytesR w w.heap.size v l) (hl : l.length ≤ 1048576) :
    Calls Try.prog 7 #[v] w (LawPost w) := by
  have HO := Lib.hid (drawChangedBits_any v l w h)
  obtain ⟨A, c, rfl, -⟩ := h
  go_enter Try.func7, Try.ntmps7
  go_wp2_with fail
  refine HO.out.mono ?_
  rintro e w1 ⟨A1, c1, A2, c2, B1, d1, B2, d2, a, b, rfl, hOa, hOb, hSa, hSb, hb1⟩
  clear HO
  have hA0 := (Held.new hOa (hSa.up (by omega) (by omega))).below ((Below.refl _ _).alloc (Nat.le_refl _) (.cells #[.slice B1 b.bits.length d1, .slice B2 b.words.length d2] 26))
  have hB0 := Held.new2 hOb (hSb.up (by omega) (by omega)) (.cells #[.slice A1 a.bits.length c1, .slice A2 a.words.length c2] 26)
  have B0 := (hb1.alloc hb1.size (.cells #[.slice A1 a.bits.length c1, .slice A2 a.words.length c2] 26)).alloc (Nat.le_trans hb1.size (by simp)) (.cells #[.slice B1 b.bits.length d1, .slice B2 b.words.length d2] 26)
  obtain ⟨D, hD⟩ : ∃ D, D = diffM a b := ⟨_, rfl⟩
  have D0 : D.length ≤ 17 := by rw [hD]; exact diff_small a b hSa
  have D1 : ∀ x ∈ D, -9223372036854775808 ≤ x ∧ x ≤ 9223372036854775807 := by rw [hD]; exact diff_bd a b (by have := hSa.1; omega)
  have HD := Lib.hid hD
  have HD2 := Lib.hid (hD.trans (diff_comm a b))
  have HD3 := Lib.hid (diff_self a).symm
  have HD1 := Lib.hid D1
  have D0' : D.length ≤ 1048576 := by omega
  have hs1 := hb1.size
  clear hD D1 hOa hOb hb1
  obtain ⟨pA0, pA1⟩ := hA0.cells
  obtain ⟨pB0, pB1⟩ := hB0.cells
  go_wp2_with fail
  refine (hi_post D HD (iChangedBits_any _ _ a b _ hA0.read hB0.read)).mono ?_
  rintro e w11 ⟨⟨gA, gc, rfl, hg0⟩, hb11⟩
  clear pA0 pA1 pB0 pB1
  have hA2 := hA0.below hb11
  clear hA0
  have hB3 := hB0.below hb11
  clear hB0
  have hW4 := B0.trans (hb11.mono B0.size)
  clear hb11 B0
  obtain ⟨pA0, pA1⟩ := hA2.cells
  obtain ⟨pB0, pB1⟩ := hB3.cells
  go_wp2_with fail
  refine (hi_post D HD (sChangedBits_any _ _ a b _ hA2.read hB3.read)).mono ?_
  rintro e w15 ⟨⟨yA, yc, rfl, hy0⟩, hb15⟩
  clear pA0 pA1 pB0 pB1
  have hA6 := hA2.below hb15
  clear hA2
  have hB7 := hB3.below hb15
  clear hB3
  have hW8 := hW4.trans (hb15.mono hW4.size)
  have hg9 := hg0.below hb15
  clear hg0
  clear hb15 hW4
  obtain ⟨pA0, pA1⟩ := hA6.cells
  obtain ⟨pB0, pB1⟩ := hB7.cells
  go_wp2_with fail
  refine (sameInts_same _ _ D _ (hg9.ints D0' HD1.out) (hy0.ints D0' HD1.out)).mono ?_
  rintro e w20 ⟨rfl, hb20⟩
  clear pA0 pA1 pB0 pB1
  have hA11 := hA6.below hb20
  clear hA6
  have hB12 := hB7.below hb20
  clear hB7
  have hW13 := hW8.trans (hb20.mono hW8.size)
  have hg14 := hg9.below hb20
  clear hg9
  have hy15 := hy0.below hb20
  clear hy0
  clear hb20 hW8
  clear hy15
  obtain ⟨pA0, pA1⟩ := hA11.cells
  obtain ⟨pB0, pB1⟩ := hB12.cells
  go_wp2_with fail
  refine (hi_post D HD2 (iChangedBits_any _ _ b a _ hB12.read hA11.read)).mono ?_
  rintro e w26 ⟨⟨zA, zc, rfl, hz0⟩, hb26⟩
  clear pA0 pA1 pB0 pB1
  have hA17 := hA11.below hb26
  clear hA11
  have hB18 := hB12.below hb26
  clear hB12
  have hW19 := hW13.trans (hb26.mono hW13.size)
  have hg20 := hg14.below hb26
  clear hg14
  clear hb26 hW13
  obtain ⟨pA0, pA1⟩ := hA17.cells
  obtain ⟨pB0, pB1⟩ := hB18.cells
  go_wp2_with fail
  refine (sameInts_same _ _ D _ (hg20.ints D0' HD1.out) (hz0.ints D0' HD1.out)).mono ?_
  rintro e w31 ⟨rfl, hb31⟩
  clear pA0 pA1 pB0 pB1
  have hA22 := hA17.below hb31
  clear hA17
  have hB23 := hB18.below hb31
  clear hB18
  have hW24 := hW19.trans (hb31.mono hW19.size)
  have hg25 := hg20.below hb31
  clear hg20
  have hz26 := hz0.below hb31
  clear hz0
  clear hb31 hW19
  clear hz26
  obtain ⟨pA0, pA1⟩ := hA22.cells
  obtain ⟨pB0, pB1⟩ := hB23.cells
  go_wp2_with fail
  refine (hi_post [] HD3 (iChangedBits_any _ _ a a _ hA22.read hA22.read)).mono ?_
  rintro e w37 ⟨⟨sA, sc, rfl, -⟩, hb37⟩
  clear pA0 pA1 pB0 pB1
  have hA28 := hA22.below hb37
  clear hA22
  have hB29 := hB23.below hb37
  clear hB23
  have hW30 := hW24.trans (hb37.mono hW24.size)
  have hg31 := hg25.below hb37
  clear hg25
  clear hb37 hW24
  obtain ⟨pA0, pA1⟩ := hA28.cells
  obtain ⟨pB0, pB1⟩ := hB29.cells
  go_wp2_with fail
  refine (sImageValid_any _ a _ hA28.read).mono ?_
  rintro e w42 ⟨rfl, hb42⟩
  clear pA0 pA1 pB0 pB1
  have hA33 := hA28.below hb42
  clear hA28
  have hB34 := hB29.below hb42
  clear hB29
  have hW35 := hW30.trans (hb42.mono hW30.size)
  have hg36 := hg31.below hb42
  clear hg31
  clear hb42 hW30
  obtain ⟨pA0, pA1⟩ := hA33.cells
  obtain ⟨pB0, pB1⟩ := hB34.cells
  cases hoa : imgOK a
  · have Hoa := Lib.hid hoa
    clear hoa
    have hD0 : D.length = 0 := by rw [HD.out]; unfold diffM; rw [Hoa.out]; rfl
    go_wp2_with fail
    refine (alive_any _).mono ?_
    rintro e w90 ⟨rfl, hb90⟩
    go_wp2
    go_ret
    exact ⟨rfl, hW35.trans (hb90.mono hW35.size)⟩
  have Hoa := Lib.hid hoa
  clear hoa
  clear pA0 pA1 pB0 pB1
  obtain ⟨pA0, pA1⟩ := hA33.cells
  obtain ⟨pB0, pB1⟩ := hB34.cells
  go_wp2_with fail
  refine (sImageValid_any _ b _ hB34.read).mono ?_
  rintro e w47 ⟨rfl, hb47⟩
  clear pA0 pA1 pB0 pB1
  have hA38 := hA33.below hb47
  clear hA33
  have hB39 := hB34.below hb47
  clear hB34
  have hW40 := hW35.trans (hb47.mono hW35.size)
  have hg41 := hg36.below hb47
  clear hg36
  clear hb47 hW35
  obtain ⟨pA0, pA1⟩ := hA38.cells
  obtain ⟨pB0, pB1⟩ := hB39.cells
  cases hob : imgOK b
  · have Hob := Lib.hid hob
    clear hob
    have hD0 : D.length = 0 := by rw [HD.out]; unfold diffM; rw [Hob.out]; simp
    go_wp2_with fail
    refine (alive_any _).mono ?_
    rintro e w90 ⟨rfl, hb90⟩
    go_wp2
    go_ret
    exact ⟨rfl, hW40.trans (hb90.mono hW40.size)⟩
  have Hob := Lib.hid hob
  clear hob
  by_cases hlen : a.bits.length = b.bits.length
  rotate_left
  · have Hlen := Lib.hid hlen
    have hq : ((a.bits.length : Int) != (b.bits.length : Int)) = true := by rw [bne_iff_ne]; omega
    clear hlen
    have hD0 : D.length = 0 := by rw [HD.out]; unfold diffM; rw [if_neg (by simp [Hlen.out])]; rfl
    go_wp2_with fail
    refine (alive_any _).mono ?_
    rintro e w90 ⟨rfl, hb90⟩
    go_wp2
    go_ret
    exact ⟨rfl, hW40.trans (hb90.mono hW40.size)⟩
  have Hlen := Lib.hid hlen
  have hq : ((a.bits.length : Int) != (b.bits.length : Int)) = false := by rw [bne_eq_false_iff_eq]; omega
  clear hlen
  go_wp2_with fail
  have hX : Held (w47.alloc (.cells #[.slice A1 a.bits.length c1, .slice A2 a.words.length c2] 26)) w47.heap.size A1 c1 A2 c2 a := ⟨heap_alloc_new _ _, hA38.read.below ((Below.refl _ _).alloc (Nat.le_refl _) _)⟩
  go_loopw [7] (fun i wr => ∃ (k : Nat) (X1 : Option Addr) (x1 : Nat) (X2 : Option Addr) (x2 : Nat) (m : Img), k ≤ D.length ∧ i = .int .i64 k ∧ m = stepsM a b (D.take k) ∧ Held wr w47.heap.size X1 x1 X2 x2 m ∧ Below w47.heap.size w47 wr) (fun i _ => D.length - (intOf i).toNat)
  case atStart => exact ⟨0, A1, c1, A2, c2, a, by omega, rfl, rfl, hX, (Below.refl _ _).alloc (Nat.le_refl _) _⟩
  case round =>
    obtain ⟨k, X1, x1, X2, x2, m, hk, rfl, hm, hXr, hbr⟩ := hrel
    have HM := Lib.hid hm
    clear hm hX pA0 pA1 pB0 pB1
    have hBr := hB39.below hbr
    have hsr := hbr.size
    have hd : D = diffTo a.bits b.bits a.bits.length := by rw [HD.out]; unfold diffM; rw [Hoa.out, Hob.out, if_pos (by simp [Hlen.out])]
    have Hd := Lib.hid hd
    clear hd
    by_cases hlt : k < D.length
    · have hi := hg41.ints D0' HD1.out
      obtain ⟨A', c', e', hr, -, -⟩ := hi
      injection e' with ea _ ec
      subst ea
      subst ec
      obtain ⟨p, u, rfl, hpb, hu, hc0⟩ := hr.one hlt
      have hx : u = .int .i64 D[k] := by rw [List.getElem?_map, List.getElem?_eq_getElem hlt] at hu; simpa using hu.symm
      subst hx
      have h0 : ∀ x ∈ D, 0 ≤ x ∧ x < a.bits.length := by rw [Hd.out]; exact diff_bound _ _ _
      have hin := h0 _ (List.getElem_mem hlt)
      obtain ⟨j, hj⟩ : ∃ j : Nat, D[k] = (j : Int) := ⟨D[k].toNat, by omega⟩
      have hjl : j < b.bits.length := by have := Hlen.out; omega
      rw [hj] at hc0
      obtain ⟨pb, rfl, hbit0⟩ := hB39.bit hjl
      obtain ⟨y, hy⟩ : ∃ y, y = b.bits[j] := ⟨_, rfl⟩
      rw [← hy] at hbit0
      have lb := World.block_lt_of_cell? w47 _ hbit0
      have lp := World.block_lt_of_cell? w47 _ hc0
      have lB := blk_lt hB39.blk
      have hc := (hbr.cell lp).trans hc0
      have hbit := (hbr.cell lb).trans hbit0
      have HJ := Lib.hid hj
      have HY := Lib.hid hy
      clear hj hy hin h0 hu hr hpb hc0 hbit0 hA38 hB39 hg41
      obtain ⟨pB0, pB1⟩ := hBr.cells
      obtain ⟨pX0, pX1⟩ := hXr.cells
      have f0 := blk_frozen hXr.blk 0
      have f1 := blk_frozen hXr.blk 1
      have l1 := World.block_lt_of_cell? wr _ hc
      have l2 := World.block_lt_of_cell? wr _ hbit
      have l3 := blk_lt hXr.blk
      have i1 : (k : Int) < (D.length : Int) := by omega
      have i2 : (j : Int) < (b.bits.length : Int) := by omega
      have HXr := Lib.hid hXr
      clear hXr
      go_wp2_with fail
      go_still_tail 13, (by kernel_rfl)
      change wpList _ _ _ _ _ wr.drew
      go_wp2_with fail
      refine (iSetBit_any _ m j y _ HXr.out.drew.read).mono ?_
      rintro e w9 ⟨v3, rfl, hO9, hb9⟩
      obtain ⟨Y1, y1, Y2, y2, rfl, -, -⟩ := hO9.form
      have hX9 := HXr.out.drew.below hb9
      have q0 := hX9.cells.1
      have q1 := hX9.cells.2
      have q5 := blk_frozen hX9.blk 0
      have q6 := blk_frozen hX9.blk 1
      have HX9 := Lib.hid hX9
      have HO9 := Lib.hid hO9
      have HB9 := Lib.hid hb9
      clear hX9 hO9 hb9
      go_wp2
      go_roundw
      case rel => exact ⟨k + 1, Y1, y1, Y2, y2, setBitM m j y, by omega, by go_num, by rw [steps_take _ _ _ _ hlt, ← HM.out, HJ.out, getB_in hjl, ← HY.out], HXr.out.drew.store HB9.out HO9.out ((small_setBit _ _ (by rw [HM.out]; exact small_steps b _ a hSa)).up (by omega) (by omega)), (hbr.drew.trans (HB9.out.mono hsr)).trans (below_2set _ (Nat.le_refl _) _ _)⟩
      case measure => simp [intOf]; omega
    · have e1 : m.bits = b.bits := by rw [HM.out, List.take_of_length_le (by omega), Hd.out]; exact steps_all a b Hoa.out Hlen.out
      have hXb : BoolsR wr wr.heap.size (.slice X1 m.bits.length x1) b.bits := by rw [← e1]; exact hXr.bits
      clear e1
      obtain ⟨pB0, pB1⟩ := hBr.cells
      obtain ⟨pX0, pX1⟩ := hXr.cells
      go_wp2_with fail
      refine (sameBools_same _ _ b.bits _ hXb hBr.bits).mono ?_
      rintro e w9 ⟨rfl, hb9⟩
      go_wp2
      go_ret
      exact ⟨rfl, (hW40.trans (hbr.mono hW40.size)).trans (hb9.mono (Nat.le_trans hW40.size hsr))⟩
end Go.Proofs.Ytoagnajljdbobaa
