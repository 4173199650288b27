/- The law of RungsIndependent: its walk. -/
import Derived.Test.YtoagnajljdbobaaWe
namespace Go.Proofs.Ytoagnajljdbobaa
open Go.RowKit
attribute [local go_sem ↓] Go.wp_at_zero Go.wp_at_succ

theorem evL_other (bs : List Bool) (r : Rg) (l : List Nd) (hv : ∀ x ∈ l, x.op = 1 → x.bit.toNat ≠ r.coil.toNat) : evL (runB bs r) l = evL bs l := by
  unfold evL
  refine evb_congr _ _ fun x hx h1 => ?_
  rw [List.getD_eq_getElem?_getD, List.getD_eq_getElem?_getD, runB_other _ _ _ (Ne.symm (hv x hx h1))]
/-- Two rungs that do not touch each other can be exchanged. -/
theorem runB_swap (bs : List Bool) (a b : Rg) (h1 : ∀ x ∈ b.logic, x.op = 1 → x.bit.toNat ≠ a.coil.toNat) (h2 : ∀ x ∈ a.logic, x.op = 1 → x.bit.toNat ≠ b.coil.toNat) (hne : a.coil.toNat ≠ b.coil.toNat) :
    runB (runB bs a) b = runB (runB bs b) a := by
  have e1 := evL_other bs a b.logic h1
  have e2 := evL_other bs b a.logic h2
  have key : ∀ (bs : List Bool) (r : Rg), runB bs r = if r.kind = 1 then bs.set r.coil.toNat (evL bs r.logic) else if evL bs r.logic then bs.set r.coil.toNat (decide (r.kind = 2)) else bs := fun _ _ => rfl
  rw [key (runB bs a) b, key (runB bs b) a, e1, e2, key bs a, key bs b]
  repeat' split
  all_goals first | rfl | exact List.set_comm _ _ hne | exact (List.set_comm _ _ hne).symm
theorem indep_parts {a b : Rg} (h : indep a b = true) : rvalid a 16 = true ∧ rvalid b 16 = true ∧ a.coil ≠ b.coil ∧ b.coil ∉ usedL a.logic ∧ a.coil ∉ usedL b.logic := by
  unfold indep apart at h
  simp only [Bool.and_eq_true, Bool.not_eq_true', decide_eq_true_eq, List.contains_eq_mem, decide_eq_false_iff_not] at h
  exact ⟨h.1, h.2.1, h.2.2.2.2, h.2.2.1, h.2.2.2.1⟩
theorem indep_swap {a b : Rg} (h : indep a b = true) (bs : List Bool) : runL bs [a, b] = runL bs [b, a] := by
  obtain ⟨ha, hb, hne, hu1, hu2⟩ := indep_parts h
  obtain ⟨la, ca, -⟩ := rvalid_parts ha
  obtain ⟨lb, cb, -⟩ := rvalid_parts hb
  exact runB_swap bs a b (unused_of (n := 16) (Nat.le_refl _) lb ca.1 hu2) (unused_of (n := 16) (Nat.le_refl _) la cb.1 hu1) (by omega)
theorem indep_sym (a b : Rg) : indep b a = indep a b := by
  unfold indep apart
  have e : decide (b.coil ≠ a.coil) = decide (a.coil ≠ b.coil) := decide_eq_decide.2 ⟨Ne.symm, Ne.symm⟩
  rw [e]
  cases rvalid a 16 <;> cases rvalid b 16 <;> cases (usedL a.logic).contains b.coil <;> cases (usedL b.logic).contains a.coil <;> simp
theorem indep_lad {a b : Rg} (h : indep a b = true) (m : Img) (hm : imgOK m = true) (h16 : m.bits.length = 16) : runLadM m [a, b] = runLadM m [b, a] ∧ imgOK (runLadM m [a, b]) = true ∧ (runLadM m [a, b]).words = m.words := by
  obtain ⟨ha, hb, -⟩ := indep_parts h
  have v1 : ladvalid [a, b] m.bits.length = true := by rw [h16]; unfold ladvalid; simp; exact ⟨ha, hb⟩
  have v2 : ladvalid [b, a] m.bits.length = true := by rw [h16]; unfold ladvalid; simp; exact ⟨hb, ha⟩
  rw [runLad_parts m _ hm v1, runLad_parts m _ hm v2, indep_swap h]
  exact ⟨rfl, imgOK_of _ m hm (runL_length _ _), rfl⟩
theorem LadR.pair {W : World} {g t : Nat} {u1 u2 : Value} {r1 r2 : Rg} (h : W.heap[g]? = some (.cells #[u1, .int .i64 r1.coil, .int .i64 r1.kind, u2, .int .i64 r2.coil, .int .i64 r2.kind] t (0, 0)))
    (h1 : NodesR W W.heap.size u1 r1.logic ∧ rgFit r1) (h2 : NodesR W W.heap.size u2 r2.logic ∧ rgFit r2) : LadR W W.heap.size (.slice (some ⟨g, 0, none⟩) 2 2) [(u1, r1), (u2, r2)] := by
  refine ⟨_, 2, rfl, ⟨rfl, fun _ => ⟨_, rfl, blk_lt h, fun j v hj => ?_⟩⟩, by simp, fun p hp => ?_⟩
  · match j, hj with
    | 0, hj => simp [cellsR] at hj; subst hj; simpa [Addr.add] using blk_cell h 0
    | 1, hj => simp [cellsR] at hj; subst hj; simpa [Addr.add] using blk_cell h 1
    | 2, hj => simp [cellsR] at hj; subst hj; simpa [Addr.add] using blk_cell h 2
    | 3, hj => simp [cellsR] at hj; subst hj; simpa [Addr.add] using blk_cell h 3
    | 4, hj => simp [cellsR] at hj; subst hj; simpa [Addr.add] using blk_cell h 4
    | 5, hj => simp [cellsR] at hj; subst hj; simpa [Addr.add] using blk_cell h 5
  · simp at hp
    rcases hp with rfl | rfl
    · exact h1
    · exact h2
/-- What the law's image is. -/
def Img16 (m : Img) : Prop := m.bits.length = 16 ∧ m.words = [] ∧ imgOK m = true
theorem img16_new : Img16 (newM 16 0) := by unfold Img16; decide
theorem img16_set {m : Img} (h : Img16 m) (n : Int) (b : Bool) : Img16 (setBitM m n b) := by
  obtain ⟨h1, h2, h3⟩ := h
  have e : setBitM m n b = ⟨if 0 ≤ n ∧ n < m.bits.length then m.bits.set n.toNat b else m.bits, m.words⟩ := by unfold setBitM; rw [if_pos h3]
  have hl : (setBitM m n b).bits.length = 16 := by rw [e]; show (if _ then _ else _ : List Bool).length = 16; split <;> simp [h1]
  refine ⟨hl, by rw [e]; exact h2, ?_⟩
  have := imgOK_of (setBitM m n b).bits m h3 (by rw [hl, h1])
  rw [e] at this ⊢; exact this
theorem img16_small {m : Img} (h : Img16 m) : smallM m 100 100 := ⟨by rw [h.1]; omega, by rw [h.2.1]; simp, by rw [h.2.1]; simp⟩
theorem img16_len {m : Img} (h : Img16 m) : m.bits.length ≤ 2000000 ∧ m.words.length ≤ 2000000 := by rw [h.1, h.2.1]; simp
theorem FnRungsIndependent_long (a1 : Option Addr) (n1 c1 : Nat) (a2 : Option Addr) (n2 c2 : Nat) (w : World) (h : 1048576 < n1 ∨ 1048576 < n2) (_h1 : n1 ≤ 9223372036854775807) (_h2 : n2 ≤ 9223372036854775807) : Calls Try.prog 14 #[.slice a1 n1 c1, .slice a2 n2 c2] w (LawPost w) := by
  by_cases h' : 1048576 < n1
  · have i1 : (1048576 : Int) < (n1 : Int) := by omega
    go_enter Try.func14, Try.ntmps14
    go_wp2
    go_ret
    exact ⟨rfl, Below.refl _ _⟩
  · have i1 : ¬ (1048576 : Int) < (n1 : Int) := by omega
    have i2 : (1048576 : Int) < (n2 : Int) := by omega
    go_enter Try.func14, Try.ntmps14
    go_wp2
    go_ret
    exact ⟨rfl, Below.refl _ _⟩
set_option maxRecDepth 100000 in
set_option maxHeartbeats 4000000 in
theorem FnRungsIndependent_core (v v' : Value) (bl ml : List Int) (w : World) (h : BytesR w w.heap.size v bl) (h' : BytesR w w.heap.size v' ml) (hl : bl.length ≤ 1048576) (hl' : ml.length ≤ 1048576) :
    Calls Try.prog 14 #[v, v'] w (LawPost w) := by
  have HO := Lib.hid (drawRungsIndependent_any v bl w h)
  have h2 := h.form
  obtain ⟨A0, c0, rfl, -⟩ := h
  obtain ⟨M0, e0, rfl, -, hrm, -⟩ := h'
  have HRM := Lib.hid hrm
  have i1 : ¬ (1048576 : Int) < (bl.length : Int) := by omega
  have i2 : ¬ (1048576 : Int) < (ml.length : Int) := by omega
  clear h2 hrm
  go_enter Try.func14, Try.ntmps14
  go_wp2_with fail
  refine HO.out.mono ?_
  rintro e w1 ⟨u1, u2, ⟨lga, coa, kia⟩, ⟨lgb, cob, kib⟩, rfl, ⟨x1, ex1, hNa, hfa⟩, ⟨x2, ex2, hNb, hfb⟩, -, hb1⟩
  clear HO
  unfold rgV at ex1 ex2 ⊢
  simp only [Value.agg.injEq, Array.mk.injEq, List.cons.injEq, and_true] at ex1 ex2 hNa hNb hfa hfb ⊢
  obtain rfl := ex1
  obtain rfl := ex2
  have HNa := Lib.hid (fun (W : World) (hb : Below w1.heap.size w1 W) => hNa.below hb)
  have HNb := Lib.hid (fun (W : World) (hb : Below w1.heap.size w1 W) => hNb.below hb)
  obtain ⟨Aa, ca, rfl, -⟩ := hNa
  obtain ⟨Ab, cb, rfl, -⟩ := hNb
  have m0 := blk_alloc (heap_alloc_new w1 (.cells #[.slice Aa lga.length ca, .int .i64 coa, .int .i64 kia] 58)) (.cells #[.slice Ab lgb.length cb, .int .i64 cob, .int .i64 kib] 58)
  have r0 := heap_alloc_new (w1.alloc (.cells #[.slice Aa lga.length ca, .int .i64 coa, .int .i64 kia] 58)) (.cells #[.slice Ab lgb.length cb, .int .i64 cob, .int .i64 kib] 58)
  simp only [World.size_alloc] at r0
  have B0 := ((Below.refl w1.heap.size w1).alloc (Nat.le_refl _) (.cells #[.slice Aa lga.length ca, .int .i64 coa, .int .i64 kia] 58)).alloc (by simp) (.cells #[.slice Ab lgb.length cb, .int .i64 cob, .int .i64 kib] 58)
  go_wp2_with fail
  generalize hw2 : (w1.alloc (.cells #[.slice Aa lga.length ca, .int .i64 coa, .int .i64 kia] 58)).alloc (.cells #[.slice Ab lgb.length cb, .int .i64 cob, .int .i64 kib] 58) = w2 at m0 r0 B0 ⊢
  have z1 := B0.size
  have GNa := Lib.hid (fun (W : World) (hb : Below w2.heap.size w2 W) => HNa.out W (B0.trans (hb.mono B0.size)))
  have GNb := Lib.hid (fun (W : World) (hb : Below w2.heap.size w2 W) => HNb.out W (B0.trans (hb.mono B0.size)))
  have GA := Lib.hid (fun (W : World) (hb : Below w2.heap.size w2 W) => (show RungR W W.heap.size (.agg #[.slice Aa lga.length ca, .int .i64 coa, .int .i64 kia]) ⟨lga, coa, kia⟩ from ⟨_, rfl, GNa.out W hb, hfa⟩))
  have GB := Lib.hid (fun (W : World) (hb : Below w2.heap.size w2 W) => (show RungR W W.heap.size (.agg #[.slice Ab lgb.length cb, .int .i64 cob, .int .i64 kib]) ⟨lgb, cob, kib⟩ from ⟨_, rfl, GNb.out W hb, hfb⟩))
  have Ca := Lib.hid (fun (W : World) (hb : Below w2.heap.size w2 W) => blk3k ((hb.block _ (blk_lt m0)).trans m0))
  have Cb := Lib.hid (fun (W : World) (hb : Below w2.heap.size w2 W) => blk3k ((hb.block _ (blk_lt r0)).trans r0))
  have hbs := hb1.trans (B0.mono hb1.size)
  have Bb := Lib.hid (fun (W : World) (hb : Below w2.heap.size w2 W) => hbs.trans (hb.mono hbs.size))
  have HFa := Lib.hid hfa
  have HFb := Lib.hid hfb
  have l0 := blk_lt r0
  clear hw2 HNa HNb m0 r0 B0 hbs hb1 hfa hfb
  have b2 : Below w2.heap.size w2 w2 := Below.refl _ _
  obtain ⟨p0, p1, p2⟩ := Ca.out w2 b2
  obtain ⟨q0, q1, q2⟩ := Cb.out w2 b2
  go_wp2_with fail
  refine (iRungsIndependent_any _ _ ⟨lga, coa, kia⟩ ⟨lgb, cob, kib⟩ _ (GA.out _ b2) (GB.out _ b2)).mono ?_
  rintro e w3 ⟨rfl, b3⟩
  clear p0 p1 p2 q0 q1 q2 b2
  obtain ⟨p0, p1, p2⟩ := Ca.out w3 b3
  obtain ⟨q0, q1, q2⟩ := Cb.out w3 b3
  go_wp2_with fail
  refine (sRungsIndependent_any _ _ ⟨lga, coa, kia⟩ ⟨lgb, cob, kib⟩ _ (GA.out _ b3) (GB.out _ b3)).mono ?_
  rintro e w4 ⟨rfl, hb4⟩
  have b4 := b3.trans (hb4.mono b3.size)
  clear p0 p1 p2 q0 q1 q2 b3 hb4
  obtain ⟨p0, p1, p2⟩ := Ca.out w4 b4
  obtain ⟨q0, q1, q2⟩ := Cb.out w4 b4
  go_wp2_with fail
  refine (iRungsIndependent_any _ _ ⟨lgb, cob, kib⟩ ⟨lga, coa, kia⟩ _ (GB.out _ b4) (GA.out _ b4)).mono ?_
  rintro e w5 ⟨rfl, hb5⟩
  rw [indep_sym]
  have b5 := b4.trans (hb5.mono b4.size)
  clear p0 p1 p2 q0 q1 q2 b4 hb5
  cases hi : indep ⟨lga, coa, kia⟩ ⟨lgb, cob, kib⟩
  · go_wp2_with fail
    refine (alive_fin (Bb.out _ b5)).mono ?_
    rintro e w6 ⟨rfl, hb6⟩
    go_wp2
    go_ret
    exact ⟨rfl, hb6⟩
  · have HI := Lib.hid hi
    clear hi
    go_wp2_with fail
    refine (iNewImage_ok 16 0 _ (by decide)).mono ?_
    rintro e w6 ⟨mv, rfl, hOm, hb6⟩
    obtain ⟨M1, d1, M2, d2, rfl, -, -⟩ := hOm.form
    have b6 := b5.trans (hb6.mono b5.size)
    have hH := Held.new hOm (img16_small img16_new)
    have hm16 := img16_new
    generalize newM 16 0 = MM at *
    have z6 := b6.size
    have B7 : Below w6.heap.size w6 (w6.alloc (.cells #[.slice M1 MM.bits.length d1, .slice M2 MM.words.length d2] 26)) := (Below.refl _ _).alloc (Nat.le_refl _) _
    clear b5 hb6 hOm
    go_wp2_with fail
    go_loopw [9] (fun i wr => ∃ (k : Nat) (M1 : Option Addr) (d1 : Nat) (M2 : Option Addr) (d2 : Nat) (m : Img), k ≤ 16 ∧ i = .int .i64 k ∧ Img16 m ∧ Held wr w6.heap.size M1 d1 M2 d2 m ∧ Below w6.heap.size w6 wr) (fun i _ => 16 - (intOf i).toNat)
    case atStart => exact ⟨0, M1, d1, M2, d2, MM, by omega, rfl, hm16, hH, B7⟩
    case round =>
      clear hH B7 hm16
      obtain ⟨k, M1, d1, M2, d2, m, hk, rfl, hm16, hH, hbr⟩ := hrel
      have br := b6.trans (hbr.mono z6)
      obtain ⟨c0, c1⟩ := hH.cells
      by_cases hlt : k < 16 ∧ k < ml.length
      · have j1 : (k : Int) < 16 := by omega
        have j2 : (k : Int) < (ml.length : Int) := by omega
        obtain ⟨p, u, rfl, hpb, hu, hc⟩ := HRM.out.one hlt.2
        have hx : u = .int .u8 ml[k] := by rw [List.getElem?_map, List.getElem?_eq_getElem hlt.2] at hu; simpa using hu.symm
        subst hx
        have g1 := ((Bb.out _ br).cell (p := p.add k) (by rw [add_block]; exact hpb)).trans hc
        generalize ml[k] = x at g1
        have f0 := blk_frozen hH.blk 0
        have f1 := blk_frozen hH.blk 1
        have HH := Lib.hid (hH.below ((Below.refl wr.heap.size wr).drew))
        have lg := blk_lt hH.blk
        have HM16 := Lib.hid hm16
        clear hu hc hlt hH hm16
        go_wp2_with fail
        go_still_tail 8, (by kernel_rfl)
        change wpList _ _ _ _ _ wr.drew
        go_wp2_with fail
        refine (iSetBit_any _ m k _ _ HH.out.read).mono ?_
        rintro e w9 ⟨v3, rfl, hO9, hb9⟩
        obtain ⟨Y1, y1, Y2, y2, rfl, -, -⟩ := hO9.form
        have hX9 := HH.out.below hb9
        have t0 := hX9.cells.1
        have t1 := hX9.cells.2
        have t5 := blk_frozen hX9.blk 0
        have t6 := blk_frozen hX9.blk 1
        have h16' := img16_set HM16.out k
        have HX9 := Lib.hid hX9.blk
        have HO9 := Lib.hid hO9
        have HB9 := Lib.hid hb9
        have H16 := Lib.hid h16'
        clear hX9 hO9 hb9 h16'
        go_wp2
        go_roundw
        case rel =>
          have e16 := H16.out
          refine ⟨k + 1, Y1, y1, Y2, y2, _, by omega, by go_num, e16 _, ⟨blk_set2 HX9.out _ _, ?_⟩, (((hbr.drew).trans (HB9.out.mono hbr.size)).setCell (Nat.le_refl _) _).setCell (Nat.le_refl _) _⟩
          exact ((HO9.out.set_ (p := ⟨w6.heap.size, 0, none⟩) lg _).set_ (p := ⟨w6.heap.size, 1, none⟩) lg _).readF (img16_len (e16 _)) (img16_small (e16 _)).fit
        case measure => simp [intOf]; omega
      · have hsw := Lib.hid (indep_lad HI.out m hm16.2.2 hm16.1)
        obtain ⟨hs1, hs2, hs3⟩ := hsw.out
        obtain ⟨RR, hRR⟩ : ∃ RR, RR = runLadM m [⟨lga, coa, kia⟩, ⟨lgb, cob, kib⟩] := ⟨_, rfl⟩
        rw [← hRR] at hs1 hs2 hs3
        have HRL := Lib.hid (show RR.bits.length ≤ 2000000 ∧ RR.words.length ≤ 2000000 by
          have := imgOK_len hs2; omega)
        have HRF := Lib.hid (show ∀ x ∈ RR.words, -9223372036854775808 ≤ x ∧ x ≤ 9223372036854775807 by rw [hs3, hm16.2.1]; simp)
        have HR1 := Lib.hid (fun (W : World) (g : Nat) (hb : Below wr.heap.size wr W) (hk : W.heap[g]? = some (.cells #[.slice Aa lga.length ca, .int .i64 coa, .int .i64 kia, .slice Ab lgb.length cb, .int .i64 cob, .int .i64 kib] 58)) =>
          (show Calls Try.prog 55 #[(.agg #[.slice M1 m.bits.length d1, .slice M2 m.words.length d2]), .slice (some ⟨g, 0, none⟩) 2 2] W (RgRunP RR W) from by
            rw [hRR]
            exact iRunLadder_any _ _ m [(.slice Aa lga.length ca, ⟨lga, coa, kia⟩), (.slice Ab lgb.length cb, ⟨lgb, cob, kib⟩)] W (hH.below hb).read (LadR.pair hk ⟨GNa.out W (br.trans (hb.mono br.size)), HFa.out⟩ ⟨GNb.out W (br.trans (hb.mono br.size)), HFb.out⟩)))
        have HR2 := Lib.hid (fun (W : World) (g : Nat) (hb : Below wr.heap.size wr W) (hk : W.heap[g]? = some (.cells #[.slice Ab lgb.length cb, .int .i64 cob, .int .i64 kib, .slice Aa lga.length ca, .int .i64 coa, .int .i64 kia] 58)) =>
          (show Calls Try.prog 55 #[(.agg #[.slice M1 m.bits.length d1, .slice M2 m.words.length d2]), .slice (some ⟨g, 0, none⟩) 2 2] W (RgRunP RR W) from by
            rw [hs1]
            exact iRunLadder_any _ _ m [(.slice Ab lgb.length cb, ⟨lgb, cob, kib⟩), (.slice Aa lga.length ca, ⟨lga, coa, kia⟩)] W (hH.below hb).read (LadR.pair hk ⟨GNb.out W (br.trans (hb.mono br.size)), HFb.out⟩ ⟨GNa.out W (br.trans (hb.mono br.size)), HFa.out⟩)))
        have Cm := Lib.hid (fun (W : World) (hb : Below wr.heap.size wr W) => (hH.below hb).cells)
        have Ea := Lib.hid (fun (W : World) (hb : Below wr.heap.size wr W) => Ca.out W (br.trans (hb.mono br.size)))
        have Eb := Lib.hid (fun (W : World) (hb : Below wr.heap.size wr W) => Cb.out W (br.trans (hb.mono br.size)))
        have Fb := Lib.hid (fun (W : World) (hb : Below wr.heap.size wr W) => Bb.out W (br.trans (hb.mono br.size)))
        have lw := blk_lt hH.blk
        have lbr := br.size
        obtain ⟨a0, a1, a2⟩ := Ca.out wr br
        obtain ⟨b0, b1, b2⟩ := Cb.out wr br
        clear hRR hs1 hs2 hs3 hm16 hH hsw
        have wc : Below wr.heap.size wr (wr.alloc (.cells #[.slice Aa lga.length ca, .int .i64 coa, .int .i64 kia, .slice Ab lgb.length cb, .int .i64 cob, .int .i64 kib] 58)).drew := ((Below.refl _ _).alloc (Nat.le_refl _) _).drew
        have wa : Below wr.heap.size wr ((wr.alloc (.cells #[.slice Aa lga.length ca, .int .i64 coa, .int .i64 kia, .slice Ab lgb.length cb, .int .i64 cob, .int .i64 kib] 58)).alloc (.cells #[.slice Ab lgb.length cb, .int .i64 cob, .int .i64 kib, .slice Aa lga.length ca, .int .i64 coa, .int .i64 kia] 58)).drew := (((Below.refl _ _).alloc (Nat.le_refl _) _).alloc (by simp) _).drew
        have wb : Below wr.heap.size wr ((wr.alloc (.cells #[.slice Ab lgb.length cb, .int .i64 cob, .int .i64 kib, .slice Aa lga.length ca, .int .i64 coa, .int .i64 kia] 58)).alloc (.cells #[.slice Aa lga.length ca, .int .i64 coa, .int .i64 kia, .slice Ab lgb.length cb, .int .i64 cob, .int .i64 kib] 58)).drew := (((Below.refl _ _).alloc (Nat.le_refl _) _).alloc (by simp) _).drew
        have kb := heap_alloc_new (wr.alloc (.cells #[.slice Ab lgb.length cb, .int .i64 cob, .int .i64 kib, .slice Aa lga.length ca, .int .i64 coa, .int .i64 kia] 58)) (.cells #[.slice Aa lga.length ca, .int .i64 coa, .int .i64 kia, .slice Ab lgb.length cb, .int .i64 cob, .int .i64 kib] 58)
        have ka := heap_alloc_new (wr.alloc (.cells #[.slice Aa lga.length ca, .int .i64 coa, .int .i64 kia, .slice Ab lgb.length cb, .int .i64 cob, .int .i64 kib] 58)) (.cells #[.slice Ab lgb.length cb, .int .i64 cob, .int .i64 kib, .slice Aa lga.length ca, .int .i64 coa, .int .i64 kia] 58)
        simp only [World.size_alloc] at ka kb
        have HCc := Lib.hid (HR1.out (wr.alloc (.cells #[.slice Aa lga.length ca, .int .i64 coa, .int .i64 kia, .slice Ab lgb.length cb, .int .i64 cob, .int .i64 kib] 58)).drew wr.heap.size wc (heap_alloc_new wr (.cells #[.slice Aa lga.length ca, .int .i64 coa, .int .i64 kia, .slice Ab lgb.length cb, .int .i64 cob, .int .i64 kib] 58)))
        have HCa := Lib.hid (HR1.out ((wr.alloc (.cells #[.slice Aa lga.length ca, .int .i64 coa, .int .i64 kia, .slice Ab lgb.length cb, .int .i64 cob, .int .i64 kib] 58)).alloc (.cells #[.slice Ab lgb.length cb, .int .i64 cob, .int .i64 kib, .slice Aa lga.length ca, .int .i64 coa, .int .i64 kia] 58)).drew wr.heap.size wa (blk_alloc (heap_alloc_new wr (.cells #[.slice Aa lga.length ca, .int .i64 coa, .int .i64 kia, .slice Ab lgb.length cb, .int .i64 cob, .int .i64 kib] 58)) (.cells #[.slice Ab lgb.length cb, .int .i64 cob, .int .i64 kib, .slice Aa lga.length ca, .int .i64 coa, .int .i64 kia] 58)))
        have HCb := Lib.hid (HR1.out ((wr.alloc (.cells #[.slice Ab lgb.length cb, .int .i64 cob, .int .i64 kib, .slice Aa lga.length ca, .int .i64 coa, .int .i64 kia] 58)).alloc (.cells #[.slice Aa lga.length ca, .int .i64 coa, .int .i64 kia, .slice Ab lgb.length cb, .int .i64 cob, .int .i64 kib] 58)).drew (wr.heap.size + 1) wb kb)
        have KA := Lib.hid (show ((wr.alloc (.cells #[.slice Aa lga.length ca, .int .i64 coa, .int .i64 kia, .slice Ab lgb.length cb, .int .i64 cob, .int .i64 kib] 58)).alloc (.cells #[.slice Ab lgb.length cb, .int .i64 cob, .int .i64 kib, .slice Aa lga.length ca, .int .i64 coa, .int .i64 kia] 58)).drew.heap[wr.heap.size + 1]? = some (.cells #[.slice Ab lgb.length cb, .int .i64 cob, .int .i64 kib, .slice Aa lga.length ca, .int .i64 coa, .int .i64 kia] 58) from ka)
        have KB := Lib.hid (show ((wr.alloc (.cells #[.slice Ab lgb.length cb, .int .i64 cob, .int .i64 kib, .slice Aa lga.length ca, .int .i64 coa, .int .i64 kia] 58)).alloc (.cells #[.slice Aa lga.length ca, .int .i64 coa, .int .i64 kia, .slice Ab lgb.length cb, .int .i64 cob, .int .i64 kib] 58)).drew.heap[wr.heap.size]? = some (.cells #[.slice Ab lgb.length cb, .int .i64 cob, .int .i64 kib, .slice Aa lga.length ca, .int .i64 coa, .int .i64 kia] 58) from blk_alloc (heap_alloc_new wr (.cells #[.slice Ab lgb.length cb, .int .i64 cob, .int .i64 kib, .slice Aa lga.length ca, .int .i64 coa, .int .i64 kia] 58)) (.cells #[.slice Aa lga.length ca, .int .i64 coa, .int .i64 kia, .slice Ab lgb.length cb, .int .i64 cob, .int .i64 kib] 58))
        clear ka kb
        by_cases h16 : k < 16
        · have j1 : (k : Int) < 16 := by omega
          have j2 : ¬ (k : Int) < (ml.length : Int) := by omega
          clear hlt h16
          go_wp2_with fail
          go_region_held3 (fun w' => (w'.cell? ⟨w6.heap.size, 0, none⟩ = some (.slice M1 m.bits.length d1) ∧ w'.cell? ⟨w6.heap.size, 1, none⟩ = some (.slice M2 m.words.length d2)) ∧ (w'.cell? ⟨w1.heap.size, 0, none⟩ = some (.slice Aa lga.length ca) ∧ w'.cell? ⟨w1.heap.size, 1, none⟩ = some (.int .i64 coa) ∧ w'.cell? ⟨w1.heap.size, 2, none⟩ = some (.int .i64 kia)) ∧ w'.cell? ⟨w1.heap.size + 1, 0, none⟩ = some (.slice Ab lgb.length cb) ∧ w'.cell? ⟨w1.heap.size + 1, 1, none⟩ = some (.int .i64 cob) ∧ w'.cell? ⟨w1.heap.size + 1, 2, none⟩ = some (.int .i64 kib)) (first | go_keep)
            (first
              | (go_at_call 26; have tell := hr2; (with_reducible refine (sameM_one _ _ RR _ (hOy2.readF HRL.out HRF.out) hr2).mono ?_); rintro e u3 ⟨rfl, hu3⟩; have y3 := y2.trans (hu3.mono y2.size); obtain ⟨s0, s1⟩ := Cm.out u3 y3; obtain ⟨s2, s3, s4⟩ := Ea.out u3 y3; obtain ⟨s5, s6, s7⟩ := Eb.out u3 y3)
              | (go_at_call 55; have tell := H2; (with_reducible refine H2.out.mono ?_); rintro e u2 ⟨zv, rfl, hOz, hu2⟩; obtain ⟨Z1, k1, Z2, k2, rfl, -, -⟩ := hOz.form; have hr2 := hOz.readF HRL.out HRF.out; have y2 := y1.trans (hu2.mono y1.size); have hOy2 := hOy1.keep_ hu2; obtain ⟨t0, t1⟩ := Cm.out u2 y2; obtain ⟨t2, t3, t4⟩ := Ea.out u2 y2; obtain ⟨t5, t6, t7⟩ := Eb.out u2 y2)
              | (go_at_call 55; (with_reducible refine HCc.out.mono ?_); rintro e u1 ⟨yv, rfl, hOy, hu1⟩; obtain ⟨Y1, e1, Y2, e2, rfl, -, -⟩ := hOy.form; have y0 := wc.trans (hu1.mono wc.size); have y1 := y0.alloc y0.size (.cells #[.slice Ab lgb.length cb, .int .i64 cob, .int .i64 kib, .slice Aa lga.length ca, .int .i64 coa, .int .i64 kia] 58); have H2 := Lib.hid (HR2.out _ _ y1 (heap_alloc_new u1 (.cells #[.slice Ab lgb.length cb, .int .i64 cob, .int .i64 kib, .slice Aa lga.length ca, .int .i64 coa, .int .i64 kia] 58))); have hOy1 := hOy.keep_ ((Below.refl _ _).alloc (Nat.le_refl _) (.cells #[.slice Ab lgb.length cb, .int .i64 cob, .int .i64 kib, .slice Aa lga.length ca, .int .i64 coa, .int .i64 kia] 58)); obtain ⟨g0, g1⟩ := Cm.out u1 y0; obtain ⟨g2, g3, g4⟩ := Ea.out u1 y0; obtain ⟨g5, g6, g7⟩ := Eb.out u1 y0; obtain ⟨h0, h1⟩ := Cm.out _ y1; obtain ⟨h2, h3, h4⟩ := Ea.out _ y1; obtain ⟨h5, h6, h7⟩ := Eb.out _ y1)
              | (go_at_call 55; (with_reducible refine HCa.out.mono ?_); rintro e u1 ⟨yv, rfl, hOy1, hu1⟩; obtain ⟨Y1, e1, Y2, e2, rfl, -, -⟩ := hOy1.form; have y1 := wa.trans (hu1.mono wa.size); have H2 := Lib.hid (HR2.out _ _ y1 ((hu1.block _ (blk_lt KA.out)).trans KA.out)); obtain ⟨g0, g1⟩ := Cm.out u1 y1; obtain ⟨g2, g3, g4⟩ := Ea.out u1 y1; obtain ⟨g5, g6, g7⟩ := Eb.out u1 y1)
              | (go_at_call 55; (with_reducible refine HCb.out.mono ?_); rintro e u1 ⟨yv, rfl, hOy1, hu1⟩; obtain ⟨Y1, e1, Y2, e2, rfl, -, -⟩ := hOy1.form; have y1 := wb.trans (hu1.mono wb.size); have H2 := Lib.hid (HR2.out _ _ y1 ((hu1.block _ (blk_lt KB.out)).trans KB.out)); obtain ⟨g0, g1⟩ := Cm.out u1 y1; obtain ⟨g2, g3, g4⟩ := Ea.out u1 y1; obtain ⟨g5, g6, g7⟩ := Eb.out u1 y1))
          all_goals
            go_wp2
            go_ret
            exact ⟨rfl, Fb.out _ y3⟩
        · have j1 : ¬ (k : Int) < 16 := by omega
          clear hlt h16
          go_wp2_with fail
          go_region_held3 (fun w' => (w'.cell? ⟨w6.heap.size, 0, none⟩ = some (.slice M1 m.bits.length d1) ∧ w'.cell? ⟨w6.heap.size, 1, none⟩ = some (.slice M2 m.words.length d2)) ∧ (w'.cell? ⟨w1.heap.size, 0, none⟩ = some (.slice Aa lga.length ca) ∧ w'.cell? ⟨w1.heap.size, 1, none⟩ = some (.int .i64 coa) ∧ w'.cell? ⟨w1.heap.size, 2, none⟩ = some (.int .i64 kia)) ∧ w'.cell? ⟨w1.heap.size + 1, 0, none⟩ = some (.slice Ab lgb.length cb) ∧ w'.cell? ⟨w1.heap.size + 1, 1, none⟩ = some (.int .i64 cob) ∧ w'.cell? ⟨w1.heap.size + 1, 2, none⟩ = some (.int .i64 kib)) (first | go_keep)
            (first
              | (go_at_call 26; have tell := hr2; (with_reducible refine (sameM_one _ _ RR _ (hOy2.readF HRL.out HRF.out) hr2).mono ?_); rintro e u3 ⟨rfl, hu3⟩; have y3 := y2.trans (hu3.mono y2.size); obtain ⟨s0, s1⟩ := Cm.out u3 y3; obtain ⟨s2, s3, s4⟩ := Ea.out u3 y3; obtain ⟨s5, s6, s7⟩ := Eb.out u3 y3)
              | (go_at_call 55; have tell := H2; (with_reducible refine H2.out.mono ?_); rintro e u2 ⟨zv, rfl, hOz, hu2⟩; obtain ⟨Z1, k1, Z2, k2, rfl, -, -⟩ := hOz.form; have hr2 := hOz.readF HRL.out HRF.out; have y2 := y1.trans (hu2.mono y1.size); have hOy2 := hOy1.keep_ hu2; obtain ⟨t0, t1⟩ := Cm.out u2 y2; obtain ⟨t2, t3, t4⟩ := Ea.out u2 y2; obtain ⟨t5, t6, t7⟩ := Eb.out u2 y2)
              | (go_at_call 55; (with_reducible refine HCc.out.mono ?_); rintro e u1 ⟨yv, rfl, hOy, hu1⟩; obtain ⟨Y1, e1, Y2, e2, rfl, -, -⟩ := hOy.form; have y0 := wc.trans (hu1.mono wc.size); have y1 := y0.alloc y0.size (.cells #[.slice Ab lgb.length cb, .int .i64 cob, .int .i64 kib, .slice Aa lga.length ca, .int .i64 coa, .int .i64 kia] 58); have H2 := Lib.hid (HR2.out _ _ y1 (heap_alloc_new u1 (.cells #[.slice Ab lgb.length cb, .int .i64 cob, .int .i64 kib, .slice Aa lga.length ca, .int .i64 coa, .int .i64 kia] 58))); have hOy1 := hOy.keep_ ((Below.refl _ _).alloc (Nat.le_refl _) (.cells #[.slice Ab lgb.length cb, .int .i64 cob, .int .i64 kib, .slice Aa lga.length ca, .int .i64 coa, .int .i64 kia] 58)); obtain ⟨g0, g1⟩ := Cm.out u1 y0; obtain ⟨g2, g3, g4⟩ := Ea.out u1 y0; obtain ⟨g5, g6, g7⟩ := Eb.out u1 y0; obtain ⟨h0, h1⟩ := Cm.out _ y1; obtain ⟨h2, h3, h4⟩ := Ea.out _ y1; obtain ⟨h5, h6, h7⟩ := Eb.out _ y1)
              | (go_at_call 55; (with_reducible refine HCa.out.mono ?_); rintro e u1 ⟨yv, rfl, hOy1, hu1⟩; obtain ⟨Y1, e1, Y2, e2, rfl, -, -⟩ := hOy1.form; have y1 := wa.trans (hu1.mono wa.size); have H2 := Lib.hid (HR2.out _ _ y1 ((hu1.block _ (blk_lt KA.out)).trans KA.out)); obtain ⟨g0, g1⟩ := Cm.out u1 y1; obtain ⟨g2, g3, g4⟩ := Ea.out u1 y1; obtain ⟨g5, g6, g7⟩ := Eb.out u1 y1)
              | (go_at_call 55; (with_reducible refine HCb.out.mono ?_); rintro e u1 ⟨yv, rfl, hOy1, hu1⟩; obtain ⟨Y1, e1, Y2, e2, rfl, -, -⟩ := hOy1.form; have y1 := wb.trans (hu1.mono wb.size); have H2 := Lib.hid (HR2.out _ _ y1 ((hu1.block _ (blk_lt KB.out)).trans KB.out)); obtain ⟨g0, g1⟩ := Cm.out u1 y1; obtain ⟨g2, g3, g4⟩ := Ea.out u1 y1; obtain ⟨g5, g6, g7⟩ := Eb.out u1 y1))
          all_goals
            go_wp2
            go_ret
            exact ⟨rfl, Fb.out _ y3⟩
end Go.Proofs.Ytoagnajljdbobaa
