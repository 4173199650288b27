/- The law of DoubleCoils: its walk. -/
import Derived.Test.YtoagnajljdbobaaWd
namespace Go.Proofs.Ytoagnajljdbobaa
open Go.RowKit
attribute [local go_sem ↓] Go.wp_at_zero Go.wp_at_succ

theorem runB_cover (bs : List Bool) (a b : Rg) (hc : a.coil = b.coil) (hk : b.kind = 1) (hv : ∀ x ∈ b.logic, x.op = 1 → x.bit.toNat ≠ a.coil.toNat) : runB (runB bs a) b = runB bs b := by
  have he : evL (runB bs a) b.logic = evL bs b.logic := by
    unfold evL
    refine evb_congr _ _ fun x hx h1 => ?_
    rw [List.getD_eq_getElem?_getD, List.getD_eq_getElem?_getD, runB_other _ _ _ (Ne.symm (hv x hx h1))]
  unfold runB at he ⊢
  rw [if_pos hk, if_pos hk, he]
  repeat' split
  all_goals first | rfl | rw [hc, List.set_set]
/-- An assigned coil covers what the rung ahead of it drove. -/
theorem runL_cover (bs : List Bool) (a b : Rg) (l : List Rg) (hc : a.coil = b.coil) (hk : b.kind = 1) (hv : ∀ x ∈ b.logic, x.op = 1 → x.bit.toNat ≠ a.coil.toNat) : runL bs (a :: b :: l) = runL bs (b :: l) := by
  unfold runL
  rw [List.foldl_cons, List.foldl_cons, List.foldl_cons, runB_cover bs a b hc hk hv]
theorem unused_of {lg : List Nd} {n : Nat} {c : Int} (h16 : n ≤ 16) (hv : lvalid lg n = true) (hc : 0 ≤ c) (hu : c ∉ usedL lg) : ∀ x ∈ lg, x.op = 1 → x.bit.toNat ≠ c.toNat := by
  intro x hx h1 he
  have hb := valid_bits (lvalid_dep hv) x hx h1
  apply hu
  unfold usedL
  refine (numsTo_mem _ 16 _).2 ⟨hc, by omega, ?_⟩
  rw [← he, usedS_bit _ _ (by omega), List.any_eq_true]
  exact ⟨x, hx, by unfold isBit; simp [h1]; omega⟩
theorem alive_fin {w W : World} (hb : Below w.heap.size w W) : Calls Try.prog 23 #[] W fun e w' => e = .returned (.bool true) ∧ Below w.heap.size w w' :=
  (alive_any W).mono fun _ _ ⟨h1, h2⟩ => ⟨h1, hb.trans (h2.mono hb.size)⟩
theorem two_of {α : Type} (l : List α) (h : 2 ≤ l.length) : ∃ x y rest, l = x :: y :: rest ∧ x = l[0] ∧ y = l[1] := by
  match l, h with
  | x :: y :: rest, _ => exact ⟨x, y, rest, rfl, rfl, rfl⟩
  | [x], h => simp at h
  | [], h => simp at h
theorem FnDoubleCoils_long (a : Option Addr) (n c : Nat) (w : World) (h : 1048576 < n) (_hn : n ≤ 9223372036854775807) : Calls Try.prog 15 #[.slice a n c] w (LawPost w) := by
  go_enter Try.func15, Try.ntmps15
  go_wp2
  go_ret
  exact ⟨rfl, Below.refl _ _⟩
set_option maxRecDepth 100000 in
set_option maxHeartbeats 4000000 in
theorem FnDoubleCoils_core (v : Value) (bl : List Int) (w : World) (h : BytesR w w.heap.size v bl) (hl : bl.length ≤ 1048576) :
    Calls Try.prog 15 #[v] w (LawPost w) := by
  have HO := Lib.hid (drawDoubleCoils_any v bl w h)
  have h2 := h.form
  obtain ⟨A0, c0, rfl, -⟩ := h
  clear h2
  go_enter Try.func15, Try.ntmps15
  go_wp2_with fail
  refine HO.out.mono ?_
  rintro e w1 ⟨vl, ps, rfl, hL, hsm, hb1⟩
  clear HO
  have HL := Lib.hid (fun (W : World) (hb : Below w1.heap.size w1 W) => hL.below hb)
  obtain ⟨A, c, rfl, hrd, hcl, h3⟩ := id hL
  have h24 := hsm.1
  have hc := hcl.1
  have H3 := Lib.hid h3
  have HRD := Lib.hid hrd
  have HLL := Lib.hid hL
  clear hsm hL hcl h3 hrd
  go_wp2_with fail
  refine (iDoubleCoils_any _ ps _ (HL.out _ (Below.refl _ _))).mono ?_
  rintro e w2 ⟨v2, rfl, hO2, hb2⟩
  have hz2 := hb2.size
  obtain ⟨A2, c2, rfl, -, -⟩ := own_form hO2
  go_wp2_with fail
  refine (sDoubleCoils_any _ ps _ (HL.out _ hb2)).mono ?_
  rintro e w3 ⟨v3, rfl, hO3, hb3⟩
  obtain ⟨A3, c3, rfl, -, -⟩ := own_form hO3
  replace hO2 := own_below hO2 hb3
  replace hb3 := hb2.trans (hb3.mono hz2)
  have hz3 := hb3.size
  obtain ⟨U, hU, hUf, hU16⟩ : ∃ U, U = doubleL (lads ps) ∧ (∀ x ∈ U, -9223372036854775808 ≤ x ∧ x ≤ 9223372036854775807) ∧ U.length ≤ 16 :=
    ⟨_, rfl, by rw [← doubleL_set]; exact nums_fit _, by rw [← doubleL_set]; exact numsTo_length _ _⟩
  rw [← hU] at hO2 hO3 ⊢
  have r2 := OwnI.read hO2 (by omega) hUf
  have r3 := OwnI.read hO3 (by omega) hUf
  clear hb2 hU hUf hO2 hO3
  go_wp2_with fail
  refine (sameI_one _ _ U _ r2 r3).mono ?_
  rintro e w4 ⟨rfl, hb4⟩
  replace hb4 := hb3.trans (hb4.mono hz3)
  have hb14 := hb1.trans (hb4.mono hb1.size)
  clear hb3 r2 r3
  go_wp2_with fail
  refine (sLadderValid_any _ ps 16 _ (HL.out _ hb4)).mono ?_
  rintro e w5 ⟨rfl, hb5⟩
  replace hb5 := hb4.trans (hb5.mono hb4.size)
  have hb15 := hb1.trans (hb5.mono hb1.size)
  clear hb4 hb14
  cases hv : ladvalid (lads ps) 16
  · go_wp2_with fail
    refine (alive_any _).mono ?_
    rintro e w6 ⟨rfl, hb6⟩
    go_wp2
    go_ret
    exact ⟨rfl, hb15.trans (hb6.mono hb15.size)⟩
  · have HV := Lib.hid hv
    by_cases h2 : ps.length < 2
    · have i2 : (ps.length : Int) < 2 := by omega
      clear hv
      go_wp2_with fail
      refine (alive_any _).mono ?_
      rintro e w6 ⟨rfl, hb6⟩
      go_wp2
      go_ret
      exact ⟨rfl, hb15.trans (hb6.mono hb15.size)⟩
    · obtain ⟨p0, rfl, hpb, -, -, -⟩ := HRD.out.three (k := 0) (by omega)
      obtain ⟨q0, e0, -, a0, a1, a2⟩ := HRD.out.three (k := 0) (by omega)
      injection e0 with e0
      subst e0
      obtain ⟨q1, e1, -, b0, b1, b2⟩ := HRD.out.three (k := 1) (by omega)
      injection e1 with e1
      subst e1
      obtain ⟨hna, hfa⟩ := H3.out ps[0] (List.getElem_mem _)
      obtain ⟨hnb, hfb⟩ := H3.out ps[1] (List.getElem_mem _)
      obtain ⟨xa, xb, rest, hpe, hxa, hxb⟩ := two_of ps (by omega)
      rw [← hxa] at a0 a1 a2 hna hfa
      rw [← hxb] at b0 b1 b2 hnb hfb
      obtain ⟨ua, lga, coa, kia⟩ := xa
      obtain ⟨ub, lgb, cob, kib⟩ := xb
      simp only at a0 a1 a2 b0 b1 b2 hna hnb hfa hfb
      obtain ⟨Aa, ca, rfl, -⟩ := id hna
      obtain ⟨Ab, cb, rfl, -⟩ := id hnb
      have k0 : p0.add (0 * 3) = p0 := by simp [Addr.add]
      rw [k0] at a0 a1 a2
      rw [Nat.one_mul] at b0 b1 b2
      have k1 : p0.add 3 = ⟨p0.block, p0.off + 3, none⟩ := by simp [Addr.add]
      rw [k1] at b0 b1 b2
      simp only at b1 b2
      have HPE := Lib.hid hpe
      have hlen : 2 ≤ ps.length := by omega
      clear hxa hxb hpe hv k0 k1
      have f0 := (hb5.cell (p := p0) hpb).trans a0
      have f1 := (hb5.cell (p := ⟨p0.block, p0.off + 1, none⟩) hpb).trans a1
      have f2 := (hb5.cell (p := ⟨p0.block, p0.off + 2, none⟩) hpb).trans a2
      have f3 := (hb5.cell (p := ⟨p0.block, p0.off + 3, none⟩) hpb).trans b0
      have f4 := (hb5.cell (p := ⟨p0.block, p0.off + 3 + 1, none⟩) hpb).trans b1
      have f5 := (hb5.cell (p := ⟨p0.block, p0.off + 3 + 2, none⟩) hpb).trans b2
      have i2 : ¬ ((ps.length : Int) < 2) := by omega
      have i1 : (1 : Int) < (ps.length : Int) := by omega
      have i0 : (0 : Int) < (ps.length : Int) := by omega
      go_wp2_with fail
      refine (iNewImage_ok 16 0 _ (by decide)).mono ?_
      rintro e w6 ⟨mv, rfl, hOm, hb6⟩
      obtain ⟨M1, d1, M2, d2, rfl, -, -⟩ := hOm.form
      have B6 := hb5.trans (hb6.mono hb5.size)
      have z5 := hb5.size
      have z6 := hb6.size
      have f0' := (hb6.cell (p := p0) (by omega)).trans f0
      have f1' := (hb6.cell (p := ⟨p0.block, p0.off + 1, none⟩) (by show p0.block < _; omega)).trans f1
      have f2' := (hb6.cell (p := ⟨p0.block, p0.off + 2, none⟩) (by show p0.block < _; omega)).trans f2
      have f3' := (hb6.cell (p := ⟨p0.block, p0.off + 3, none⟩) (by show p0.block < _; omega)).trans f3
      have f4' := (hb6.cell (p := ⟨p0.block, p0.off + 3 + 1, none⟩) (by show p0.block < _; omega)).trans f4
      have f5' := (hb6.cell (p := ⟨p0.block, p0.off + 3 + 2, none⟩) (by show p0.block < _; omega)).trans f5
      have lp6 : p0.block < w6.heap.size := by have := B6.size; omega
      clear f0 f1 f2 f3 f4 f5
      go_wp2_with fail
      have NM : (newM 16 0).bits.length = 16 ∧ (newM 16 0).words = [] ∧ imgOK (newM 16 0) = true := by decide
      obtain ⟨MM, hMM⟩ : ∃ MM, MM = newM 16 0 := ⟨_, rfl⟩
      rw [← hMM] at hOm NM ⊢
      have B8 := (((Below.refl w6.heap.size w6).alloc (Nat.le_refl _) (.cells #[.slice M1 MM.bits.length d1, .slice M2 MM.words.length d2] 26)).alloc (by simp) (.cells #[.slice Aa lga.length ca, .int .i64 coa, .int .i64 kia] 58)).alloc (by simp; omega) (.cells #[.slice Ab lgb.length cb, .int .i64 cob, .int .i64 kib] 58)
      have m8 := blk_alloc (blk_alloc (heap_alloc_new w6 (.cells #[.slice M1 MM.bits.length d1, .slice M2 MM.words.length d2] 26)) (.cells #[.slice Aa lga.length ca, .int .i64 coa, .int .i64 kia] 58)) (.cells #[.slice Ab lgb.length cb, .int .i64 cob, .int .i64 kib] 58)
      have r8 := blk_alloc (heap_alloc_new (w6.alloc (.cells #[.slice M1 MM.bits.length d1, .slice M2 MM.words.length d2] 26)) (.cells #[.slice Aa lga.length ca, .int .i64 coa, .int .i64 kia] 58)) (.cells #[.slice Ab lgb.length cb, .int .i64 cob, .int .i64 kib] 58)
      have s8 := heap_alloc_new ((w6.alloc (.cells #[.slice M1 MM.bits.length d1, .slice M2 MM.words.length d2] 26)).alloc (.cells #[.slice Aa lga.length ca, .int .i64 coa, .int .i64 kia] 58)) (.cells #[.slice Ab lgb.length cb, .int .i64 cob, .int .i64 kib] 58)
      simp only [World.size_alloc] at r8 s8
      have B18 := B6.trans (B8.mono B6.size)
      refine (iUsedBits_any _ lgb _ (hnb.below B18)).mono ?_
      rintro e w7 ⟨uv, rfl, hOu, hb7⟩
      obtain ⟨Au, cu, rfl, -, -⟩ := own_form hOu
      have m7 := (hb7.block _ (blk_lt m8)).trans m8
      have r7 := (hb7.block _ (blk_lt r8)).trans r8
      have s7 := (hb7.block _ (blk_lt s8)).trans s8
      have B67 := B8.trans (hb7.mono B8.size)
      have B17 := B6.trans (B67.mono B6.size)
      have HMM := Lib.hid hMM
      have NB := Lib.hid NM.1
      have NW := Lib.hid NM.2.1
      have NOK := Lib.hid NM.2.2
      have GM := Lib.hid (fun (W : World) (hb : Below w7.heap.size w7 W) => (hOm.keep_ (B67.trans (hb.mono B67.size))).readF (by rw [NM.1, NM.2.1]; simp) (by rw [NM.2.1]; simp))
      have GL := Lib.hid (fun (W : World) (hb : Below w7.heap.size w7 W) => (show LadR W W.heap.size (.slice (some p0) ps.length c) ps from HL.out W (B17.trans (hb.mono B17.size))))
      have Cm := Lib.hid (fun (W : World) (hb : Below w7.heap.size w7 W) => let h := blk2 ((hb.block _ (blk_lt m7)).trans m7); And.intro h.1 h.2.1)
      have Ca := Lib.hid (fun (W : World) (hb : Below w7.heap.size w7 W) => blk3k ((hb.block _ (blk_lt r7)).trans r7))
      have Cb := Lib.hid (fun (W : World) (hb : Below w7.heap.size w7 W) => blk3k ((hb.block _ (blk_lt s7)).trans s7))
      have hbs := hb1.trans (B17.mono hb1.size)
      have Bb := Lib.hid (fun (W : World) (hb : Below w7.heap.size w7 W) => hbs.trans (hb.mono hbs.size))
      have g0 := OwnI.rdR hOu rfl
      have HUB := Lib.hid (fun (h1 : lvalid lgb 16 = true) (h2 : 0 ≤ coa) (hu : coa ∉ usedL lgb) => unused_of (n := 16) (Nat.le_refl _) h1 h2 hu)
      have hU16 : (usedL lgb).length ≤ 16 := numsTo_length _ _
      generalize usedL lgb = U2 at *
      clear m8 r8 s8 hOm NM hMM B8 B18 m7 r7 s7 B67 B17 hbs hb7 hOu hna hnb hfa hfb f0' f1' f2' f3' f4' f5' hb1 hb5 hb6 B6 hb15
      have b7 : Below w7.heap.size w7 w7 := Below.refl _ _
      go_wp2_with fail
      go_loopw [8, 10] (fun u i wr => ∃ k : Nat, k ≤ U2.length ∧ i = .int .i64 k ∧ u = .bool ((U2.take k).any fun x => decide (x = coa)) ∧ Below w7.heap.size w7 wr) (fun _ i _ => U2.length - (intOf i).toNat)
      case atStart => exact ⟨0, by omega, rfl, by simp, b7⟩
      case round =>
        obtain ⟨k, hk, rfl, rfl, hbr⟩ := hrel
        obtain ⟨x0, x1, x2⟩ := Ca.out wr hbr
        clear b7
        by_cases hlt : k < U2.length
        · have i1 : (k : Int) < (U2.length : Int) := by omega
          have HT := Lib.hid (any_take_succ (fun x => decide (x = coa)) U2 k hlt)
          obtain ⟨p, u, rfl, hpb2, hu, hc⟩ := g0.one hlt
          have hx : u = .int .i64 U2[k] := by rw [List.getElem?_map, List.getElem?_eq_getElem hlt] at hu; simpa using hu.symm
          subst hx
          have g1 := (hbr.cell (p := p.add k) (by rw [add_block]; exact hpb2)).trans hc
          generalize U2[k] = x at g1 HT
          generalize ((U2.take k).any fun x => decide (x = coa)) = q at HT ⊢
          clear hu hc g0
          cases q
          · by_cases hx : x = coa
            · subst hx
              have e1 : (x == x) = true := by simp
              have HT2 := Lib.hid (show ((U2.take (k + 1)).any fun y => decide (y = x)) = true by rw [HT.out]; simp)
              go_wp2
              go_quiet (fail)
              go_wp2
              exact ⟨⟨k + 1, by omega, by go_num, by rw [HT2.out], below_drN hbr _⟩, by simp [intOf]; omega⟩
            · have e1 : (x == coa) = false := by simpa using hx
              have HT2 := Lib.hid (show ((U2.take (k + 1)).any fun y => decide (y = coa)) = false by rw [HT.out]; simp [hx])
              clear hx
              go_wp2
              go_quiet (fail)
              go_wp2
              exact ⟨⟨k + 1, by omega, by go_num, by rw [HT2.out], below_drN hbr _⟩, by simp [intOf]; omega⟩
          · have HT2 := Lib.hid (show ((U2.take (k + 1)).any fun y => decide (y = coa)) = true by rw [HT.out]; rfl)
            go_wp2
            go_quiet (fail)
            go_wp2
            exact ⟨⟨k + 1, by omega, by go_num, by rw [HT2.out], below_drN hbr _⟩, by simp [intOf]; omega⟩
        · obtain rfl : k = U2.length := by omega
          rw [List.take_length]
          obtain ⟨y0, y1, y2⟩ := Cb.out wr hbr
          have HAL := Lib.hid (alive_fin (Bb.out _ hbr))
          clear hlt hk g0
          by_cases h1 : coa = cob
          · have e1 : (coa != cob) = false := by simpa using h1
            have H1 := Lib.hid h1
            clear h1
            by_cases h2 : kib = 1
            · subst h2
              cases hq : (U2.any fun x => decide (x = coa))
              · have hvb : rvalid ⟨lgb, cob, 1⟩ 16 = true := by
                  have := HV.out
                  unfold ladvalid at this
                  simp only [Bool.and_eq_true, List.all_eq_true] at this
                  exact this.1 _ (by rw [HPE.out]; simp [lads])
                obtain ⟨hb1, hb2, -⟩ := rvalid_parts hvb
                simp only at hb1 hb2
                have hun := HUB.out hb1 (by have := H1.out; omega) (fun hm => by
                  rw [List.any_eq_false] at hq
                  exact hq _ hm (by simp))
                have HEQ := Lib.hid (show runLadM MM (lads (ps.drop 1)) = runLadM MM (lads ps) by
                  rw [runLad_parts MM (lads (ps.drop 1)) NOK.out (by rw [NB.out, lads_dropN]; exact ladvalid_drop HV.out 1), runLad_parts MM (lads ps) NOK.out (by rw [NB.out]; exact HV.out), HPE.out]
                  have := runL_cover MM.bits ⟨lga, coa, kia⟩ ⟨lgb, cob, 1⟩ (lads rest) H1.out rfl hun
                  simp only [List.drop_succ_cons, List.drop_zero]
                  exact congrArg (fun b => (⟨b, MM.words⟩ : Img)) this.symm)
                obtain ⟨A', hrun, hrest⟩ := rest_run w1 w1.heap.size (some p0) c ps 1 (by omega) 1 rfl HLL.out
                have HREST := Lib.hid hrest
                have hrl : (runLadM MM (lads ps)).bits.length ≤ 16 ∧ (runLadM MM (lads ps)).words = [] := by
                  rw [runLad_parts MM _ NOK.out (by rw [NB.out]; exact HV.out)]
                  exact ⟨by show (runL MM.bits (lads ps)).length ≤ 16; rw [runL_length, NB.out]; omega, NW.out⟩
                have hrl1 := hrl.1
                have HRW := Lib.hid hrl.2
                obtain ⟨m0, m1⟩ := Cm.out wr hbr
                have bD := hbr.drew
                clear hq hun hb1 hb2 hvb hrest hrl
                generalize hRR : runLadM MM (lads ps) = RR at *
                have HRR := Lib.hid hRR
                clear hRR
                go_wp2_with fail
                go_region_held3 (fun w' => w'.cell? ⟨w6.heap.size, 0, none⟩ = some (.slice M1 MM.bits.length d1) ∧ w'.cell? ⟨w6.heap.size, 1, none⟩ = some (.slice M2 MM.words.length d2)) (first | go_keep)
                  (first
                    | (go_at_call 26; have tell := hr2; (with_reducible refine (sameM_one _ _ RR _ ((hOy.keep_ hb2).readF (by rw [HRW.out]; simp; omega) (by rw [HRW.out]; simp)) hr2).mono ?_); rintro e u3 ⟨rfl, hb3⟩; have y3 := y2.trans (hb3.mono y2.size); obtain ⟨s0, s1⟩ := Cm.out u3 y3)
                    | (go_at_call 55; have tell := hOy; (with_reducible refine (iRunLadder_any _ _ MM (ps.drop 1) _ (GM.out _ y1) (HREST.out _ _ (GL.out _ y1))).mono ?_); rintro e u2 ⟨zv, rfl, hOz, hb2⟩; rw [HEQ.out] at hOz; obtain ⟨Z1, k1, Z2, k2, rfl, -, -⟩ := hOz.form; have hr2 := hOz.readF (by rw [HRW.out]; simp; omega) (by rw [HRW.out]; simp); have y2 := y1.trans (hb2.mono y1.size); obtain ⟨t0, t1⟩ := Cm.out u2 y2)
                    | (go_at_call 55; (with_reducible refine (iRunLadder_any _ _ MM ps _ (GM.out _ bD) (GL.out _ bD)).mono ?_); rintro e u1 ⟨yv, rfl, hOy, hb1⟩; rw [HRR.out] at hOy; obtain ⟨Y1, e1, Y2, e2, rfl, -, -⟩ := hOy.form; have y1 := bD.trans (hb1.mono bD.size); obtain ⟨g0, g1⟩ := Cm.out u1 y1))
                go_wp2
                go_ret
                exact ⟨rfl, Bb.out _ y3⟩
              · clear hq
                go_wp2_with fail
                refine HAL.out.mono ?_
                rintro e w9 ⟨rfl, hb9⟩
                go_wp2
                go_ret
                exact ⟨rfl, hb9⟩
            · have e2 : (kib != 1) = true := by simpa using h2
              clear h2
              generalize (U2.any fun x => decide (x = coa)) = q
              go_wp2_with fail
              refine HAL.out.mono ?_
              rintro e w9 ⟨rfl, hb9⟩
              go_wp2
              go_ret
              exact ⟨rfl, hb9⟩
          · have e1 : (coa != cob) = true := by simpa using h1
            clear h1
            generalize (U2.any fun x => decide (x = coa)) = q
            go_wp2_with fail
            refine HAL.out.mono ?_
            rintro e w9 ⟨rfl, hb9⟩
            go_wp2
            go_ret
            exact ⟨rfl, hb9⟩
end Go.Proofs.Ytoagnajljdbobaa
