/- The law of RunRung: its walk. -/
import Derived.Test.YtoagnajljdbobaaWb
import Derived.Test.YtoagnajljdbobaaRZ
namespace Go.Proofs.Ytoagnajljdbobaa
open Go.RowKit
attribute [local go_sem ↓] Go.wp_at_zero Go.wp_at_succ

theorem sameM_one (v1 v2 : Value) (a : Img) (w : World) (h1 : ImgR w w.heap.size v1 a) (h2 : ImgR w w.heap.size v2 a) :
    Calls Try.prog 26 #[v1, v2] w fun e w' => e = .returned (.bool true) ∧ Below w.heap.size w w' :=
  (sameImage_any v1 v2 a a w h1 h2).mono fun _ _ ⟨he, hb⟩ => ⟨by rw [he, sameM_refl], hb⟩
theorem smallM.fit {m : Img} {a b : Nat} (h : smallM m a b) : ∀ x ∈ m.words, -9223372036854775808 ≤ x ∧ x ≤ 9223372036854775807 := fun x hx => by have := h.2.2 x hx; omega
theorem small_runRung {m : Img} {a b : Nat} (r : Rg) (h : smallM m a b) : smallM (runRungM m r) a b := by
  unfold runRungM
  split
  · exact ⟨by show (runB m.bits r).length ≤ a; rw [runB_length]; exact h.1, h.2.1, h.2.2⟩
  · exact ⟨by simp, by simp, by simp⟩
theorem runB_other (bs : List Bool) (r : Rg) (k : Nat) (h : r.coil.toNat ≠ k) : (runB bs r)[k]? = bs[k]? := by
  unfold runB
  repeat' split
  all_goals first | rfl | rw [List.getElem?_set_ne h]
/-- What the law wants of the coil. -/
def wantB (v old : Bool) (ki : Int) : Bool := if ki = 1 then v else if ki = 2 then (old || v) else (old && !v)
theorem runB_coil (bs : List Bool) (r : Rg) (c : Nat) (hc : r.coil = (c : Int)) (h : c < bs.length) (_hk : 1 ≤ r.kind ∧ r.kind ≤ 3) : (runB bs r)[c]? = some (wantB (evL bs r.logic) bs[c] r.kind) := by
  have hc' : r.coil.toNat = c := by omega
  unfold runB wantB
  rw [hc']
  by_cases h1 : r.kind = 1
  · rw [if_pos h1, if_pos h1, List.getElem?_set_self h]
  · rw [if_neg h1, if_neg h1]
    cases hv : evL bs r.logic
    · rw [if_neg (by simp), List.getElem?_eq_getElem h]; simp
    · rw [if_pos rfl, List.getElem?_set_self h]
      by_cases h2 : r.kind = 2
      · rw [if_pos h2]; simp [h2]
      · rw [if_neg h2]; simp [h2]
theorem FnRunRung_long (a : Option Addr) (n c : Nat) (w : World) (h : 1048576 < n) (_hn : n ≤ 9223372036854775807) : Calls Try.prog 12 #[.slice a n c] w (LawPost w) := by
  go_enter Try.func12, Try.ntmps12
  go_wp2
  go_ret
  exact ⟨rfl, Below.refl _ _⟩
set_option maxRecDepth 100000 in
set_option maxHeartbeats 4000000 in
theorem FnRunRung_core (v : Value) (bl : List Int) (w : World) (h : BytesR w w.heap.size v bl) (hl : bl.length ≤ 1048576) :
    Calls Try.prog 12 #[v] w (LawPost w) := by
  have HO := Lib.hid (drawRunRung_any v bl w h)
  have h2 := h.form
  obtain ⟨A0, c0, rfl, -⟩ := h
  clear h2
  go_enter Try.func12, Try.ntmps12
  go_wp2_with fail
  refine HO.out.mono ?_
  rintro e w1 ⟨vm, vr, m, ⟨lg, co, ki⟩, rfl, hOm, hS, ⟨u, eu, hN, hf⟩, hsm, hb1⟩
  clear HO
  unfold rgV at eu ⊢
  simp only [Value.agg.injEq, Array.mk.injEq, List.cons.injEq, and_true] at eu hN hf hsm ⊢
  obtain rfl := eu
  obtain ⟨A1, c1, A2, c2, rfl, -, -⟩ := hOm.form
  have HN := Lib.hid (fun (W : World) (hb : Below w1.heap.size w1 W) => hN.below hb)
  obtain ⟨A, c, rfl, -⟩ := hN
  have hbl := hS.1
  have hwl := hS.2.1
  have hll := hsm.2.1
  have hS2 := small_runRung ⟨lg, co, ki⟩ hS
  have HR := Lib.hid (fun (W : World) (hb : Below w1.heap.size w1 W) => (⟨_, rfl, HN.out W hb, hf⟩ : RungR W W.heap.size (rgV (.slice A lg.length c) ⟨lg, co, ki⟩) ⟨lg, co, ki⟩))
  have HM := Lib.hid (fun (W : World) (hb : Below w1.heap.size w1 W) => (hOm.keep_ hb).readF (by omega) hS.fit)
  unfold rgV at HR
  simp only at HR
  have m0 := blk_alloc (heap_alloc_new w1 (.cells #[.slice A1 m.bits.length c1, .slice A2 m.words.length c2] 26)) (.cells #[.slice A lg.length c, .int .i64 co, .int .i64 ki] 58)
  have r0 := heap_alloc_new (w1.alloc (.cells #[.slice A1 m.bits.length c1, .slice A2 m.words.length c2] 26)) (.cells #[.slice A lg.length c, .int .i64 co, .int .i64 ki] 58)
  simp only [World.size_alloc] at r0
  have B0 := ((Below.refl w1.heap.size w1).alloc (Nat.le_refl _) (.cells #[.slice A1 m.bits.length c1, .slice A2 m.words.length c2] 26)).alloc (by simp) (.cells #[.slice A lg.length c, .int .i64 co, .int .i64 ki] 58)
  have HSF := Lib.hid hS.fit
  have HSF2 := Lib.hid hS2.fit
  clear hf hsm hOm hS
  go_wp2_with fail
  refine (iRunRung_any _ _ m ⟨lg, co, ki⟩ _ (HM.out _ B0) (HR.out _ B0)).mono ?_
  rintro e w2 ⟨xv, rfl, hOx, hb2⟩
  obtain ⟨X1, d1, X2, d2, rfl, -, -⟩ := hOx.form
  have m2 := (hb2.block _ (blk_lt m0)).trans m0
  have r2 := (hb2.block _ (blk_lt r0)).trans r0
  have B2 := B0.trans (hb2.mono B0.size)
  have hx2 := hS2.1
  have hx3 := hS2.2.1
  have HX := Lib.hid (fun (W : World) (hb : Below w2.heap.size w2 W) => (hOx.keep_ hb).readF (by omega) HSF2.out)
  clear hb2 m0 r0 B0 hOx hS2
  obtain ⟨X, hX⟩ : ∃ X, X = runRungM m ⟨lg, co, ki⟩ := ⟨_, rfl⟩
  rw [← hX] at HX hx2 hx3 HSF2 ⊢
  have HXE := Lib.hid hX
  clear hX
  have x3 := heap_alloc_new w2 (.cells #[.slice X1 X.bits.length d1, .slice X2 X.words.length d2] 26)
  have B3' : Below w2.heap.size w2 (w2.alloc (.cells #[.slice X1 X.bits.length d1, .slice X2 X.words.length d2] 26)) := (Below.refl _ _).alloc (Nat.le_refl _) _
  have m3 := (B3'.block _ (blk_lt m2)).trans m2
  have r3 := (B3'.block _ (blk_lt r2)).trans r2
  have hbs := hb1.trans ((B2.trans (B3'.mono B2.size)).mono hb1.size)
  go_wp2_with fail
  generalize hw3 : w2.alloc (.cells #[.slice X1 X.bits.length d1, .slice X2 X.words.length d2] 26) = w3 at x3 B3' m3 r3 hbs ⊢
  have B3 := B2.trans (B3'.mono B2.size)
  have GM := Lib.hid (fun (W : World) (hb : Below w3.heap.size w3 W) => HM.out W (B3.trans (hb.mono B3.size)))
  have GR := Lib.hid (fun (W : World) (hb : Below w3.heap.size w3 W) => (show RungR W W.heap.size (.agg #[.slice A lg.length c, .int .i64 co, .int .i64 ki]) ⟨lg, co, ki⟩ from HR.out W (B3.trans (hb.mono B3.size))))
  have GN := Lib.hid (fun (W : World) (hb : Below w3.heap.size w3 W) => HN.out W (B3.trans (hb.mono B3.size)))
  have GX := Lib.hid (fun (W : World) (hb : Below w3.heap.size w3 W) => HX.out W (B3'.trans (hb.mono B3'.size)))
  have Cm := Lib.hid (fun (W : World) (hb : Below w3.heap.size w3 W) => let h := blk2 ((hb.block _ (blk_lt m3)).trans m3); And.intro h.1 h.2.1)
  have Cr := Lib.hid (fun (W : World) (hb : Below w3.heap.size w3 W) => blk3k ((hb.block _ (blk_lt r3)).trans r3))
  have Cx := Lib.hid (fun (W : World) (hb : Below w3.heap.size w3 W) => let h := blk2 ((hb.block _ (blk_lt x3)).trans x3); And.intro h.1 h.2.1)
  have Bb := Lib.hid (fun (W : World) (hb : Below w3.heap.size w3 W) => hbs.trans (hb.mono hbs.size))
  clear hw3 HM HR HN HX m3 r3 x3 B3 B3' B2 m2 r2 hbs hb1
  have bR : Below w3.heap.size w3 w3 := Below.refl _ _
  have bD : Below w3.heap.size w3 w3.drew := bR.drew
  obtain ⟨a0, a1⟩ := Cm.out w3 bR
  obtain ⟨a2, a3, a4⟩ := Cr.out w3 bR
  obtain ⟨a5, a6⟩ := Cx.out w3 bR
  go_wp2_with fail
  go_region_held3 (fun w' => (w'.cell? ⟨w1.heap.size, 0, none⟩ = some (.slice A1 m.bits.length c1) ∧ w'.cell? ⟨w1.heap.size, 1, none⟩ = some (.slice A2 m.words.length c2)) ∧ (w'.cell? ⟨w1.heap.size + 1, 0, none⟩ = some (.slice A lg.length c) ∧ w'.cell? ⟨w1.heap.size + 1, 1, none⟩ = some (.int .i64 co) ∧ w'.cell? ⟨w1.heap.size + 1, 2, none⟩ = some (.int .i64 ki)) ∧ w'.cell? ⟨w2.heap.size, 0, none⟩ = some (.slice X1 X.bits.length d1) ∧ w'.cell? ⟨w2.heap.size, 1, none⟩ = some (.slice X2 X.words.length d2)) (first | go_keep)
    (first
      | (go_at_call 26; (with_reducible refine (sameM_one _ _ X _ (GX.out _ b4) hr4).mono ?_); rintro e w5 ⟨rfl, hb5⟩; have b5 := b4.trans (hb5.mono b4.size); obtain ⟨p0, p1⟩ := Cm.out w5 b5; obtain ⟨p2, p3, p4⟩ := Cr.out w5 b5; obtain ⟨p5, p6⟩ := Cx.out w5 b5)
      | (go_at_call 51; (with_reducible refine (sRunRung_any _ _ m ⟨lg, co, ki⟩ _ (GM.out _ bD) (GR.out _ bD) (by show (_ ∧ _) ∧ lg.length ≤ _; omega)).mono ?_); rintro e w4 ⟨yv, rfl, hO4, hb4⟩; rw [← HXE.out] at hO4; obtain ⟨Y1, e1, Y2, e2, rfl, -, -⟩ := hO4.form; have hr4 := hO4.readF (by omega) HSF2.out; have b4 := bD.trans (hb4.mono bD.size); obtain ⟨g0, g1⟩ := Cm.out w4 b4; obtain ⟨g2, g3, g4⟩ := Cr.out w4 b4; obtain ⟨g5, g6⟩ := Cx.out w4 b4))
  clear b4 bD bR hr4 hO4 hb4 hb5 g0 g1 g2 g3 g4 g5 g6 a0 a1 a2 a3 a4 a5 a6
  go_wp2_with fail
  refine (sImageValid_any _ m _ (GM.out _ b5)).mono ?_
  rintro e w6 ⟨rfl, hb6⟩
  have b6 := b5.trans (hb6.mono b5.size)
  clear b5 hb6 p0 p1 p2 p3 p4 p5 p6
  obtain ⟨p0, p1⟩ := Cm.out w6 b6
  obtain ⟨p2, p3, p4⟩ := Cr.out w6 b6
  obtain ⟨p5, p6⟩ := Cx.out w6 b6
  cases hok : imgOK m
  · obtain rfl : X = ⟨[], []⟩ := by rw [HXE.out]; unfold runRungM; simp [hok]
    simp only [List.length_nil] at p5 p6
    go_wp2_with fail
    refine (alive_any _).mono ?_
    rintro e w7 ⟨rfl, hb7⟩
    go_wp2
    go_ret
    exact ⟨rfl, (Bb.out _ b6).trans (hb7.mono (Bb.out _ b6).size)⟩
  · have HOK := Lib.hid hok
    have h16 := (imgOK_len hok).1
    have h8 := (imgOK_len hok).2
    go_wp2_with fail
    refine (sRungValid_any _ ⟨lg, co, ki⟩ m.bits.length _ (GR.out _ b6)).mono ?_
    rintro e w7 ⟨rfl, hb7⟩
    have b7 := b6.trans (hb7.mono b6.size)
    clear b6 hb7 p0 p1 p2 p3 p4 p5 p6 hok
    obtain ⟨p0, p1⟩ := Cm.out w7 b7
    obtain ⟨p2, p3, p4⟩ := Cr.out w7 b7
    obtain ⟨p5, p6⟩ := Cx.out w7 b7
    cases hv : rvalid ⟨lg, co, ki⟩ m.bits.length
    · obtain rfl : X = ⟨[], []⟩ := by rw [HXE.out]; unfold runRungM; simp [hv]
      simp only [List.length_nil] at p5 p6
      go_wp2_with fail
      refine (alive_any _).mono ?_
      rintro e w8 ⟨rfl, hb8⟩
      go_wp2
      go_ret
      exact ⟨rfl, (Bb.out _ b7).trans (hb8.mono (Bb.out _ b7).size)⟩
    · obtain rfl : X = ⟨runB m.bits ⟨lg, co, ki⟩, m.words⟩ := by rw [HXE.out]; unfold runRungM; simp [hv, HOK.out]
      obtain ⟨hvl, ⟨hc0, hc1⟩, hk1, hk3⟩ := rvalid_parts hv
      simp only at hvl hc0 hc1 hk1 hk3
      have HVL := Lib.hid hvl
      simp only [runB_length] at p5 p6 GX hx2 hx3 Cx
      obtain ⟨cn, rfl⟩ := Int.eq_ofNat_of_zero_le hc0
      have hcn : cn < m.bits.length := by omega
      have HG := Lib.hid (fun (k : Nat) (hne : cn ≠ k) => runB_other m.bits ⟨lg, (cn : Int), ki⟩ k hne)
      have HC := Lib.hid (runB_coil m.bits ⟨lg, (cn : Int), ki⟩ cn rfl hcn ⟨hk1, hk3⟩)
      obtain ⟨z1, z2, ez, hBm, hIm⟩ := GM.out w7 b7
      simp only [Value.agg.injEq, Array.mk.injEq, List.cons.injEq, and_true] at ez
      obtain ⟨rfl, rfl⟩ := ez
      obtain ⟨z1, z2, ez, hBx, hIx⟩ := GX.out w7 b7
      simp only [Value.agg.injEq, Array.mk.injEq, List.cons.injEq, and_true] at ez
      obtain ⟨rfl, rfl⟩ := ez
      obtain ⟨_, _, ez, rm, -⟩ := hBm
      injection ez with ez1 ez2 ez3
      subst ez1; subst ez3
      clear ez2
      obtain ⟨_, _, ez, rx, -⟩ := hBx
      injection ez with ez1 ez2 ez3
      subst ez1; subst ez3
      clear ez2 hv hvl hIm hIx
      rw [runB_length] at rx
      have w7' : Below w7.heap.size w7 w7 := Below.refl _ _
      go_wp2_with fail
      go_loopw [6] (fun i wr => ∃ k : Nat, k ≤ m.bits.length ∧ i = .int .i64 k ∧ Below w7.heap.size w7 wr) (fun i _ => m.bits.length - (intOf i).toNat)
      case atStart => exact ⟨0, by omega, rfl, w7'⟩
      case round =>
        obtain ⟨k, hk, rfl, hbr⟩ := hrel
        clear w7' p0 p1 p2 p3 p4 p5 p6
        have bw := b7.trans (hbr.mono b7.size)
        obtain ⟨p0, p1⟩ := Cm.out wr bw
        obtain ⟨p2, p3, p4⟩ := Cr.out wr bw
        obtain ⟨p5, p6⟩ := Cx.out wr bw
        by_cases hlt : k < m.bits.length
        · have i1 : (k : Int) < (m.bits.length : Int) := by omega
          by_cases hkc : cn = k
          · subst hkc
            have e1 : ((cn : Int) != (cn : Int)) = false := by simp
            clear rm rx
            go_wp2
            go_quiet (fail)
            go_wp2
            exact ⟨⟨cn + 1, by omega, by go_num, below_drN hbr _⟩, by simp [intOf]; omega⟩
          · obtain ⟨pm, um, rfl, hpm, hum, hcm⟩ := rm.one hlt
            obtain ⟨px, ux, rfl, hpx, hux, hcx⟩ := rx.one hlt
            have hxx : ux = .bool m.bits[k] := by
              rw [List.getElem?_map, HG.out k hkc, List.getElem?_eq_getElem hlt] at hux; simpa using hux.symm
            have hmm : um = .bool m.bits[k] := by
              rw [List.getElem?_map, List.getElem?_eq_getElem hlt] at hum; simpa using hum.symm
            subst hxx; subst hmm
            have gm := (hbr.cell (p := pm.add k) (by rw [add_block]; exact hpm)).trans hcm
            have gx := (hbr.cell (p := px.add k) (by rw [add_block]; exact hpx)).trans hcx
            generalize m.bits[k] = y at gm gx
            have e1 : ((k : Int) != (cn : Int)) = true := by simp; omega
            have e3 : (k != cn) = true := by simp; omega
            have e4 : (k == cn) = false := by simp; omega
            have e5 : ((k : Int) == (cn : Int)) = false := by simp; omega
            have e2 : (y != y) = false := by simp
            clear hum hux hcm hcx rm rx hkc
            go_wp2
            go_quiet (fail)
            go_wp2
            exact ⟨⟨k + 1, by omega, by go_num, below_drN hbr _⟩, by simp [intOf]; omega⟩
        · obtain rfl : k = m.bits.length := by omega
          have RM := Lib.hid rm
          have RX := Lib.hid rx
          clear rm rx hlt hk
          go_wp2_with fail
          refine (iEvalLogic_any _ _ m lg _ (GM.out _ bw) (GN.out _ bw)).mono ?_
          rintro e w8 ⟨rfl, hb8⟩
          rw [show evI m lg = evL m.bits lg by unfold evI; rw [HOK.out, HVL.out]; rfl]
          have b8 := bw.trans (hb8.mono bw.size)
          have hb78 := hbr.trans (hb8.mono hbr.size)
          clear p0 p1 p2 p3 p4 p5 p6
          obtain ⟨p0, p1⟩ := Cm.out w8 b8
          obtain ⟨p2, p3, p4⟩ := Cr.out w8 b8
          obtain ⟨p5, p6⟩ := Cx.out w8 b8
          obtain ⟨pm, um, rfl, hpm, hum, hcm⟩ := RM.out.one hcn
          obtain ⟨px, ux, rfl, hpx, hux, hcx⟩ := RX.out.one hcn
          have hxx : ux = .bool (wantB (evL m.bits lg) m.bits[cn] ki) := by
            rw [List.getElem?_map, HC.out] at hux; simpa using hux.symm
          have hmm : um = .bool m.bits[cn] := by
            rw [List.getElem?_map, List.getElem?_eq_getElem hcn] at hum; simpa using hum.symm
          subst hxx; subst hmm
          have gm := (hb78.cell (p := pm.add cn) (by rw [add_block]; exact hpm)).trans hcm
          have gx := (hb78.cell (p := px.add cn) (by rw [add_block]; exact hpx)).trans hcx
          have i1 : (cn : Int) < (m.bits.length : Int) := by omega
          have HWS := Lib.hid (fun (W : World) (hb : Below w3.heap.size w3 W) => (by
            obtain ⟨z1, z2, ez, -, hI⟩ := GM.out W hb
            simp only [Value.agg.injEq, Array.mk.injEq, List.cons.injEq, and_true] at ez
            obtain ⟨rfl, rfl⟩ := ez; exact hI : IntsR W W.heap.size (.slice A2 m.words.length c2) m.words))
          have HWX := Lib.hid (fun (W : World) (hb : Below w3.heap.size w3 W) => (by
            obtain ⟨z1, z2, ez, -, hI⟩ := GX.out W hb
            simp only [Value.agg.injEq, Array.mk.injEq, List.cons.injEq, and_true] at ez
            obtain ⟨rfl, rfl⟩ := ez; exact hI : IntsR W W.heap.size (.slice X2 m.words.length d2) m.words))
          generalize m.bits[cn] = old at *
          generalize evL m.bits lg = val at *
          clear hum hux hcm hcx RM RX
          have hki : ki = 1 ∨ ki = 2 ∨ ki = 3 := by omega
          clear hk1 hk3 HG HC HVL
          have l0 : w1.heap.size < w8.heap.size := World.block_lt_of_cell? w8 _ p0
          have l1 : w1.heap.size + 1 < w8.heap.size := World.block_lt_of_cell? w8 _ p2
          have l2 : w2.heap.size < w8.heap.size := World.block_lt_of_cell? w8 _ p5
          have FIN := Lib.hid (fun (o : Obj) (K : Ending → World → Prop) (hK : ∀ W, Below w.heap.size w W → K (.returned (.bool true)) W) => (sameI_one _ _ m.words _ (HWX.out _ (b8.alloc b8.size o)) (HWS.out _ (b8.alloc b8.size o))).mono (fun e W ⟨he, hb⟩ => (by rw [he]; exact hK W ((Bb.out _ (b8.alloc b8.size o)).trans (hb.mono (Bb.out _ (b8.alloc b8.size o)).size)) : K e W)))
          rcases hki with rfl | rfl | rfl <;> cases val <;> cases old <;> simp only [wantB] at gx <;> simp only [if_true, if_false, Bool.not_true, Bool.not_false, Bool.or_true, Bool.or_false, Bool.and_true, Bool.and_false, show ¬ ((2 : Int) = 1) by decide, show ¬ ((3 : Int) = 1) by decide, show ¬ ((3 : Int) = 2) by decide] at gx
          all_goals
            go_wp2_with fail
            refine FIN.out _ _ ?_
            intro W hW
            go_wp2
            go_ret
            exact ⟨rfl, hW⟩
end Go.Proofs.Ytoagnajljdbobaa
