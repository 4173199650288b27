/- Rungs: the specification's RunRung. Rungs: the specification's RunLadder. -/
import Derived.Test.YtoagnajljdbobaaRS
namespace Go.Proofs.Ytoagnajljdbobaa
open Go.RowKit
attribute [local go_sem ↓] Go.wp_at_zero Go.wp_at_succ

theorem grown_blk' {W W' : World} {g k : Nat} {o : Obj} (hg : W.grownBy W' (some g)) (h : W.heap[k]? = some o) (hne : k ≠ g) : W'.heap[k]? = some o :=
  (hg.block k (blk_lt h) (by intro e; injection e with e; exact hne e)).trans h
set_option maxRecDepth 100000 in
set_option maxHeartbeats 2000000 in
theorem sRunRung_any (vm vr : Value) (m : Img) (r : Rg) (w : World) (hm : ImgR w w.heap.size vm m) (h : RungR w w.heap.size vr r) (hs : (m.bits.length ≤ 2000000 ∧ m.words.length ≤ 2000000) ∧ r.logic.length ≤ 2000000) :
    Calls Try.prog 51 #[vm, vr] w (RgRunP (runRungM m r) w) := by
  have HM := Lib.hid (fun (w' : World) (hb : Below w.heap.size w w') => hm.below hb)
  have HR := Lib.hid (fun (w' : World) (hb : Below w.heap.size w w') => h.below hb)
  have hx : ∀ x ∈ m.words, -9223372036854775808 ≤ x ∧ x ≤ 9223372036854775807 := by obtain ⟨_, _, _, _, _, _, _, _, _, hx⟩ := hm; exact hx
  have HX := Lib.hid hx
  obtain ⟨v1, v2, rfl, ⟨A1, c1, rfl, -, -⟩, ⟨A2, c2, rfl, -, -⟩⟩ := hm
  obtain ⟨u, rfl, hn, hf⟩ := h
  have HFN := Lib.hid hn.fitL
  obtain ⟨Au, cu, rfl, -⟩ := hn
  obtain ⟨lg, co, ki⟩ := r
  unfold rgV at *
  simp only at HR HFN hs ⊢
  clear hx
  go_enter Try.func51, Try.ntmps51
  go_wp2_with fail
  refine (l1OwnImage_any _ m _ (HM.out _ ((((Below.refl _ _).alloc (Nat.le_refl _) _).alloc (by simp) _).alloc (by simp; omega) _)) hs.1).mono ?_
  rintro e w1 ⟨u1, rfl, hO1, hb1⟩
  obtain ⟨U1, d1, U2, d2, rfl, -, -⟩ := hO1.form
  have m0 := blk_alloc (blk_alloc (heap_alloc_new w (.cells #[.slice A1 m.bits.length c1, .slice A2 m.words.length c2] 26)) (.cells #[.slice Au lg.length cu, .int .i64 co, .int .i64 ki] 58)) (.cells #[.slice none 0 0, .slice none 0 0] 26)
  have r0 := blk_alloc (heap_alloc_new (w.alloc (.cells #[.slice A1 m.bits.length c1, .slice A2 m.words.length c2] 26)) (.cells #[.slice Au lg.length cu, .int .i64 co, .int .i64 ki] 58)) (.cells #[.slice none 0 0, .slice none 0 0] 26)
  have q0 := heap_alloc_new ((w.alloc (.cells #[.slice A1 m.bits.length c1, .slice A2 m.words.length c2] 26)).alloc (.cells #[.slice Au lg.length cu, .int .i64 co, .int .i64 ki] 58)) (.cells #[.slice none 0 0, .slice none 0 0] 26)
  simp only [World.size_alloc] at r0 q0
  have l0 := blk_lt m0
  have l1 := blk_lt r0
  have l2 := blk_lt q0
  have m1 := (hb1.block _ l0).trans m0
  have r1 := (hb1.block _ l1).trans r0
  have q1 := (hb1.block _ l2).trans q0
  have hb1w := ((((Below.refl _ _).alloc (Nat.le_refl _) _).alloc (by simp) _).alloc (by simp; omega) _).trans (hb1.mono (by simp; omega))
  simp only [World.size_alloc] at hO1
  clear hb1 m0 r0 q0 l0 l1 l2
  obtain ⟨c0, c1', z0, z1⟩ := blk2 m1
  obtain ⟨⟨d0, d1', d2'⟩, y0, y1, y2⟩ := blk3 r1
  go_wp2_with fail
  have m2 := blk_set2 m1 (.slice U1 m.bits.length d1) (.slice U2 m.words.length d2)
  have r2 := blk_other (blk_other r1 (a := ⟨w.heap.size, 0, none⟩) (by simp) (.slice U1 m.bits.length d1)) (a := ⟨w.heap.size, 1, none⟩) (by simp) (.slice U2 m.words.length d2)
  have q2 := blk_other (blk_other q1 (a := ⟨w.heap.size, 0, none⟩) (by simp; omega) (.slice U1 m.bits.length d1)) (a := ⟨w.heap.size, 1, none⟩) (by simp; omega) (.slice U2 m.words.length d2)
  have hO2 := (hO1.set_ (p := ⟨w.heap.size, 0, none⟩) (by simp; omega) (.slice U1 m.bits.length d1)).set_ (p := ⟨w.heap.size, 1, none⟩) (by simp; omega) (.slice U2 m.words.length d2)
  have hb2w := (hb1w.setCell (p := ⟨w.heap.size, 0, none⟩) (by simp) (.slice U1 m.bits.length d1)).setCell (p := ⟨w.heap.size, 1, none⟩) (by simp) (.slice U2 m.words.length d2)
  clear m1 r1 q1 hb1w hO1 c0 c1' z0 z1 d0 d1' d2' y0 y1 y2
  refine (l1OwnRung_any _ ⟨lg, co, ki⟩ _ (HR.out _ hb2w) hs.2).mono ?_
  rintro e w3 ⟨u3, rfl, hN3, hb3⟩
  obtain ⟨A3, c3, rfl, -, -⟩ := own_form hN3
  unfold rgV
  simp only at hN3 ⊢
  have m3 := (hb3.block _ (blk_lt m2)).trans m2
  have r3 := (hb3.block _ (blk_lt r2)).trans r2
  have q3 := (hb3.block _ (blk_lt q2)).trans q2
  have hN3' : OwnN w3 (w.heap.size + 1 + 1 + 1) (.slice A3 lg.length c3) lg := mono_own hN3 (by have := blk_lt q2; omega)
  have hO3 := hO2.keep_ hb3
  have hb3w := hb2w.trans (hb3.mono hb2w.size)
  clear hN3 hb3 m2 r2 q2 hO2 hb2w
  obtain ⟨c0, c1', z0, z1⟩ := blk2 m3
  obtain ⟨⟨d0, d1', d2'⟩, y0, y1, y2⟩ := blk3 r3
  go_wp2_with fail
  have m4 := (blk_other (blk_other (blk_other m3 (a := ⟨w.heap.size + 1, 0, none⟩) (by simp) (.slice A3 lg.length c3)) (a := ⟨w.heap.size + 1, 1, none⟩) (by simp) (.int .i64 co)) (a := ⟨w.heap.size + 1, 2, none⟩) (by simp) (.int .i64 ki))
  have r4 := blk_set3 r3 (.slice A3 lg.length c3) (.int .i64 co) (.int .i64 ki)
  have q4 := (blk_other (blk_other (blk_other q3 (a := ⟨w.heap.size + 1, 0, none⟩) (by simp) (.slice A3 lg.length c3)) (a := ⟨w.heap.size + 1, 1, none⟩) (by simp) (.int .i64 co)) (a := ⟨w.heap.size + 1, 2, none⟩) (by simp) (.int .i64 ki))
  have hO4 := (OwnM.set_ (OwnM.set_ (OwnM.set_ hO3 (p := ⟨w.heap.size + 1, 0, none⟩) (by simp) (.slice A3 lg.length c3)) (p := ⟨w.heap.size + 1, 1, none⟩) (by simp) (.int .i64 co)) (p := ⟨w.heap.size + 1, 2, none⟩) (by simp) (.int .i64 ki))
  have hN4 : OwnN _ (w.heap.size + 1 + 1 + 1) (.slice A3 lg.length c3) lg := (ownsRow_setCell_below (ownsRow_setCell_below (ownsRow_setCell_below hN3' (a := ⟨w.heap.size + 1, 0, none⟩) (by simp) (.slice A3 lg.length c3)) (a := ⟨w.heap.size + 1, 1, none⟩) (by simp) (.int .i64 co)) (a := ⟨w.heap.size + 1, 2, none⟩) (by simp) (.int .i64 ki))
  have hb4w := (Below.setCell (Below.setCell (Below.setCell hb3w (p := ⟨w.heap.size + 1, 0, none⟩) (by simp) (.slice A3 lg.length c3)) (p := ⟨w.heap.size + 1, 1, none⟩) (by simp) (.int .i64 co)) (p := ⟨w.heap.size + 1, 2, none⟩) (by simp) (.int .i64 ki))
  clear m3 r3 q3 hO3 hN3' hb3w c0 c1' z0 z1 d0 d1' d2' y0 y1 y2
  refine (sImageValid_any _ m _ (OwnM.readF hO4 hs.1 HX.out)).mono ?_
  rintro e w5 ⟨rfl, hb5⟩
  have m5 := (hb5.block _ (blk_lt m4)).trans m4
  have r5 := (hb5.block _ (blk_lt r4)).trans r4
  have q5 := (hb5.block _ (blk_lt q4)).trans q4
  have hO5 := hO4.keep_ hb5
  have hN5 : OwnN w5 (w.heap.size + 1 + 1 + 1) (.slice A3 lg.length c3) lg := own_below hN4 hb5
  have hb5w := hb4w.trans (hb5.mono hb4w.size)
  clear m4 r4 q4 hO4 hN4 hb4w hb5
  obtain ⟨c0, c1', z0, z1⟩ := blk2 m5
  obtain ⟨⟨d0, d1', d2'⟩, y0, y1, y2⟩ := blk3 r5
  obtain ⟨e0, e1', x0, x1⟩ := blk2 q5
  cases hok : imgOK m
  · have HZ := Lib.hid (show runRungM m ⟨lg, co, ki⟩ = ⟨[], []⟩ by unfold runRungM; simp [hok])
    go_wp2
    refine bodyPost_ret (v := .agg #[.slice none 0 0, .slice none 0 0]) (by simp [results, Try.results51, go_sem, *]) rfl ⟨_, rfl, by rw [HZ.out]; exact ⟨_, _, rfl, World.ownsRow_nil _ _ _ _, World.ownsRow_nil _ _ _ _⟩, ?_⟩
    exact (hb5w.setCell (by simp; omega) _).setCell (by simp; omega) _
  · have HOK := Lib.hid hok
    go_wp2_with fail
    refine (sRungValid_any _ ⟨lg, co, ki⟩ m.bits.length _ ⟨_, rfl, OwnN.read hN5 (show lg.length ≤ 8796093022208 by omega) HFN.out, hf⟩).mono ?_
    rintro e w6 ⟨rfl, hb6⟩
    have m6 := (hb6.block _ (blk_lt m5)).trans m5
    have r6 := (hb6.block _ (blk_lt r5)).trans r5
    have q6 := (hb6.block _ (blk_lt q5)).trans q5
    have hO6 := hO5.keep_ hb6
    have hN6 : OwnN w6 (w.heap.size + 1 + 1 + 1) (.slice A3 lg.length c3) lg := own_below hN5 hb6
    have hb6w := hb5w.trans (hb6.mono hb5w.size)
    clear m5 r5 q5 hO5 hN5 hb5w hb6 c0 c1' z0 z1 d0 d1' d2' y0 y1 y2 e0 e1' x0 x1
    obtain ⟨c0, c1', z0, z1⟩ := blk2 m6
    obtain ⟨⟨d0, d1', d2'⟩, y0, y1, y2⟩ := blk3 r6
    obtain ⟨e0, e1', x0, x1⟩ := blk2 q6
    cases hv : rvalid ⟨lg, co, ki⟩ m.bits.length
    · have HZ := Lib.hid (show runRungM m ⟨lg, co, ki⟩ = ⟨[], []⟩ by unfold runRungM; simp [hv])
      go_wp2
      refine bodyPost_ret (v := .agg #[.slice none 0 0, .slice none 0 0]) (by simp [results, Try.results51, go_sem, *]) rfl ⟨_, rfl, by rw [HZ.out]; exact ⟨_, _, rfl, World.ownsRow_nil _ _ _ _, World.ownsRow_nil _ _ _ _⟩, ?_⟩
      exact (hb6w.setCell (by simp; omega) _).setCell (by simp; omega) _
    · have HZ := Lib.hid (show runRungM m ⟨lg, co, ki⟩ = ⟨runB m.bits ⟨lg, co, ki⟩, m.words⟩ by unfold runRungM; simp [hv, HOK.out])
      have HV := Lib.hid hv
      have hlen := imgOK_len HOK.out
      clear hok hv
      obtain ⟨v1, v2, ev, hB6, hI6⟩ := hO6
      simp only [Value.agg.injEq, Array.mk.injEq, List.cons.injEq, and_true] at ev
      obtain ⟨rfl, rfl⟩ := ev
      have hRd : ∀ w' : World, Below w6.heap.size w6 w' → RungR w' w'.heap.size (rgV (.slice A3 lg.length c3) ⟨lg, co, ki⟩) ⟨lg, co, ki⟩ := fun w' hb => ⟨_, rfl, OwnN.read (own_below hN6 hb : OwnN w' (w.heap.size + 1 + 1 + 1) _ lg) (show lg.length ≤ 8796093022208 by omega) HFN.out, hf⟩
      have hBd : ∀ w' : World, Below w6.heap.size w6 w' → BoolsR w' w'.heap.size (.slice U1 m.bits.length d1) m.bits := fun w' hb => OwnB.read (own_below hB6 hb : OwnB w' (w.heap.size + 1 + 1 + 1) _ m.bits) (by omega)
      have bD : Below w6.heap.size w6 w6.drew := (Below.refl _ _).drew
      have bE : Below w6.heap.size w6 (w6.alloc (.cells #[] 3)).drew := ((Below.refl _ _).alloc (Nat.le_refl _) _).drew
      have CA := Lib.hid (l3Rung_any _ _ m.bits ⟨lg, co, ki⟩ w6.drew (hBd _ bD) (hRd _ bD) HV.out hlen.1)
      have CB := Lib.hid (l3Rung_any _ _ m.bits ⟨lg, co, ki⟩ (w6.alloc (.cells #[] 3)).drew (hBd _ bE) (hRd _ bE) HV.out hlen.1)
      unfold rgV at CA CB
      simp only at CA CB
      have HI := Lib.hid (fun (W : World) (hb : Below w6.heap.size w6 W) => (own_below hI6 hb : OwnI W (w.heap.size + 1 + 1 + 1) (.slice U2 m.words.length d2) m.words))
      have l6 : w.heap.size + 1 + 1 < w6.heap.size := blk_lt q6
      have hl16 := hlen.1
      have n0 : w.heap.size + 1 + 1 ≠ w.heap.size := by omega
      have n1 : w.heap.size ≠ w.heap.size + 1 + 1 := by omega
      have hl8 := hlen.2
      clear hRd hBd hB6 hI6
      go_wp2_with fail
      go_region_held3 (fun w' => (w'.cell? ⟨w.heap.size, 0, none⟩ = some (.slice U1 m.bits.length d1) ∧ w'.cell? ⟨w.heap.size, 1, none⟩ = some (.slice U2 m.words.length d2)) ∧ w'.cell? ⟨w.heap.size + 1, 0, none⟩ = some (.slice A3 lg.length c3) ∧ w'.cell? ⟨w.heap.size + 1, 1, none⟩ = some (.int .i64 co) ∧ w'.cell? ⟨w.heap.size + 1, 2, none⟩ = some (.int .i64 ki)) (first | go_keep)
        (first
          | (have hp' := hp; refine step_append (n := 0) (xs := []) (A := U2) (m := m.words.length) (c := d2) (news := m.words.map (.int .i64)) (by rfl) _ _ 24 (by rfl) elI (by rfl) hp (by rfl) hrd (one_i _) ?_ ?_ ?_ ?_; omega; omega; (first | omega | (simp; omega)); intro u8 w8 hown8 hg8 hx8; have m8 := grown_blk' hg8 m7 (by first | omega | (simp; omega)); have r8 := grown_blk' hg8 r7 (by first | omega | (simp; omega)); have q8 := grown_blk' hg8 q7 (by first | omega | (simp; omega)); have F8 := hq.kept hg8 (own_ne hq hp (by decide)); have b8 := b7.grown hg8 b7.size (by intro k hk; simp [Value.ownBlock] at hk; omega); obtain ⟨A8, c8, rfl, -, -⟩ := own_form hown8; obtain ⟨x0, x1, -, -⟩ := blk2 m8; obtain ⟨⟨x2, x3, x4⟩, -, -, -⟩ := blk3 r8; obtain ⟨e0, e1', z0, z1⟩ := blk2 q8)
          | (go_at_call 104; (with_reducible refine CA.out.mono ?_); rintro e w7 ⟨v7, rfl, hO7, hb7⟩; obtain ⟨A7, c7, rfl, -, -⟩ := own_form hO7; have l7 : w6.heap.size ≤ w7.heap.size := hb7.size; have s7 := Below.alloc (hb7.mono (Nat.le_refl _)) hb7.size (.cells #[] 3); have b7 := bD.trans s7; have m7 := (s7.block _ (blk_lt m6)).trans m6; have r7 := (s7.block _ (blk_lt r6)).trans r6; have q7 := (s7.block _ (blk_lt q6)).trans q6; have hp := own_lit0 (W := w7) (base := w6.heap.size) (e := 3) (sz := 1) rfl hb7.size; have hq := hO7.alloc (.cells #[] 3); have m7' := (hb7.block _ (blk_lt m6)).trans m6; have r7' := (hb7.block _ (blk_lt r6)).trans r6; obtain ⟨g0, g1, -, -⟩ := blk2 m7'; obtain ⟨⟨g2, g3, g4⟩, -, -, -⟩ := blk3 r7'; have hrd := OwnI.rdR (HI.out _ b7) rfl; obtain ⟨k0, k1, -, -⟩ := blk2 m7; obtain ⟨⟨k2, k3, k4⟩, -, -, -⟩ := blk3 r7)
          | (go_at_call 104; (with_reducible refine CB.out.mono ?_); rintro e w7 ⟨v7, rfl, hO7, hb7⟩; obtain ⟨A7, c7, rfl, -, -⟩ := own_form hO7; have l7 : w6.heap.size + 1 ≤ w7.heap.size := (by have := hb7.size; simpa using this); have b7 := bE.trans (hb7.mono bE.size); have m7 := (b7.block _ (blk_lt m6)).trans m6; have r7 := (b7.block _ (blk_lt r6)).trans r6; have q7 := (b7.block _ (blk_lt q6)).trans q6; have hp := own_below (World.ownsRow.drew (own_lit0 (W := w6) (base := w6.heap.size) (e := 3) (sz := 1) rfl (Nat.le_refl _))) hb7; have hq := mono_own hO7 (show w6.heap.size ≤ _ from bE.size); have hrd := OwnI.rdR (HI.out _ b7) rfl; obtain ⟨k0, k1, -, -⟩ := blk2 m7; obtain ⟨⟨k2, k3, k4⟩, -, -, -⟩ := blk3 r7))
      all_goals
        go_wp2
        refine bodyPost_ret (v := .agg #[.slice A7 (runB m.bits ⟨lg, co, ki⟩).length c7, .slice A8 (0 + m.words.length) c8]) (by simp [results, Try.results51, go_sem, *]) rfl ⟨_, rfl, ?_, ?_⟩
        · rw [HZ.out]
          refine ⟨_, _, rfl, ?_, ?_⟩
          · exact mono_own (ownsRow_setCell_below (a := ⟨w.heap.size + 1 + 1, 1, none⟩) (ownsRow_setCell_below (a := ⟨w.heap.size + 1 + 1, 0, none⟩) F8 (by simp; omega) _) (by simp; omega) _) (by first | omega | (simp; omega))
          · exact mono_own (ownsRow_setCell_below (a := ⟨w.heap.size + 1 + 1, 1, none⟩) (ownsRow_setCell_below (a := ⟨w.heap.size + 1 + 1, 0, none⟩) (by simpa using hown8) (by simp; omega) _) (by simp; omega) _) (by first | omega | (simp; omega))
        · exact ((hb6w.trans (b8.mono hb6w.size)).setCell (by simp; omega) _).setCell (by simp; omega) _
end Go.Proofs.Ytoagnajljdbobaa

namespace Go.Proofs.Ytoagnajljdbobaa
open Go.RowKit
attribute [local go_sem ↓] Go.wp_at_zero Go.wp_at_succ

set_option maxRecDepth 100000 in
set_option maxHeartbeats 2000000 in
theorem sRunLadder_any (vm vl : Value) (m : Img) (ps : List (Value × Rg)) (w : World) (hm : ImgR w w.heap.size vm m) (h : LadR w w.heap.size vl ps) (hs : (m.bits.length ≤ 2000000 ∧ m.words.length ≤ 2000000) ∧ (ps.length ≤ 2000000 ∧ ∀ p ∈ ps, p.2.logic.length ≤ 2000000)) :
    Calls Try.prog 56 #[vm, vl] w (RgRunP (runLadM m (lads ps)) w) := by
  have HM := Lib.hid (fun (w' : World) (hb : Below w.heap.size w w') => hm.below hb)
  have HR := Lib.hid (fun (w' : World) (hb : Below w.heap.size w w') => h.below hb)
  have hx : ∀ x ∈ m.words, -9223372036854775808 ≤ x ∧ x ≤ 9223372036854775807 := by obtain ⟨_, _, _, _, _, _, _, _, _, hx⟩ := hm; exact hx
  have HX := Lib.hid hx
  obtain ⟨v1, v2, rfl, ⟨A1, c1, rfl, -, -⟩, ⟨A2, c2, rfl, -, -⟩⟩ := hm
  obtain ⟨Au, cu, rfl, -⟩ := h
  have HS2 := Lib.hid hs.2.2
  have hs1 := hs.1
  have hsl := hs.2.1
  clear hx hs
  go_enter Try.func56, Try.ntmps56
  go_wp2_with fail
  refine (l1OwnImage_any _ m _ (HM.out _ (((Below.refl _ _).alloc (Nat.le_refl _) _).alloc (by simp) _)) hs1).mono ?_
  rintro e w1 ⟨u1, rfl, hO1, hb1⟩
  obtain ⟨U1, d1, U2, d2, rfl, -, -⟩ := hO1.form
  have m0 := blk_alloc (heap_alloc_new w (.cells #[.slice A1 m.bits.length c1, .slice A2 m.words.length c2] 26)) (.cells #[.slice none 0 0, .slice none 0 0] 26)
  have q0 := heap_alloc_new (w.alloc (.cells #[.slice A1 m.bits.length c1, .slice A2 m.words.length c2] 26)) (.cells #[.slice none 0 0, .slice none 0 0] 26)
  simp only [World.size_alloc] at q0
  have l0 := blk_lt m0
  have l2 := blk_lt q0
  have m1 := (hb1.block _ l0).trans m0
  have q1 := (hb1.block _ l2).trans q0
  have hb1w := (((Below.refl _ _).alloc (Nat.le_refl _) _).alloc (by simp) _).trans (hb1.mono (by simp; omega))
  simp only [World.size_alloc] at hO1
  clear hb1 m0 q0 l0 l2
  obtain ⟨c0, c1', z0, z1⟩ := blk2 m1
  go_wp2_with fail
  have m2 := blk_set2 m1 (.slice U1 m.bits.length d1) (.slice U2 m.words.length d2)
  have q2 := blk_other (blk_other q1 (a := ⟨w.heap.size, 0, none⟩) (by simp) (.slice U1 m.bits.length d1)) (a := ⟨w.heap.size, 1, none⟩) (by simp) (.slice U2 m.words.length d2)
  have hO2 := (hO1.set_ (p := ⟨w.heap.size, 0, none⟩) (by simp; omega) (.slice U1 m.bits.length d1)).set_ (p := ⟨w.heap.size, 1, none⟩) (by simp; omega) (.slice U2 m.words.length d2)
  have hb2w := (hb1w.setCell (p := ⟨w.heap.size, 0, none⟩) (by simp) (.slice U1 m.bits.length d1)).setCell (p := ⟨w.heap.size, 1, none⟩) (by simp) (.slice U2 m.words.length d2)
  clear m1 q1 hb1w hO1 c0 c1' z0 z1
  refine (l1OwnRungList_any _ ps _ (HR.out _ hb2w) ⟨hsl, HS2.out⟩).mono ?_
  rintro e w3 ⟨u3, qs, rfl, hN3, hqs, hb3⟩
  have hql : qs.length ≤ 2000000 := by have := congrArg List.length hqs; simp [lads] at this; omega
  have HQS := Lib.hid hqs
  obtain ⟨A3, c3, rfl, -, -⟩ := own_form hN3.1
  have m4 := (hb3.block _ (blk_lt m2)).trans m2
  have q4 := (hb3.block _ (blk_lt q2)).trans q2
  have HN4 := Lib.hid (fun (W : World) (hb : Below w3.heap.size w3 W) => (hN3.below hb).read (by omega))
  have hO4 := hO2.keep_ hb3
  have hb4w := hb2w.trans (hb3.mono hb2w.size)
  clear hN3 hb3 m2 q2 hO2 hb2w hqs
  obtain ⟨c0, c1', z0, z1⟩ := blk2 m4
  obtain ⟨f0, f1', f2, f3⟩ := blk2 q4
  go_wp2_with fail
  refine (sImageValid_any _ m _ (OwnM.readF hO4 hs1 HX.out)).mono ?_
  rintro e w5 ⟨rfl, hb5⟩
  have m5 := (hb5.block _ (blk_lt m4)).trans m4
  have q5 := (hb5.block _ (blk_lt q4)).trans q4
  have hO5 := hO4.keep_ hb5
  have hb5w := hb4w.trans (hb5.mono hb4w.size)
  have HN5 := Lib.hid (fun (W : World) (hb : Below w5.heap.size w5 W) => HN4.out W (hb5.trans (hb.mono hb5.size)))
  clear m4 q4 hO4 hb4w hb5 c0 c1' z0 z1 f0 f1' f2 f3
  obtain ⟨c0, c1', z0, z1⟩ := blk2 m5
  obtain ⟨e0, e1', x0, x1⟩ := blk2 q5
  have lq5 := blk_lt q5
  cases hok : imgOK m
  · have HZ := Lib.hid (show runLadM m (lads ps) = ⟨[], []⟩ by rw [← HQS.out]; unfold runLadM; simp [hok])
    go_wp2
    refine bodyPost_ret (v := .agg #[.slice none 0 0, .slice none 0 0]) (by simp [results, Try.results56, go_sem, *]) rfl ⟨_, rfl, by rw [HZ.out]; exact ⟨_, _, rfl, World.ownsRow_nil _ _ _ _, World.ownsRow_nil _ _ _ _⟩, ?_⟩
    exact (hb5w.setCell (by simp) _).setCell (by simp) _
  · have HOK := Lib.hid hok
    go_wp2_with fail
    refine (sLadderValid_any _ qs m.bits.length _ (HN5.out _ (Below.refl _ _))).mono ?_
    rintro e w6 ⟨rfl, hb6⟩
    have m6 := (hb6.block _ (blk_lt m5)).trans m5
    have q6 := (hb6.block _ (blk_lt q5)).trans q5
    have hO6 := hO5.keep_ hb6
    have hb6w := hb5w.trans (hb6.mono hb5w.size)
    have HN6 := Lib.hid (fun (W : World) (hb : Below w6.heap.size w6 W) => HN5.out W (hb6.trans (hb.mono hb6.size)))
    clear m5 q5 hO5 hb5w hb6 c0 c1' z0 z1 e0 e1' x0 x1 lq5
    obtain ⟨c0, c1', z0, z1⟩ := blk2 m6
    obtain ⟨e0, e1', x0, x1⟩ := blk2 q6
    cases hv : ladvalid (lads qs) m.bits.length
    · have HZ := Lib.hid (show runLadM m (lads ps) = ⟨[], []⟩ by rw [← HQS.out]; unfold runLadM; simp [hv])
      have lq6 := blk_lt q6
      go_wp2
      refine bodyPost_ret (v := .agg #[.slice none 0 0, .slice none 0 0]) (by simp [results, Try.results56, go_sem, *]) rfl ⟨_, rfl, by rw [HZ.out]; exact ⟨_, _, rfl, World.ownsRow_nil _ _ _ _, World.ownsRow_nil _ _ _ _⟩, ?_⟩
      exact (hb6w.setCell (by simp) _).setCell (by simp) _
    · have HZ := Lib.hid (show runLadM m (lads ps) = ⟨runL m.bits (lads qs), m.words⟩ by rw [← HQS.out]; unfold runLadM; simp [hv, HOK.out])
      have hall : ∀ p ∈ qs, rvalid p.2 m.bits.length = true := by
        rw [ladvalid_eq] at hv; simp only [Bool.and_eq_true, List.all_eq_true] at hv; exact hv.1
      have hlen := imgOK_len HOK.out
      obtain ⟨v1, v2, ev, hB6, hI6⟩ := hO6
      simp only [Value.agg.injEq, Array.mk.injEq, List.cons.injEq, and_true] at ev
      obtain ⟨rfl, rfl⟩ := ev
      have hBd : ∀ w' : World, Below w6.heap.size w6 w' → BoolsR w' w'.heap.size (.slice U1 m.bits.length d1) m.bits := fun w' hb => OwnB.read (own_below hB6 hb : OwnB w' (w.heap.size + 1 + 1) _ m.bits) (by omega)
      have bD : Below w6.heap.size w6 w6.drew := (Below.refl _ _).drew
      have bE : Below w6.heap.size w6 (w6.alloc (.cells #[] 3)).drew := ((Below.refl _ _).alloc (Nat.le_refl _) _).drew
      have CA := Lib.hid (l3Run_any _ _ m.bits qs w6.drew (hBd _ bD) (HN6.out _ bD) hall hlen.1)
      have CB := Lib.hid (l3Run_any _ _ m.bits qs (w6.alloc (.cells #[] 3)).drew (hBd _ bE) (HN6.out _ bE) hall hlen.1)
      have HI := Lib.hid (fun (W : World) (hb : Below w6.heap.size w6 W) => (own_below hI6 hb : OwnI W (w.heap.size + 1 + 1) (.slice U2 m.words.length d2) m.words))
      have l6 : w.heap.size + 1 < w6.heap.size := blk_lt q6
      have hl16 := hlen.1
      have hl8 := hlen.2
      have n0 : w.heap.size + 1 ≠ w.heap.size := by omega
      have n1 : w.heap.size ≠ w.heap.size + 1 := by omega
      clear hBd hB6 hI6 hok hv hall
      go_wp2_with fail
      go_region_held3 (fun w' => w'.cell? ⟨w.heap.size, 0, none⟩ = some (.slice U1 m.bits.length d1) ∧ w'.cell? ⟨w.heap.size, 1, none⟩ = some (.slice U2 m.words.length d2)) (first | go_keep)
        (first
          | (have hp' := hp; refine step_append (n := 0) (xs := []) (A := U2) (m := m.words.length) (c := d2) (news := m.words.map (.int .i64)) (by rfl) _ _ 24 (by rfl) elI (by rfl) hp (by rfl) hrd (one_i _) ?_ ?_ ?_ ?_; omega; omega; (first | omega | (simp; omega)); intro u8 w8 hown8 hg8 hx8; have m8 := grown_blk' hg8 m7 (by first | omega | (simp; omega)); have q8 := grown_blk' hg8 q7 (by first | omega | (simp; omega)); have F8 := hq.kept hg8 (own_ne hq hp (by decide)); have b8 := b7.grown hg8 b7.size (by intro k hk; simp [Value.ownBlock] at hk; omega); obtain ⟨A8, c8, rfl, -, -⟩ := own_form hown8; obtain ⟨x0, x1, -, -⟩ := blk2 m8; obtain ⟨e0, e1', z0, z1⟩ := blk2 q8)
          | (go_at_call 112; (with_reducible refine CA.out.mono ?_); rintro e w7 ⟨v7, rfl, hO7, hb7⟩; obtain ⟨A7, c7, rfl, -, -⟩ := own_form hO7; have l7 : w6.heap.size ≤ w7.heap.size := hb7.size; have s7 := Below.alloc (hb7.mono (Nat.le_refl _)) hb7.size (.cells #[] 3); have b7 := bD.trans s7; have m7 := (s7.block _ (blk_lt m6)).trans m6; have q7 := (s7.block _ (blk_lt q6)).trans q6; have hp := own_lit0 (W := w7) (base := w6.heap.size) (e := 3) (sz := 1) rfl hb7.size; have hq := hO7.alloc (.cells #[] 3); have m7' := (hb7.block _ (blk_lt m6)).trans m6; have hrd := OwnI.rdR (HI.out _ b7) rfl; obtain ⟨g0, g1, -, -⟩ := blk2 m7'; obtain ⟨k0, k1, -, -⟩ := blk2 m7)
          | (go_at_call 112; (with_reducible refine CB.out.mono ?_); rintro e w7 ⟨v7, rfl, hO7, hb7⟩; obtain ⟨A7, c7, rfl, -, -⟩ := own_form hO7; have l7 : w6.heap.size + 1 ≤ w7.heap.size := (by have := hb7.size; simpa using this); have b7 := bE.trans (hb7.mono bE.size); have m7 := (b7.block _ (blk_lt m6)).trans m6; have q7 := (b7.block _ (blk_lt q6)).trans q6; have hp := own_below (World.ownsRow.drew (own_lit0 (W := w6) (base := w6.heap.size) (e := 3) (sz := 1) rfl (Nat.le_refl _))) hb7; have hq := mono_own hO7 (show w6.heap.size ≤ _ from bE.size); have hrd := OwnI.rdR (HI.out _ b7) rfl; obtain ⟨k0, k1, -, -⟩ := blk2 m7))
      all_goals
        go_wp2
        refine bodyPost_ret (v := .agg #[.slice A7 (runL m.bits (lads qs)).length c7, .slice A8 (0 + m.words.length) c8]) (by simp [results, Try.results56, go_sem, *]) rfl ⟨_, rfl, ?_, ?_⟩
        · rw [HZ.out]
          refine ⟨_, _, rfl, ?_, ?_⟩
          · exact mono_own (ownsRow_setCell_below (a := ⟨w.heap.size + 1, 1, none⟩) (ownsRow_setCell_below (a := ⟨w.heap.size + 1, 0, none⟩) F8 (by simp; omega) _) (by simp; omega) _) (by first | omega | (simp; omega))
          · exact mono_own (ownsRow_setCell_below (a := ⟨w.heap.size + 1, 1, none⟩) (ownsRow_setCell_below (a := ⟨w.heap.size + 1, 0, none⟩) (by simpa using hown8) (by simp; omega) _) (by simp; omega) _) (by first | omega | (simp; omega))
        · exact ((hb6w.trans (b8.mono hb6w.size)).setCell (by simp) _).setCell (by simp) _
end Go.Proofs.Ytoagnajljdbobaa
