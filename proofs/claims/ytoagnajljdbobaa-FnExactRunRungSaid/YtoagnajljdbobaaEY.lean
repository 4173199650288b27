/- The exact law of RunRung: its walk. -/
import Derived.Test.YtoagnajljdbobaaES
import Derived.Test.YtoagnajljdbobaaEV
import Derived.Deep.Cut
import Derived.Deep.CutRange
namespace Go.Proofs.Ytoagnajljdbobaa
open Go.RowKit
attribute [local go_sem ↓] Go.wp_at_zero Go.wp_at_succ

theorem FnExactRunRung_long (A1 : Option Addr) (n1 c1 : Nat) (A2 : Option Addr) (n2 c2 : Nat) (A : Option Addr) (n c : Nat) (x y : Int) (w : World) (hn1 : n1 ≤ 9223372036854775807) (hn2 : n2 ≤ 9223372036854775807) (hn : n ≤ 9223372036854775807) (_hx : fit64 x ∧ fit64 y) (hs : 1048576 < n1 + n2 + n) :
    Calls Try.prog 17 #[.agg #[.slice A1 n1 c1, .slice A2 n2 c2], .agg #[.slice A n c, .int .i64 x, .int .i64 y]] w (LawPost w) := by
  have r0 := heap_alloc_new (w.alloc (.cells #[.slice A1 n1 c1, .slice A2 n2 c2] 48)) (.cells #[.slice A n c, .int .i64 x, .int .i64 y] 78)
  simp only [World.size_alloc] at r0
  have B0 := ((Below.refl w.heap.size w).alloc (Nat.le_refl _) (.cells #[.slice A1 n1 c1, .slice A2 n2 c2] 48)).alloc (by simp) (.cells #[.slice A n c, .int .i64 x, .int .i64 y] 78)
  by_cases hs : 1048576 < n1 + n2
  · go_enter Try.func17, Try.ntmps17
    go_wp2_with fail
    refine (szImage_over _ _ _ _ _ _ 1048576 _ (by omega) hn1 hn2 (by omega)).mono ?_
    rintro e w1 ⟨rfl, hb⟩
    go_wp2
    go_ret
    exact ⟨rfl, B0.trans (hb.mono B0.size)⟩
  · have i1 : (n1 : Int) + (n2 : Int) ≤ 1048576 := by omega
    go_enter Try.func17, Try.ntmps17
    go_wp2_with fail
    refine (szImage_in _ _ _ _ _ _ 1048576 _ (by omega) (by omega)).mono ?_
    rintro e w1 ⟨rfl, hb⟩
    have B1 := B0.trans (hb.mono B0.size)
    have r1 := (hb.block _ (blk_lt r0)).trans r0
    obtain ⟨b0, b1, b2⟩ := blk3k r1
    clear hb B0 r0 r1
    go_wp2_with fail
    refine (szRung_over _ n _ _ _ (1048576 - (n1 : Int) - (n2 : Int)) _ hn (by omega)).mono ?_
    rintro e w2 ⟨rfl, hb⟩
    go_wp2
    go_ret
    exact ⟨rfl, B1.trans (hb.mono B1.size)⟩
set_option maxRecDepth 100000 in
set_option maxHeartbeats 8000000 in
theorem FnExactRunRung_core (A1 : Option Addr) (c1 : Nat) (A2 : Option Addr) (c2 : Nat) (m : Img) (A : Option Addr) (c : Nat) (x y : Int) (l : List Nd) (W : World) (h : ImgR W W.heap.size (.agg #[.slice A1 m.bits.length c1, .slice A2 m.words.length c2]) m) (hn : NodesR W W.heap.size (.slice A l.length c) l) (hx : fit64 x ∧ fit64 y) (hs : m.bits.length + m.words.length + l.length ≤ 1048576) :
    Calls Try.prog 17 #[.agg #[.slice A1 m.bits.length c1, .slice A2 m.words.length c2], .agg #[.slice A l.length c, .int .i64 x, .int .i64 y]] W (LawPost W) := by
  have hm := fine_of2 h (by omega)
  have HN := Lib.hid (fun (w' : World) (hb : Below W.heap.size W w') => hn.below hb)
  have HF := Lib.hid hn.fitL
  have HX := Lib.hid hx
  have hs' : (m.bits.length : Int) + (m.words.length : Int) + (l.length : Int) ≤ 1048576 := by omega
  have hl : l.length ≤ 1048576 := by omega
  obtain ⟨X, hX⟩ : ∃ X, X = runRungM m ⟨l, x, y⟩ := ⟨_, rfl⟩
  have hXf : fineM X := by rw [hX]; exact fine_run _ hm
  have HE := Lib.hid hX
  have HS := Lib.hid (show (m.bits.length ≤ 2000000 ∧ m.words.length ≤ 2000000) ∧ (Rg.mk l x y).logic.length ≤ 2000000 from ⟨⟨by have := hm.1; omega, by have := hm.2.1; omega⟩, by show l.length ≤ 2000000; omega⟩)
  have hA := (HA.new h).below ((Below.refl _ _).alloc (Nat.le_refl _) (.cells #[.slice A l.length c, .int .i64 x, .int .i64 y] 78))
  have hr : HC ((W.alloc (.cells #[.slice A1 m.bits.length c1, .slice A2 m.words.length c2] 48)).alloc (.cells #[.slice A l.length c, .int .i64 x, .int .i64 y] 78)) (W.heap.size + 1) 78 A l.length c x y := ⟨by have := heap_alloc_new (W.alloc (.cells #[.slice A1 m.bits.length c1, .slice A2 m.words.length c2] 48)) (.cells #[.slice A l.length c, .int .i64 x, .int .i64 y] 78); simpa using this⟩
  clear h hn hx hX hs
  go_enter Try.func17, Try.ntmps17
  obtain ⟨pA0, pA1⟩ := hA.cells
  have q2 := hA.lt
  have q3 := hr.lt
  go_wp2_with fail
  refine (szImage_in _ _ _ _ _ _ 1048576 _ (by omega) (by omega)).mono ?_
  rintro e w1 ⟨rfl, hb1⟩
  have zhb1 := hb1.size
  clear pA0 pA1
  have hA4 := hA.below hb1
  have hr5 := hr.below hb1
  clear hA hr
  obtain ⟨pr0, pr1, pr2⟩ := hr5.cells
  have q7 := hA4.lt
  have q8 := hr5.lt
  go_wp2_with fail
  refine (szRung_in _ l.length _ _ _ (1048576 - (m.bits.length : Int) - (m.words.length : Int)) _ (by omega)).mono ?_
  rintro e w6 ⟨rfl, hb6⟩
  have zhb6 := hb6.size
  clear pr0 pr1 pr2
  have hA9 := hA4.below hb6
  have hr10 := hr5.below hb6
  clear hA4 hr5
  have R0 : Below w6.heap.size w6 w6 := Below.refl _ _
  have Ca := Lib.hid (fun (V : World) (hb : Below w6.heap.size w6 V) => (hA9.below hb).cells)
  have Cb := Lib.hid (fun (V : World) (hb : Below w6.heap.size w6 V) => (hr10.below hb).cells)
  have Ci := Lib.hid (fun (V : World) (hb : Below w6.heap.size w6 V) => (hA9.below hb).img)
  have Cn := Lib.hid (fun (V : World) (hb : Below w6.heap.size w6 V) => HN.out V (hA9.below hb).bel)
  have lA := hA9.lt
  have lr := hr10.lt
  have Z0 := heap_alloc_new w6 (.cells #[.slice none 0 0, .slice none 0 0] 26)
  have y0 : Below w6.heap.size w6 (w6.alloc (.cells #[.slice none 0 0, .slice none 0 0] 26)) := R0.alloc (Nat.le_refl _) (.cells #[.slice none 0 0, .slice none 0 0] 26)
  obtain ⟨a0, a1⟩ := Ca.out _ R0
  obtain ⟨a2, a3, a4⟩ := Cb.out _ R0
  obtain ⟨b0, b1⟩ := Ca.out _ y0
  obtain ⟨b2, b3, b4⟩ := Cb.out _ y0
  obtain ⟨d0, d1⟩ := Ca.out _ y0.drew
  obtain ⟨d2, d3, d4⟩ := Cb.out _ y0.drew
  go_upto_region 8 with fail
  go_cut [6] from 24 to 28 (fun v6 wx => ∃ k lo hi YA ya YB yb, v6 = .pointer (some ⟨k, 0, none⟩) ∧ HM w6 wx k lo hi YA ya YB yb X)
  case first =>
    go_region_held3 (fun w' => (w'.cell? ⟨W.heap.size, 0, none⟩ = some (.slice A1 m.bits.length c1) ∧ w'.cell? ⟨W.heap.size, 1, none⟩ = some (.slice A2 m.words.length c2)) ∧ (w'.cell? ⟨W.heap.size + 1, 0, none⟩ = some (.slice A l.length c) ∧ w'.cell? ⟨W.heap.size + 1, 1, none⟩ = some (.int .i64 x) ∧ w'.cell? ⟨W.heap.size + 1, 2, none⟩ = some (.int .i64 y))) (first | exact ⟨⟨a0, a1⟩, a2, a3, a4⟩ | exact ⟨⟨b0, b1⟩, b2, b3, b4⟩ | exact ⟨⟨d0, d1⟩, d2, d3, d4⟩ | exact ⟨⟨s0, s1⟩, s2, s3, s4⟩ | exact ⟨⟨sz0, sz1⟩, sz2, sz3, sz4⟩ | exact ⟨⟨t0, t1⟩, t2, t3, t4⟩ | exact ⟨⟨tz0, tz1⟩, tz2, tz3, tz4⟩ | exact ⟨⟨u0, u1⟩, u2, u3, u4⟩ | exact ⟨⟨uz0, uz1⟩, uz2, uz3, uz4⟩ | exact ⟨Ca.out _ ((D11.setCell (by first | (simp; done) | (simp; omega)) _).setCell (by first | (simp; done) | (simp; omega)) _), Cb.out _ ((D11.setCell (by first | (simp; done) | (simp; omega)) _).setCell (by first | (simp; done) | (simp; omega)) _)⟩ | go_keep)
      (first
        | (go_at_call 51; have tell := O10; (with_reducible refine (sRunRung_any _ _ m ⟨l, x, y⟩ _ (I10.out _ (by first | exact Below.refl _ _ | exact (Below.refl _ _).alloc (Nat.le_refl _) _)) (G10.out _ (by first | exact Below.refl _ _ | exact (Below.refl _ _).alloc (Nat.le_refl _) _)) HS.out).mono ?_); rw [← HE.out]; rintro e w11 ⟨v0, rfl, hg0, hb11⟩; obtain ⟨YA, ya, YB, yb, rfl, -, -⟩ := hg0.form; have D11 := bstep (by first | exact D10 | exact D10z) hb11; (first | have hz := (hb11.block _ (blk_lt hz10)).trans hz10 | have hz := (hb11.block _ (blk_lt (heap_alloc_new w10 (.cells #[.slice none 0 0, .slice none 0 0] 26)))).trans (heap_alloc_new w10 (.cells #[.slice none 0 0, .slice none 0 0] 26)) | skip); (first | (have z0 := blk_cell hz 0; have z1 := blk_cell hz 1; have z2 := blk_frozen hz 0; have z3 := blk_frozen hz 1) | skip); have D11z := D11.alloc D11.size (.cells #[.slice none 0 0, .slice none 0 0] 26); obtain ⟨u0, u1⟩ := Ca.out _ D11; obtain ⟨u2, u3, u4⟩ := Cb.out _ D11; obtain ⟨uz0, uz1⟩ := Ca.out _ D11z; obtain ⟨uz2, uz3, uz4⟩ := Cb.out _ D11z)
        | (go_at_call 67; have tell := hO9; (with_reducible refine (toRung_any A c l x y _ (Cn.out _ (by first | exact D9 | exact D9z)) hl).mono ?_); rintro e w10 ⟨A10, c10, rfl, O10, hb10⟩; have D10 := bstep (by first | exact D9 | exact D9z) hb10; have q10 := D10.size; have I10 := Lib.hid (fun (V : World) (hb : Below w10.heap.size w10 V) => ((I9.out w10 (by first | exact hb10 | exact bstep ((Below.refl _ _).alloc (Nat.le_refl _) _) hb10)).below hb)); have G10 := Lib.hid (fun (V : World) (hb : Below w10.heap.size w10 V) => OwnN.rung (own_below O10 hb : OwnN V _ _ l) HF.out hl HX.out); (first | have hz10 := (hb10.block _ (blk_lt hz9)).trans hz9 | have hz10 := (hb10.block _ (blk_lt (heap_alloc_new w9 (.cells #[.slice none 0 0, .slice none 0 0] 26)))).trans (heap_alloc_new w9 (.cells #[.slice none 0 0, .slice none 0 0] 26)) | skip); have D10z := D10.alloc D10.size (.cells #[.slice none 0 0, .slice none 0 0] 26); obtain ⟨t0, t1⟩ := Ca.out _ D10; obtain ⟨t2, t3, t4⟩ := Cb.out _ D10; obtain ⟨tz0, tz1⟩ := Ca.out _ D10z; obtain ⟨tz2, tz3, tz4⟩ := Cb.out _ D10z)
        | (go_at_call 42; (with_reducible refine (toImage_any _ m _ (Ci.out _ R0.drew)).mono ?_); rintro e w9 ⟨u1, rfl, hO9, hb9⟩; obtain ⟨EA, Ea, EB, Eb, rfl, -, -⟩ := hO9.form; have D9 := bstep R0.drew hb9; have q9 := D9.size; have I9 := Lib.hid (fun (V : World) (hb : Below w9.heap.size w9 V) => ((hO9.img2 hm).below hb)); have D9z := D9.alloc D9.size (.cells #[.slice none 0 0, .slice none 0 0] 26); obtain ⟨s0, s1⟩ := Ca.out _ D9; obtain ⟨s2, s3, s4⟩ := Cb.out _ D9; obtain ⟨sz0, sz1⟩ := Ca.out _ D9z; obtain ⟨sz2, sz3, sz4⟩ := Cb.out _ D9z)
        | (go_at_call 42; (with_reducible refine (toImage_any _ m _ (Ci.out _ y0.drew)).mono ?_); rintro e w9 ⟨u1, rfl, hO9, hb9⟩; obtain ⟨EA, Ea, EB, Eb, rfl, -, -⟩ := hO9.form; have D9 := bstep y0.drew hb9; have q9 := D9.size; have I9 := Lib.hid (fun (V : World) (hb : Below w9.heap.size w9 V) => ((hO9.img2 hm).below hb)); have hz9 := (hb9.block _ (blk_lt Z0)).trans Z0; have D9z := D9.alloc D9.size (.cells #[.slice none 0 0, .slice none 0 0] 26); obtain ⟨s0, s1⟩ := Ca.out _ D9; obtain ⟨s2, s3, s4⟩ := Cb.out _ D9; obtain ⟨sz0, sz1⟩ := Ca.out _ D9z; obtain ⟨sz2, sz3, sz4⟩ := Cb.out _ D9z))
    all_goals
      go_wp2_with fail
      go_meet
      have q11 := D11.size
      have q9 := D9.size
      have q10 := D10.size
      first
        | exact ⟨_, _, _, _, _, _, _, rfl, hm_alloc D11 hg0 (by first | omega | (simp; omega))⟩
        | exact ⟨_, _, _, _, _, _, _, rfl, hm_store D11 hg0 hz (by omega) (by first | omega | (simp; omega))⟩
        | (trace_state; sorry)
  case rest =>
    obtain ⟨yk, ylo, yhi, yA, ya, yB, yb, rfl, hTy⟩ := hcut
    obtain ⟨w11, rfl⟩ : ∃ w11 : World, w11 = wc := ⟨_, rfl⟩
    have bc := hTy.bel
    have zcy := bc.size
    have ky := hTy.k1
    have loy := hTy.l1
    have hyc := hTy.hp
    have ley := hyc.lt
    clear a0 a1 a2 a3 a4 b0 b1 b2 b3 b4 d0 d1 d2 d3 d4 Z0 y0 R0 Ca Cb Ci Cn lA lr
    have hA12 := hA9.below bc
    have hr13 := hr10.below bc
    clear hA9 hr10
    clear hTy bc
    obtain ⟨pA0, pA1⟩ := hA12.cells
    have q15 := hA12.lt
    have q16 := hr13.lt
    have q17 := hyc.lt
    go_wp2_with fail
    refine (toImage_any _ m _ hA12.img).mono ?_
    rintro e w14 ⟨u2, rfl, hO2, hb14⟩
    have zhb14 := hb14.size
    clear pA0 pA1
    have hA18 := hA12.below hb14
    have hr19 := hr13.below hb14
    have hy20 := hyc.below hb14
    clear hA12 hr13 hyc
    obtain ⟨xA, xa, xB, xb, rfl, -, -⟩ := hO2.form
    have hx21 := HO.new hO2
    have hA22 := hA18.below ((Below.refl _ _).alloc (Nat.le_refl _) (.cells #[.slice xA (m).bits.length xa, .slice xB (m).words.length xb] 26))
    have hr23 := hr19.below ((Below.refl _ _).alloc (Nat.le_refl _) (.cells #[.slice xA (m).bits.length xa, .slice xB (m).words.length xb] 26))
    have hy24 := hy20.below ((Below.refl _ _).alloc (Nat.le_refl _) (.cells #[.slice xA (m).bits.length xa, .slice xB (m).words.length xb] 26))
    clear hA18 hr19 hy20
    have lx := hx21.lt
    have sx : w14.heap.size < (w14.alloc (.cells #[.slice xA (m).bits.length xa, .slice xB (m).words.length xb] 26)).heap.size := by simp
    clear hO2
    obtain ⟨pr0, pr1, pr2⟩ := hr23.cells
    have q26 := hA22.lt
    have q27 := hr23.lt
    have q28 := hy24.lt
    have q29 := hx21.lt
    go_wp2_with fail
    refine (xtr (toRung_any A c l x y _ (HN.out _ hA22.bel) hl)).mono ?_
    rintro e w25 ⟨⟨nA, nc, rfl, hn0⟩, hb25⟩
    have zhb25 := hb25.size
    clear pr0 pr1 pr2
    have hA30 := hA22.below hb25
    have hr31 := hr23.below hb25
    have hy32 := hy24.below hb25
    have hx33 := hx21.below hb25
    clear hA22 hr23 hy24 hx21
    have hq34 : HC (w25.alloc (.cells #[.slice nA l.length nc, .int .i64 x, .int .i64 y] 58)) w25.heap.size 58 nA l.length nc x y := ⟨heap_alloc_new _ _⟩
    have nlt := hn0.lt
    have nsz : w25.heap.size < (w25.alloc (.cells #[.slice nA l.length nc, .int .i64 x, .int .i64 y] 58)).heap.size := by simp
    have hA35 := hA30.below ((Below.refl _ _).alloc (Nat.le_refl _) (.cells #[.slice nA l.length nc, .int .i64 x, .int .i64 y] 58))
    have hr36 := hr31.below ((Below.refl _ _).alloc (Nat.le_refl _) (.cells #[.slice nA l.length nc, .int .i64 x, .int .i64 y] 58))
    have hy37 := hy32.below ((Below.refl _ _).alloc (Nat.le_refl _) (.cells #[.slice nA l.length nc, .int .i64 x, .int .i64 y] 58))
    have hx38 := hx33.below ((Below.refl _ _).alloc (Nat.le_refl _) (.cells #[.slice nA l.length nc, .int .i64 x, .int .i64 y] 58))
    have hn39 := hn0.below ((Below.refl _ _).alloc (Nat.le_refl _) (.cells #[.slice nA l.length nc, .int .i64 x, .int .i64 y] 58))
    clear hA30 hr31 hy32 hx33 hn0
    obtain ⟨px0, px1⟩ := hx38.cells
    obtain ⟨pq0, pq1, pq2⟩ := hq34.cells
    have q41 := hA35.lt
    have q42 := hr36.lt
    have q43 := hy37.lt
    have q44 := hx38.lt
    have q45 := hn39.lt
    have q46 := hq34.lt
    go_wp2_with fail
    refine (iRunRung_any _ _ m ⟨l, x, y⟩ _ (hx38.own.read hm) (OwnN.rung hn39.own.1 HF.out hl HX.out)).mono ?_
    rw [← HE.out]
    rintro e w40 ⟨v1, rfl, hg1, hb40⟩
    have zhb40 := hb40.size
    clear px0 px1 pq0 pq1 pq2
    have hA47 := hA35.below hb40
    have hr48 := hr36.below hb40
    have hy49 := hy37.below hb40
    have hx50 := hx38.below hb40
    have hn51 := hn39.below hb40
    have hq52 := hq34.below hb40
    clear hA35 hr36 hy37 hx38 hn39 hq34
    obtain ⟨gA, ga, gB, gb, rfl, -, -⟩ := hg1.form
    have hg53 := HO.new hg1
    have hA54 := hA47.below ((Below.refl _ _).alloc (Nat.le_refl _) (.cells #[.slice gA (X).bits.length ga, .slice gB (X).words.length gb] 26))
    have hr55 := hr48.below ((Below.refl _ _).alloc (Nat.le_refl _) (.cells #[.slice gA (X).bits.length ga, .slice gB (X).words.length gb] 26))
    have hy56 := hy49.below ((Below.refl _ _).alloc (Nat.le_refl _) (.cells #[.slice gA (X).bits.length ga, .slice gB (X).words.length gb] 26))
    have hx57 := hx50.below ((Below.refl _ _).alloc (Nat.le_refl _) (.cells #[.slice gA (X).bits.length ga, .slice gB (X).words.length gb] 26))
    have hn58 := hn51.below ((Below.refl _ _).alloc (Nat.le_refl _) (.cells #[.slice gA (X).bits.length ga, .slice gB (X).words.length gb] 26))
    have hq59 := hq52.below ((Below.refl _ _).alloc (Nat.le_refl _) (.cells #[.slice gA (X).bits.length ga, .slice gB (X).words.length gb] 26))
    clear hA47 hr48 hy49 hx50 hn51 hq52
    have lg := hg53.lt
    have sg : w40.heap.size < (w40.alloc (.cells #[.slice gA (X).bits.length ga, .slice gB (X).words.length gb] 26)).heap.size := by simp
    clear hg1
    obtain ⟨pg0, pg1⟩ := hg53.cells
    obtain ⟨py0, py1⟩ := hy56.cells
    have q61 := hA54.lt
    have q62 := hr55.lt
    have q63 := hy56.lt
    have q64 := hx57.lt
    have q65 := hn58.lt
    have q66 := hq59.lt
    have q67 := hg53.lt
    go_wp2_with fail
    refine (eqImage_same _ _ X _ (hg53.own.read hXf) (hy56.own.read hXf)).mono ?_
    rintro e w60 ⟨rfl, hb60⟩
    have zhb60 := hb60.size
    clear pg0 pg1 py0 py1
    have hA68 := hA54.below hb60
    have hr69 := hr55.below hb60
    have hy70 := hy56.below hb60
    have hx71 := hx57.below hb60
    have hn72 := hn58.below hb60
    have hq73 := hq59.below hb60
    have hg74 := hg53.below hb60
    clear hA54 hr55 hy56 hx57 hn58 hq59 hg53
    have R0 : Below w60.heap.size w60 w60 := Below.refl _ _
    have D0 := R0.drew
    have Ca := Lib.hid (fun (V : World) (hb : Below w60.heap.size w60 V) => (hA68.below hb).cells)
    have Cb := Lib.hid (fun (V : World) (hb : Below w60.heap.size w60 V) => (hr69.below hb).cells)
    have Cx := Lib.hid (fun (V : World) (hb : Below w60.heap.size w60 V) => (hx71.below hb).cells)
    obtain ⟨a0, a1⟩ := Ca.out _ R0
    obtain ⟨a2, a3⟩ := Cx.out _ R0
    go_wp2_with fail
    have Ci := Lib.hid ((hA68.below D0).img)
    have Cy := Lib.hid (fun (V : World) (hb : Below w60.heap.size w60 V) => ((hx71.below hb).own.read hm))
    go_region_held3 (fun w' => (w'.cell? ⟨W.heap.size, 0, none⟩ = some (.slice A1 m.bits.length c1) ∧ w'.cell? ⟨W.heap.size, 1, none⟩ = some (.slice A2 m.words.length c2)) ∧ w'.cell? ⟨w14.heap.size, 0, none⟩ = some (.slice xA m.bits.length xa) ∧ w'.cell? ⟨w14.heap.size, 1, none⟩ = some (.slice xB m.words.length xb)) (first | exact ⟨⟨a0, a1⟩, a2, a3⟩ | go_keep)
      (first
        | (go_at_call 43; have tell := hOE; (with_reducible refine (eqImage_same _ _ m _ (Cy.out _ DE) (hOE.img2 hm)).mono ?_); rintro e wF ⟨rfl, hbF⟩; have DF := bstep DE hbF; obtain ⟨t0, t1⟩ := Ca.out _ DF; obtain ⟨t2, t3⟩ := Cx.out _ DF)
        | (go_at_call 42; (with_reducible refine (toImage_any _ m _ Ci.out).mono ?_); rintro e wE ⟨uE, rfl, hOE, hbE⟩; obtain ⟨EA, Ea, EB, Eb, rfl, -, -⟩ := hOE.form; have DE := bstep D0 hbE; obtain ⟨s0, s1⟩ := Ca.out _ DE; obtain ⟨s2, s3⟩ := Cx.out _ DE))
    obtain ⟨w75, rfl⟩ : ∃ w75 : World, w75 = wF := ⟨_, rfl⟩
    have zF75 := DF.size
    have hA76 := hA68.below DF
    have hr77 := hr69.below DF
    have hy78 := hy70.below DF
    have hx79 := hx71.below DF
    have hn80 := hn72.below DF
    have hq81 := hq73.below DF
    have hg82 := hg74.below DF
    clear hA68 hr69 hy70 hx71 hn72 hq73 hg74
    clear a0 a1 a2 a3 s0 s1 s2 s3 t0 t1 t2 t3 Ca Cb Cx Ci Cy R0 D0 DE DF hOE hbE hbF
    have R0 : Below w75.heap.size w75 w75 := Below.refl _ _
    have D0 := R0.drew
    have Ca := Lib.hid (fun (V : World) (hb : Below w75.heap.size w75 V) => (hA76.below hb).cells)
    have Cb := Lib.hid (fun (V : World) (hb : Below w75.heap.size w75 V) => (hr77.below hb).cells)
    have Cx := Lib.hid (fun (V : World) (hb : Below w75.heap.size w75 V) => (hq81.below hb).cells)
    obtain ⟨a0, a1, a2⟩ := Cb.out _ R0
    obtain ⟨a3, a4, a5⟩ := Cx.out _ R0
    go_wp2_with fail
    have Ci := Lib.hid (HN.out _ (hA76.below D0).bel)
    have Cy := Lib.hid (fun (V : World) (hb : Below w75.heap.size w75 V) => OwnN.rung ((hn80.below hb).own.1) HF.out hl HX.out)
    go_region_held3 (fun w' => (w'.cell? ⟨W.heap.size + 1, 0, none⟩ = some (.slice A l.length c) ∧ w'.cell? ⟨W.heap.size + 1, 1, none⟩ = some (.int .i64 x) ∧ w'.cell? ⟨W.heap.size + 1, 2, none⟩ = some (.int .i64 y)) ∧ w'.cell? ⟨w25.heap.size, 0, none⟩ = some (.slice nA l.length nc) ∧ w'.cell? ⟨w25.heap.size, 1, none⟩ = some (.int .i64 x) ∧ w'.cell? ⟨w25.heap.size, 2, none⟩ = some (.int .i64 y)) (first | exact ⟨⟨a0, a1, a2⟩, a3, a4, a5⟩ | go_keep)
      (first
        | (go_at_call 68; have tell := hOE; (with_reducible refine (eqRung_same _ _ ⟨l, x, y⟩ _ (Cy.out _ DE) (OwnN.rung hOE HF.out hl HX.out)).mono ?_); rintro e wF ⟨rfl, hbF⟩; have DF := bstep DE hbF; obtain ⟨t0, t1, t2⟩ := Cb.out _ DF; obtain ⟨t3, t4, t5⟩ := Cx.out _ DF)
        | (go_at_call 67; (with_reducible refine (toRung_any A c l x y _ Ci.out hl).mono ?_); rintro e wE ⟨EA, Ea, rfl, hOE, hbE⟩; have DE := bstep D0 hbE; obtain ⟨s0, s1, s2⟩ := Cb.out _ DE; obtain ⟨s3, s4, s5⟩ := Cx.out _ DE))
    obtain ⟨w83, rfl⟩ : ∃ w83 : World, w83 = wF := ⟨_, rfl⟩
    have zF83 := DF.size
    have hA84 := hA76.below DF
    have hr85 := hr77.below DF
    have hy86 := hy78.below DF
    have hx87 := hx79.below DF
    have hn88 := hn80.below DF
    have hq89 := hq81.below DF
    have hg90 := hg82.below DF
    clear hA76 hr77 hy78 hx79 hn80 hq81 hg82
    clear a0 a1 a2 a3 a4 a5 s0 s1 s2 s3 s4 s5 t0 t1 t2 t3 t4 t5 Ca Cb Cx Ci Cy R0 D0 DE DF hOE hbE hbF
    obtain ⟨px0, px1⟩ := hx87.cells
    go_wp2_with fail
    refine (markImage_any _ (m) 1 _ _ _ hx87.own hm (by omega) (by have := hx87.le; have := hx87.lt; omega)).mono ?_
    rintro e w91 ⟨rfl, hm91, ho91⟩
    clear px0 px1
    have hA92 := hA84.out ho91 (by omega) (by omega)
    have hr93 := hr85.out ho91 (by omega)
    have hy94 := hy86.out ho91 (by omega)
    have hx95 := hx87.marked ho91 hm91
    have hn96 := hn88.out ho91 (by omega)
    have hq97 := hq89.out ho91 (by omega)
    have hg98 := hg90.out ho91 (by omega)
    clear hA84 hr85 hy86 hx87 hn88 hq89 hg90
    clear ho91 hm91
    obtain ⟨pq0, pq1, pq2⟩ := hq97.cells
    go_wp2_with fail
    refine (markRung_any _ _ l x y (1 + m.bits.length + m.words.length) _ _ _ hn96.own (by omega) (by omega) hn96.le).mono ?_
    rintro e w99 ⟨rfl, ho99⟩
    clear pq0 pq1 pq2
    have hA100 := hA92.out ho99 (by omega) (by omega)
    have hr101 := hr93.out ho99 (by omega)
    have hy102 := hy94.out ho99 (by omega)
    have hx103 := hx95.out ho99 (by omega)
    have hq104 := hq97.out ho99 (by omega)
    have hg105 := hg98.out ho99 (by omega)
    clear hn96 hA92 hr93 hy94 hx95 hq97 hg98
    clear ho99
    obtain ⟨pg0, pg1⟩ := hg105.cells
    obtain ⟨py0, py1⟩ := hy102.cells
    have q107 := hA100.lt
    have q108 := hr101.lt
    have q109 := hy102.lt
    have q110 := hx103.lt
    have q111 := hq104.lt
    have q112 := hg105.lt
    go_wp2_with fail
    refine (eqImage_same _ _ X _ (hg105.own.read hXf) (hy102.own.read hXf)).mono ?_
    rintro e w106 ⟨rfl, hb106⟩
    have zhb106 := hb106.size
    clear pg0 pg1 py0 py1
    have hA113 := hA100.below hb106
    have hr114 := hr101.below hb106
    have hy115 := hy102.below hb106
    have hx116 := hx103.below hb106
    have hq117 := hq104.below hb106
    have hg118 := hg105.below hb106
    clear hA100 hr101 hy102 hx103 hq104 hg105
    obtain ⟨pg0, pg1⟩ := hg118.cells
    go_wp2_with fail
    refine (markImage_any _ (X) 1 _ _ _ hg118.own hXf (by omega) (by have := hg118.le; have := hg118.lt; omega)).mono ?_
    rintro e w119 ⟨rfl, hm119, ho119⟩
    clear pg0 pg1
    have hA120 := hA113.out ho119 (by omega) (by omega)
    have hr121 := hr114.out ho119 (by omega)
    have hy122 := hy115.out ho119 (by omega)
    have hx123 := hx116.out ho119 (by omega)
    have hq124 := hq117.out ho119 (by omega)
    have hg125 := hg118.marked ho119 hm119
    clear hA113 hr114 hy115 hx116 hq117 hg118
    clear ho119 hm119
    obtain ⟨pg0, pg1⟩ := hg125.cells
    have q127 := hA120.lt
    have q128 := hr121.lt
    have q129 := hy122.lt
    have q130 := hx123.lt
    have q131 := hq124.lt
    have q132 := hg125.lt
    go_wp2_with fail
    refine (heldImage_any _ (X) 1 _ (hg125.own.read (fine_mark hXf 1 (by omega))) hXf (by omega)).mono ?_
    rintro e w126 ⟨rfl, hb126⟩
    have zhb126 := hb126.size
    clear pg0 pg1
    have hA133 := hA120.below hb126
    have hr134 := hr121.below hb126
    have hy135 := hy122.below hb126
    have hx136 := hx123.below hb126
    have hq137 := hq124.below hb126
    have hg138 := hg125.below hb126
    clear hA120 hr121 hy122 hx123 hq124 hg125
    have R0 : Below w126.heap.size w126 w126 := Below.refl _ _
    have Ca := Lib.hid (fun (V : World) (hb : Below w126.heap.size w126 V) => (hA133.below hb).cells)
    have Cb := Lib.hid (fun (V : World) (hb : Below w126.heap.size w126 V) => (hr134.below hb).cells)
    have Ci := Lib.hid (fun (V : World) (hb : Below w126.heap.size w126 V) => (hA133.below hb).img)
    have Cn := Lib.hid (fun (V : World) (hb : Below w126.heap.size w126 V) => HN.out V (hA133.below hb).bel)
    have lA := hA133.lt
    have lr := hr134.lt
    have Z0 := heap_alloc_new w126 (.cells #[.slice none 0 0, .slice none 0 0] 26)
    have y0 : Below w126.heap.size w126 (w126.alloc (.cells #[.slice none 0 0, .slice none 0 0] 26)) := R0.alloc (Nat.le_refl _) (.cells #[.slice none 0 0, .slice none 0 0] 26)
    obtain ⟨a0, a1⟩ := Ca.out _ R0
    obtain ⟨a2, a3, a4⟩ := Cb.out _ R0
    obtain ⟨b0, b1⟩ := Ca.out _ y0
    obtain ⟨b2, b3, b4⟩ := Cb.out _ y0
    obtain ⟨d0, d1⟩ := Ca.out _ y0.drew
    obtain ⟨d2, d3, d4⟩ := Cb.out _ y0.drew
    go_upto_region 31 with fail
    go_cut [13] from 75 to 79 (fun v6 wx => ∃ k lo hi YA ya YB yb, v6 = .pointer (some ⟨k, 0, none⟩) ∧ HM w126 wx k lo hi YA ya YB yb X)
    case first =>
      go_region_held3 (fun w' => (w'.cell? ⟨W.heap.size, 0, none⟩ = some (.slice A1 m.bits.length c1) ∧ w'.cell? ⟨W.heap.size, 1, none⟩ = some (.slice A2 m.words.length c2)) ∧ (w'.cell? ⟨W.heap.size + 1, 0, none⟩ = some (.slice A l.length c) ∧ w'.cell? ⟨W.heap.size + 1, 1, none⟩ = some (.int .i64 x) ∧ w'.cell? ⟨W.heap.size + 1, 2, none⟩ = some (.int .i64 y))) (first | exact ⟨⟨a0, a1⟩, a2, a3, a4⟩ | exact ⟨⟨b0, b1⟩, b2, b3, b4⟩ | exact ⟨⟨d0, d1⟩, d2, d3, d4⟩ | exact ⟨⟨s0, s1⟩, s2, s3, s4⟩ | exact ⟨⟨sz0, sz1⟩, sz2, sz3, sz4⟩ | exact ⟨⟨t0, t1⟩, t2, t3, t4⟩ | exact ⟨⟨tz0, tz1⟩, tz2, tz3, tz4⟩ | exact ⟨⟨u0, u1⟩, u2, u3, u4⟩ | exact ⟨⟨uz0, uz1⟩, uz2, uz3, uz4⟩ | exact ⟨Ca.out _ ((D11.setCell (by first | (simp; done) | (simp; omega)) _).setCell (by first | (simp; done) | (simp; omega)) _), Cb.out _ ((D11.setCell (by first | (simp; done) | (simp; omega)) _).setCell (by first | (simp; done) | (simp; omega)) _)⟩ | go_keep)
        (first
          | (go_at_call 50; have tell := O10; (with_reducible refine (iRunRung_any _ _ m ⟨l, x, y⟩ _ (I10.out _ (by first | exact Below.refl _ _ | exact (Below.refl _ _).alloc (Nat.le_refl _) _)) (G10.out _ (by first | exact Below.refl _ _ | exact (Below.refl _ _).alloc (Nat.le_refl _) _))).mono ?_); rw [← HE.out]; rintro e w11 ⟨v0, rfl, hg0, hb11⟩; obtain ⟨YA, ya, YB, yb, rfl, -, -⟩ := hg0.form; have D11 := bstep (by first | exact D10 | exact D10z) hb11; (first | have hz := (hb11.block _ (blk_lt hz10)).trans hz10 | have hz := (hb11.block _ (blk_lt (heap_alloc_new w10 (.cells #[.slice none 0 0, .slice none 0 0] 26)))).trans (heap_alloc_new w10 (.cells #[.slice none 0 0, .slice none 0 0] 26)) | skip); (first | (have z0 := blk_cell hz 0; have z1 := blk_cell hz 1; have z2 := blk_frozen hz 0; have z3 := blk_frozen hz 1) | skip); have D11z := D11.alloc D11.size (.cells #[.slice none 0 0, .slice none 0 0] 26); obtain ⟨u0, u1⟩ := Ca.out _ D11; obtain ⟨u2, u3, u4⟩ := Cb.out _ D11; obtain ⟨uz0, uz1⟩ := Ca.out _ D11z; obtain ⟨uz2, uz3, uz4⟩ := Cb.out _ D11z)
          | (go_at_call 67; have tell := hO9; (with_reducible refine (toRung_any A c l x y _ (Cn.out _ (by first | exact D9 | exact D9z)) hl).mono ?_); rintro e w10 ⟨A10, c10, rfl, O10, hb10⟩; have D10 := bstep (by first | exact D9 | exact D9z) hb10; have q10 := D10.size; have I10 := Lib.hid (fun (V : World) (hb : Below w10.heap.size w10 V) => ((I9.out w10 (by first | exact hb10 | exact bstep ((Below.refl _ _).alloc (Nat.le_refl _) _) hb10)).below hb)); have G10 := Lib.hid (fun (V : World) (hb : Below w10.heap.size w10 V) => OwnN.rung (own_below O10 hb : OwnN V _ _ l) HF.out hl HX.out); (first | have hz10 := (hb10.block _ (blk_lt hz9)).trans hz9 | have hz10 := (hb10.block _ (blk_lt (heap_alloc_new w9 (.cells #[.slice none 0 0, .slice none 0 0] 26)))).trans (heap_alloc_new w9 (.cells #[.slice none 0 0, .slice none 0 0] 26)) | skip); have D10z := D10.alloc D10.size (.cells #[.slice none 0 0, .slice none 0 0] 26); obtain ⟨t0, t1⟩ := Ca.out _ D10; obtain ⟨t2, t3, t4⟩ := Cb.out _ D10; obtain ⟨tz0, tz1⟩ := Ca.out _ D10z; obtain ⟨tz2, tz3, tz4⟩ := Cb.out _ D10z)
          | (go_at_call 42; (with_reducible refine (toImage_any _ m _ (Ci.out _ R0.drew)).mono ?_); rintro e w9 ⟨u1, rfl, hO9, hb9⟩; obtain ⟨EA, Ea, EB, Eb, rfl, -, -⟩ := hO9.form; have D9 := bstep R0.drew hb9; have q9 := D9.size; have I9 := Lib.hid (fun (V : World) (hb : Below w9.heap.size w9 V) => ((hO9.img2 hm).below hb)); have D9z := D9.alloc D9.size (.cells #[.slice none 0 0, .slice none 0 0] 26); obtain ⟨s0, s1⟩ := Ca.out _ D9; obtain ⟨s2, s3, s4⟩ := Cb.out _ D9; obtain ⟨sz0, sz1⟩ := Ca.out _ D9z; obtain ⟨sz2, sz3, sz4⟩ := Cb.out _ D9z)
          | (go_at_call 42; (with_reducible refine (toImage_any _ m _ (Ci.out _ y0.drew)).mono ?_); rintro e w9 ⟨u1, rfl, hO9, hb9⟩; obtain ⟨EA, Ea, EB, Eb, rfl, -, -⟩ := hO9.form; have D9 := bstep y0.drew hb9; have q9 := D9.size; have I9 := Lib.hid (fun (V : World) (hb : Below w9.heap.size w9 V) => ((hO9.img2 hm).below hb)); have hz9 := (hb9.block _ (blk_lt Z0)).trans Z0; have D9z := D9.alloc D9.size (.cells #[.slice none 0 0, .slice none 0 0] 26); obtain ⟨s0, s1⟩ := Ca.out _ D9; obtain ⟨s2, s3, s4⟩ := Cb.out _ D9; obtain ⟨sz0, sz1⟩ := Ca.out _ D9z; obtain ⟨sz2, sz3, sz4⟩ := Cb.out _ D9z))
      all_goals
        go_wp2_with fail
        go_meet
        have q11 := D11.size
        have q9 := D9.size
        have q10 := D10.size
        first
          | exact ⟨_, _, _, _, _, _, _, rfl, hm_alloc D11 hg0 (by first | omega | (simp; omega))⟩
          | exact ⟨_, _, _, _, _, _, _, rfl, hm_store D11 hg0 hz (by omega) (by first | omega | (simp; omega))⟩
          | (trace_state; sorry)
    case rest =>
      obtain ⟨zk, zlo, zhi, zA, za, zB, zb, rfl, hTz⟩ := hcut
      obtain ⟨w139, rfl⟩ : ∃ w139 : World, w139 = wc := ⟨_, rfl⟩
      have bc := hTz.bel
      have zcz := bc.size
      have kz := hTz.k1
      have loz := hTz.l1
      have hzc := hTz.hp
      have lez := hzc.lt
      clear a0 a1 a2 a3 a4 b0 b1 b2 b3 b4 d0 d1 d2 d3 d4 Z0 y0 R0 Ca Cb Ci Cn lA lr
      have hA140 := hA133.below bc
      have hr141 := hr134.below bc
      have hy142 := hy135.below bc
      have hx143 := hx136.below bc
      have hq144 := hq137.below bc
      have hg145 := hg138.below bc
      clear hA133 hr134 hy135 hx136 hq137 hg138
      clear hTz bc
      obtain ⟨pz0, pz1⟩ := hzc.cells
      obtain ⟨py0, py1⟩ := hy142.cells
      have q147 := hA140.lt
      have q148 := hr141.lt
      have q149 := hy142.lt
      have q150 := hx143.lt
      have q151 := hq144.lt
      have q152 := hg145.lt
      have q153 := hzc.lt
      go_wp2_with fail
      refine (eqImage_same _ _ X _ (hzc.own.read hXf) (hy142.own.read hXf)).mono ?_
      rintro e w146 ⟨rfl, hb146⟩
      have zhb146 := hb146.size
      clear pz0 pz1 py0 py1
      have hA154 := hA140.below hb146
      have hr155 := hr141.below hb146
      have hy156 := hy142.below hb146
      have hx157 := hx143.below hb146
      have hq158 := hq144.below hb146
      have hg159 := hg145.below hb146
      have hz160 := hzc.below hb146
      clear hA140 hr141 hy142 hx143 hq144 hg145 hzc
      obtain ⟨pg0, pg1⟩ := hg159.cells
      have q162 := hA154.lt
      have q163 := hr155.lt
      have q164 := hy156.lt
      have q165 := hx157.lt
      have q166 := hq158.lt
      have q167 := hg159.lt
      have q168 := hz160.lt
      go_wp2_with fail
      refine (heldImage_any _ (X) 1 _ (hg159.own.read (fine_mark hXf 1 (by omega))) hXf (by omega)).mono ?_
      rintro e w161 ⟨rfl, hb161⟩
      have zhb161 := hb161.size
      clear pg0 pg1
      have hA169 := hA154.below hb161
      have hr170 := hr155.below hb161
      have hy171 := hy156.below hb161
      have hx172 := hx157.below hb161
      have hq173 := hq158.below hb161
      have hg174 := hg159.below hb161
      have hz175 := hz160.below hb161
      clear hA154 hr155 hy156 hx157 hq158 hg159 hz160
      go_wp2
      go_ret
      exact ⟨rfl, hA169.bel⟩
end Go.Proofs.Ytoagnajljdbobaa
