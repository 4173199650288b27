/- The exact law of RunLadder: its walk. -/
import Derived.Test.YtoagnajljdbobaaEZ
import Derived.Test.YtoagnajljdbobaaEV
namespace Go.Proofs.Ytoagnajljdbobaa
open Go.RowKit
attribute [local go_sem ↓] Go.wp_at_zero Go.wp_at_succ

theorem sRunLadder_of (vm v : Value) (m X : Img) (xs ps : List (Value × Rg)) (w : World) (hm : ImgR w w.heap.size vm m) (h : LadR w w.heap.size v xs) (e : lads xs = lads ps) (hX : X = runLadM m (lads ps)) (hs : (m.bits.length ≤ 2000000 ∧ m.words.length ≤ 2000000) ∧ (xs.length ≤ 2000000 ∧ ∀ p ∈ xs, p.2.logic.length ≤ 2000000)) :
    Calls Try.prog 56 #[vm, v] w (RgRunP X w) := by
  subst hX; rw [← e]; exact sRunLadder_any vm v m xs w hm h hs
theorem iRunLadder_of (vm v : Value) (m X : Img) (xs ps : List (Value × Rg)) (w : World) (hm : ImgR w w.heap.size vm m) (h : LadR w w.heap.size v xs) (e : lads xs = lads ps) (hX : X = runLadM m (lads ps)) :
    Calls Try.prog 55 #[vm, v] w (RgRunP X w) := by
  subst hX; rw [← e]; exact iRunLadder_any vm v m xs w hm h
theorem LadW.below {w w' : World} {v : Value} {qs : List Rw} (h : LadW w w.heap.size v qs) (hb : Below w.heap.size w w') : LadW w' w'.heap.size v qs := by
  obtain ⟨A, c, rfl, h1, h2, h3⟩ := h
  refine ⟨A, c, rfl, h1.keep (fun _ hp => hb.cell hp) hb.size, h2, fun q hq => ?_⟩
  obtain ⟨g1, g2, g3⟩ := h3 q hq
  exact ⟨g1, g2, fun hn => by obtain ⟨l, e, hl⟩ := g3 hn; exact ⟨l, e, hl.below hb⟩⟩
theorem XL.small {w : World} {lo hi : Nat} {v : Value} {qs : List (Value × Rg)} (h : XL w lo hi v qs) : qs.length ≤ 2000000 ∧ ∀ p ∈ qs, p.2.logic.length ≤ 2000000 := ⟨Nat.le_trans h.sz.1 (by omega), fun p hp => Nat.le_trans (h.sz.2 p hp) (by omega)⟩
set_option maxRecDepth 100000 in
set_option maxHeartbeats 8000000 in
theorem FnExactRunLadder_any (A1 : Option Addr) (n1 c1 : Nat) (A2 : Option Addr) (n2 c2 : Nat) (A : Option Addr) (n c : Nat) (W : World) (hn1 : n1 ≤ 9223372036854775807) (hn2 : n2 ≤ 9223372036854775807) (hn : n ≤ 9223372036854775807)
    (fm : n1 + n2 ≤ 1048576 → ∃ m : Img, m.bits.length = n1 ∧ m.words.length = n2 ∧ ImgR W W.heap.size (.agg #[.slice A1 n1 c1, .slice A2 n2 c2]) m) (f : n ≤ 1048576 → ∃ qs : List Rw, qs.length = n ∧ LadW W W.heap.size (.slice A n c) qs) :
    Calls Try.prog 18 #[.agg #[.slice A1 n1 c1, .slice A2 n2 c2], .slice A n c] W (LawPost W) := by
  by_cases hs : 1048576 < n1 + n2
  · go_enter Try.func18, Try.ntmps18
    go_wp2_with fail
    refine (szImage_over _ _ _ _ _ _ 1048576 _ (by omega) hn1 hn2 (by omega)).mono ?_
    rintro e w1 ⟨rfl, hb⟩
    go_wp2
    go_ret
    exact ⟨rfl, ((Below.refl _ _).alloc (Nat.le_refl _) _).trans (hb.mono (by simp))⟩
  · obtain ⟨m, rfl, rfl, h⟩ := fm (by omega)
    have hm := fine_of2 h (by omega)
    have hA := HA.new h
    have hs' : (m.bits.length : Int) + (m.words.length : Int) ≤ 1048576 := by omega
    clear h fm hn1 hn2 hs
    go_enter Try.func18, Try.ntmps18
    obtain ⟨pA0, pA1⟩ := hA.cells
    have q2 := hA.lt
    go_wp2_with fail
    refine (szImage_in _ _ _ _ _ _ 1048576 _ (by omega) (by omega)).mono ?_
    rintro e w1 ⟨rfl, hb1⟩
    have zhb1 := hb1.size
    clear pA0 pA1
    have hA3 := hA.below hb1
    clear hA
    go_wp2_with fail
    refine (szRungS_any A n c (1048576 - (m.bits.length : Int) - (m.words.length : Int)) _ hn (by omega) (fun h => by obtain ⟨qs, e, hq⟩ := f h; exact ⟨qs, e, LadW.below hq hA3.bel⟩)).mono ?_
    rintro e wz ⟨r, rfl, hbz, hr⟩
    have zbz := hbz.size
    rcases hr with rfl | ⟨ps, hpl, hL, hsz, rfl⟩
    · go_wp2
      go_ret
      exact ⟨rfl, (hA3.below hbz).bel⟩
    subst hpl
    have q0 : 0 ≤ 1048576 - (m.bits.length : Int) - (m.words.length : Int) - (ps.length : Int) - ((sumL (lads ps) : Nat) : Int) := by omega
    have hq : ps.length ≤ 1048576 ∧ sumL (lads ps) ≤ 1048576 := by omega
    have HSZ := Lib.hid (show ps.length ≤ 1048576 ∧ ∀ p ∈ ps, p.2.logic.length ≤ 1048576 from ⟨hq.1, sz_each hq.2⟩)
    have HQ := Lib.hid hq.2
    have HL := Lib.hid (fun (w' : World) (hb : Below w1.heap.size w1 w') => LadR.below hL hb)
    have HS := Lib.hid (show m.bits.length ≤ 2000000 ∧ m.words.length ≤ 2000000 from ⟨by have := hm.1; omega, by have := hm.2.1; omega⟩)
    obtain ⟨X, hX⟩ : ∃ X, X = runLadM m (lads ps) := ⟨_, rfl⟩
    have hXf : fineM X := by rw [hX]; exact fine_lad _ hm
    have HE := Lib.hid hX
    have hT : Below w1.heap.size w1 wz := hbz
    clear hX hL hsz f hn hq
    have hA4 := hA3.below hbz
    clear hA3
    have hW0 : HB2 w1 wz := hT
    clear hT hbz
    obtain ⟨pA0, pA1⟩ := hA4.cells
    have q6 := hA4.lt
    have q7 := hW0.lt
    go_wp2_with fail
    refine (toImage_any _ m _ hA4.img).mono ?_
    rintro e w5 ⟨ut, rfl, hOt, hb5⟩
    have zhb5 := hb5.size
    clear pA0 pA1
    have hA8 := hA4.below hb5
    have hW9 := hW0.below hb5
    clear hA4 hW0
    have hRt := Lib.hid (fun (V : World) (hb : Below w5.heap.size w5 V) => (hOt.img2 hm).below hb)
    clear hOt
    have q11 := hA8.lt
    have q12 := hW9.lt
    go_wp2_with fail
    refine (toRungS_any _ ps _ (HL.out _ hW9) HSZ.out).mono ?_
    rintro e w10 ⟨tA, tc, ts, rfl, et, hlt, hb10⟩
    have zhb10 := hb10.size
    have hA13 := hA8.below hb10
    have hW14 := hW9.below hb10
    clear hA8 hW9
    have Et := Lib.hid et
    clear et
    have ltt := hlt.lt
    have q16 := hA13.lt
    have q17 := hW14.lt
    have q18 := hlt.lt
    go_wp2_with fail
    refine (sRunLadder_of _ _ m X _ ps _ (hRt.out _ hb10) hlt.read Et.out HE.out ⟨HS.out, hlt.small⟩).mono ?_
    rintro e w15 ⟨v0, rfl, hg0, hb15⟩
    have zhb15 := hb15.size
    have hA19 := hA13.below hb15
    have hW20 := hW14.below hb15
    have hLt21 := hlt.below hb15
    clear hA13 hW14 hlt
    obtain ⟨yA, ya, yB, yb, rfl, -, -⟩ := hg0.form
    have hy22 := HO.new hg0
    have hA23 := hA19.below ((Below.refl _ _).alloc (Nat.le_refl _) (.cells #[.slice yA (X).bits.length ya, .slice yB (X).words.length yb] 26))
    have hW24 := hW20.below ((Below.refl _ _).alloc (Nat.le_refl _) (.cells #[.slice yA (X).bits.length ya, .slice yB (X).words.length yb] 26))
    have hLt25 := hLt21.below ((Below.refl _ _).alloc (Nat.le_refl _) (.cells #[.slice yA (X).bits.length ya, .slice yB (X).words.length yb] 26))
    clear hA19 hW20 hLt21
    have ly := hy22.lt
    have sy : w15.heap.size < (w15.alloc (.cells #[.slice yA (X).bits.length ya, .slice yB (X).words.length yb] 26)).heap.size := by simp
    clear hg0
    obtain ⟨pA0, pA1⟩ := hA23.cells
    have q27 := hA23.lt
    have q28 := hW24.lt
    have q29 := hLt25.lt
    have q30 := hy22.lt
    go_wp2_with fail
    refine (toImage_any _ m _ hA23.img).mono ?_
    rintro e w26 ⟨u2, rfl, hO2, hb26⟩
    have zhb26 := hb26.size
    clear pA0 pA1
    have hA31 := hA23.below hb26
    have hW32 := hW24.below hb26
    have hLt33 := hLt25.below hb26
    have hy34 := hy22.below hb26
    clear hA23 hW24 hLt25 hy22
    obtain ⟨xA, xa, xB, xb, rfl, -, -⟩ := hO2.form
    have hx35 := HO.new hO2
    have hA36 := hA31.below ((Below.refl _ _).alloc (Nat.le_refl _) (.cells #[.slice xA (m).bits.length xa, .slice xB (m).words.length xb] 26))
    have hW37 := hW32.below ((Below.refl _ _).alloc (Nat.le_refl _) (.cells #[.slice xA (m).bits.length xa, .slice xB (m).words.length xb] 26))
    have hLt38 := hLt33.below ((Below.refl _ _).alloc (Nat.le_refl _) (.cells #[.slice xA (m).bits.length xa, .slice xB (m).words.length xb] 26))
    have hy39 := hy34.below ((Below.refl _ _).alloc (Nat.le_refl _) (.cells #[.slice xA (m).bits.length xa, .slice xB (m).words.length xb] 26))
    clear hA31 hW32 hLt33 hy34
    have lx := hx35.lt
    have sx : w26.heap.size < (w26.alloc (.cells #[.slice xA (m).bits.length xa, .slice xB (m).words.length xb] 26)).heap.size := by simp
    clear hO2
    have q41 := hA36.lt
    have q42 := hW37.lt
    have q43 := hLt38.lt
    have q44 := hy39.lt
    have q45 := hx35.lt
    go_wp2_with fail
    refine (toRungS_any _ ps _ (HL.out _ hW37) HSZ.out).mono ?_
    rintro e w40 ⟨vA, vc, vs, rfl, ev, hlv, hb40⟩
    have zhb40 := hb40.size
    have hA46 := hA36.below hb40
    have hW47 := hW37.below hb40
    have hLt48 := hLt38.below hb40
    have hy49 := hy39.below hb40
    have hx50 := hx35.below hb40
    clear hA36 hW37 hLt38 hy39 hx35
    have Ev := Lib.hid ev
    clear ev
    have lvt := hlv.lt
    obtain ⟨px0, px1⟩ := hx50.cells
    have q52 := hA46.lt
    have q53 := hW47.lt
    have q54 := hLt48.lt
    have q55 := hy49.lt
    have q56 := hx50.lt
    have q57 := hlv.lt
    go_wp2_with fail
    refine (iRunLadder_of _ _ m X _ ps _ (hx50.own.read hm) hlv.read Ev.out HE.out).mono ?_
    rintro e w51 ⟨v1, rfl, hg1, hb51⟩
    have zhb51 := hb51.size
    clear px0 px1
    have hA58 := hA46.below hb51
    have hW59 := hW47.below hb51
    have hLt60 := hLt48.below hb51
    have hy61 := hy49.below hb51
    have hx62 := hx50.below hb51
    have hLv63 := hlv.below hb51
    clear hA46 hW47 hLt48 hy49 hx50 hlv
    obtain ⟨gA, ga, gB, gb, rfl, -, -⟩ := hg1.form
    have hg64 := HO.new hg1
    have hA65 := hA58.below ((Below.refl _ _).alloc (Nat.le_refl _) (.cells #[.slice gA (X).bits.length ga, .slice gB (X).words.length gb] 26))
    have hW66 := hW59.below ((Below.refl _ _).alloc (Nat.le_refl _) (.cells #[.slice gA (X).bits.length ga, .slice gB (X).words.length gb] 26))
    have hLt67 := hLt60.below ((Below.refl _ _).alloc (Nat.le_refl _) (.cells #[.slice gA (X).bits.length ga, .slice gB (X).words.length gb] 26))
    have hy68 := hy61.below ((Below.refl _ _).alloc (Nat.le_refl _) (.cells #[.slice gA (X).bits.length ga, .slice gB (X).words.length gb] 26))
    have hx69 := hx62.below ((Below.refl _ _).alloc (Nat.le_refl _) (.cells #[.slice gA (X).bits.length ga, .slice gB (X).words.length gb] 26))
    have hLv70 := hLv63.below ((Below.refl _ _).alloc (Nat.le_refl _) (.cells #[.slice gA (X).bits.length ga, .slice gB (X).words.length gb] 26))
    clear hA58 hW59 hLt60 hy61 hx62 hLv63
    have lg := hg64.lt
    have sg : w51.heap.size < (w51.alloc (.cells #[.slice gA (X).bits.length ga, .slice gB (X).words.length gb] 26)).heap.size := by simp
    clear hg1
    obtain ⟨pg0, pg1⟩ := hg64.cells
    obtain ⟨py0, py1⟩ := hy68.cells
    have q72 := hA65.lt
    have q73 := hW66.lt
    have q74 := hLt67.lt
    have q75 := hy68.lt
    have q76 := hx69.lt
    have q77 := hLv70.lt
    have q78 := hg64.lt
    go_wp2_with fail
    refine (eqImage_same _ _ X _ (hg64.own.read hXf) (hy68.own.read hXf)).mono ?_
    rintro e w71 ⟨rfl, hb71⟩
    have zhb71 := hb71.size
    clear pg0 pg1 py0 py1
    have hA79 := hA65.below hb71
    have hW80 := hW66.below hb71
    have hLt81 := hLt67.below hb71
    have hy82 := hy68.below hb71
    have hx83 := hx69.below hb71
    have hLv84 := hLv70.below hb71
    have hg85 := hg64.below hb71
    clear hA65 hW66 hLt67 hy68 hx69 hLv70 hg64
    have R0 : Below w71.heap.size w71 w71 := Below.refl _ _
    have D0 := R0.drew
    have Ca := Lib.hid (fun (V : World) (hb : Below w71.heap.size w71 V) => (hA79.below hb).cells)
    have Cx := Lib.hid (fun (V : World) (hb : Below w71.heap.size w71 V) => (hx83.below hb).cells)
    obtain ⟨a0, a1⟩ := Ca.out _ R0
    obtain ⟨a2, a3⟩ := Cx.out _ R0
    go_wp2_with fail
    have Ci := Lib.hid ((hA79.below D0).img)
    have Cy := Lib.hid (fun (V : World) (hb : Below w71.heap.size w71 V) => ((hx83.below hb).own.read hm))
    go_region_held3 (fun w' => (w'.cell? ⟨W.heap.size, 0, none⟩ = some (.slice A1 m.bits.length c1) ∧ w'.cell? ⟨W.heap.size, 1, none⟩ = some (.slice A2 m.words.length c2)) ∧ w'.cell? ⟨w26.heap.size, 0, none⟩ = some (.slice xA m.bits.length xa) ∧ w'.cell? ⟨w26.heap.size, 1, none⟩ = some (.slice xB m.words.length xb)) (first | exact ⟨⟨a0, a1⟩, a2, a3⟩ | go_keep)
      (first
        | (go_at_call 43; have tell := hOE; (with_reducible refine (eqImage_same _ _ m _ (Cy.out _ DE) (hOE.img2 hm)).mono ?_); rintro e wF ⟨rfl, hbF⟩; have DF := bstep DE hbF; obtain ⟨t0, t1⟩ := Ca.out _ DF; obtain ⟨t2, t3⟩ := Cx.out _ DF)
        | (go_at_call 42; (with_reducible refine (toImage_any _ m _ Ci.out).mono ?_); rintro e wE ⟨uE, rfl, hOE, hbE⟩; obtain ⟨EA, Ea, EB, Eb, rfl, -, -⟩ := hOE.form; have DE := bstep D0 hbE; obtain ⟨s0, s1⟩ := Ca.out _ DE; obtain ⟨s2, s3⟩ := Cx.out _ DE))
    obtain ⟨w86, rfl⟩ : ∃ w86 : World, w86 = wF := ⟨_, rfl⟩
    have zF86 := DF.size
    have hA87 := hA79.below DF
    have hW88 := hW80.below DF
    have hLt89 := hLt81.below DF
    have hy90 := hy82.below DF
    have hx91 := hx83.below DF
    have hLv92 := hLv84.below DF
    have hg93 := hg85.below DF
    clear hA79 hW80 hLt81 hy82 hx83 hLv84 hg85
    clear a0 a1 a2 a3 s0 s1 s2 s3 t0 t1 t2 t3 Ca Cx Ci Cy R0 D0 DE DF hOE hbE hbF
    have q95 := hA87.lt
    have q96 := hW88.lt
    have q97 := hLt89.lt
    have q98 := hy90.lt
    have q99 := hx91.lt
    have q100 := hLv92.lt
    have q101 := hg93.lt
    go_wp2_with fail
    refine (toRungS_any _ ps _ (HL.out _ hW88) HSZ.out).mono ?_
    rintro e w94 ⟨bA, bc, bs, rfl, eb, hlb, hb94⟩
    have zhb94 := hb94.size
    have hA102 := hA87.below hb94
    have hW103 := hW88.below hb94
    have hLt104 := hLt89.below hb94
    have hy105 := hy90.below hb94
    have hx106 := hx91.below hb94
    have hLv107 := hLv92.below hb94
    have hg108 := hg93.below hb94
    clear hA87 hW88 hLt89 hy90 hx91 hLv92 hg93
    have Eb := Lib.hid eb
    clear eb
    have lbt := hlb.lt
    have q110 := hA102.lt
    have q111 := hW103.lt
    have q112 := hLt104.lt
    have q113 := hy105.lt
    have q114 := hx106.lt
    have q115 := hLv107.lt
    have q116 := hg108.lt
    have q117 := hlb.lt
    go_wp2_with fail
    refine (eqRungS_same _ _ vs bs _ hLv107.read hlb.read (Ev.out.trans Eb.out.symm)).mono ?_
    rintro e w109 ⟨rfl, hb109⟩
    have zhb109 := hb109.size
    have hA118 := hA102.below hb109
    have hW119 := hW103.below hb109
    have hLt120 := hLt104.below hb109
    have hy121 := hy105.below hb109
    have hx122 := hx106.below hb109
    have hLv123 := hLv107.below hb109
    have hg124 := hg108.below hb109
    have hLb125 := hlb.below hb109
    clear hA102 hW103 hLt104 hy105 hx106 hLv107 hg108 hlb
    obtain ⟨px0, px1⟩ := hx122.cells
    go_wp2_with fail
    refine (markImage_any _ (m) 1 _ _ _ hx122.own hm (by omega) (by have := hx122.le; have := hx122.lt; omega)).mono ?_
    rintro e w126 ⟨rfl, hm126, ho126⟩
    clear px0 px1
    have hA127 := hA118.out ho126 (by omega) (by omega)
    have hW128 := hW119.out ho126 (by omega)
    have hLt129 := hLt120.out ho126 (by omega)
    have hy130 := hy121.out ho126 (by omega)
    have hx131 := hx122.marked ho126 hm126
    have hLv132 := hLv123.out ho126 (by omega)
    have hg133 := hg124.out ho126 (by omega)
    have hLb134 := hLb125.out ho126 (by omega)
    clear hA118 hW119 hLt120 hy121 hx122 hLv123 hg124 hLb125
    clear ho126 hm126
    have HSx := Lib.hid (show sumL (lads vs) ≤ 1048576 by rw [Ev.out]; exact HQ.out)
    have q136 := hA127.lt
    have q137 := hW128.lt
    have q138 := hLt129.lt
    have q139 := hy130.lt
    have q140 := hx131.lt
    have q141 := hg133.lt
    have q142 := hLb134.lt
    go_wp2_with fail
    refine (markRungS_any _ vs (1 + m.bits.length + m.words.length) _ _ _ hLv132 (by have := hm.1; have := hm.2.1; omega) HSx.out).mono ?_
    rintro e w135 ⟨rfl, how135⟩
    have hA143 := hA127.out how135 (by omega) (by omega)
    have hW144 := hW128.out how135 (by omega)
    have hLt145 := hLt129.out how135 (by omega)
    have hy146 := hy130.out how135 (by omega)
    have hx147 := hx131.out how135 (by omega)
    have hg148 := hg133.out how135 (by omega)
    have hLb149 := hLb134.out how135 (by omega)
    clear hLv132 hA127 hW128 hLt129 hy130 hx131 hg133 hLb134
    clear how135
    obtain ⟨pg0, pg1⟩ := hg148.cells
    obtain ⟨py0, py1⟩ := hy146.cells
    have q151 := hA143.lt
    have q152 := hW144.lt
    have q153 := hLt145.lt
    have q154 := hy146.lt
    have q155 := hx147.lt
    have q156 := hg148.lt
    have q157 := hLb149.lt
    go_wp2_with fail
    refine (eqImage_same _ _ X _ (hg148.own.read hXf) (hy146.own.read hXf)).mono ?_
    rintro e w150 ⟨rfl, hb150⟩
    have zhb150 := hb150.size
    clear pg0 pg1 py0 py1
    have hA158 := hA143.below hb150
    have hW159 := hW144.below hb150
    have hLt160 := hLt145.below hb150
    have hy161 := hy146.below hb150
    have hx162 := hx147.below hb150
    have hg163 := hg148.below hb150
    have hLb164 := hLb149.below hb150
    clear hA143 hW144 hLt145 hy146 hx147 hg148 hLb149
    obtain ⟨pg0, pg1⟩ := hg163.cells
    go_wp2_with fail
    refine (markImage_any _ (X) 1 _ _ _ hg163.own hXf (by omega) (by have := hg163.le; have := hg163.lt; omega)).mono ?_
    rintro e w165 ⟨rfl, hm165, ho165⟩
    clear pg0 pg1
    have hA166 := hA158.out ho165 (by omega) (by omega)
    have hW167 := hW159.out ho165 (by omega)
    have hLt168 := hLt160.out ho165 (by omega)
    have hy169 := hy161.out ho165 (by omega)
    have hx170 := hx162.out ho165 (by omega)
    have hg171 := hg163.marked ho165 hm165
    have hLb172 := hLb164.out ho165 (by omega)
    clear hA158 hW159 hLt160 hy161 hx162 hg163 hLb164
    clear ho165 hm165
    obtain ⟨pg0, pg1⟩ := hg171.cells
    have q174 := hA166.lt
    have q175 := hW167.lt
    have q176 := hLt168.lt
    have q177 := hy169.lt
    have q178 := hx170.lt
    have q179 := hg171.lt
    have q180 := hLb172.lt
    go_wp2_with fail
    refine (heldImage_any _ (X) 1 _ (hg171.own.read (fine_mark hXf 1 (by omega))) hXf (by omega)).mono ?_
    rintro e w173 ⟨rfl, hb173⟩
    have zhb173 := hb173.size
    clear pg0 pg1
    have hA181 := hA166.below hb173
    have hW182 := hW167.below hb173
    have hLt183 := hLt168.below hb173
    have hy184 := hy169.below hb173
    have hx185 := hx170.below hb173
    have hg186 := hg171.below hb173
    have hLb187 := hLb172.below hb173
    clear hA166 hW167 hLt168 hy169 hx170 hg171 hLb172
    obtain ⟨pA0, pA1⟩ := hA181.cells
    have q189 := hA181.lt
    have q190 := hW182.lt
    have q191 := hLt183.lt
    have q192 := hy184.lt
    have q193 := hx185.lt
    have q194 := hg186.lt
    have q195 := hLb187.lt
    go_wp2_with fail
    refine (toImage_any _ m _ hA181.img).mono ?_
    rintro e w188 ⟨ud, rfl, hOd, hb188⟩
    have zhb188 := hb188.size
    clear pA0 pA1
    have hA196 := hA181.below hb188
    have hW197 := hW182.below hb188
    have hLt198 := hLt183.below hb188
    have hy199 := hy184.below hb188
    have hx200 := hx185.below hb188
    have hg201 := hg186.below hb188
    have hLb202 := hLb187.below hb188
    clear hA181 hW182 hLt183 hy184 hx185 hg186 hLb187
    have hRd := Lib.hid (fun (V : World) (hb : Below w188.heap.size w188 V) => (hOd.img2 hm).below hb)
    clear hOd
    have q204 := hA196.lt
    have q205 := hW197.lt
    have q206 := hLt198.lt
    have q207 := hy199.lt
    have q208 := hx200.lt
    have q209 := hg201.lt
    have q210 := hLb202.lt
    go_wp2_with fail
    refine (toRungS_any _ ps _ (HL.out _ hW197) HSZ.out).mono ?_
    rintro e w203 ⟨dA, dc, ds, rfl, ed, hld, hb203⟩
    have zhb203 := hb203.size
    have hA211 := hA196.below hb203
    have hW212 := hW197.below hb203
    have hLt213 := hLt198.below hb203
    have hy214 := hy199.below hb203
    have hx215 := hx200.below hb203
    have hg216 := hg201.below hb203
    have hLb217 := hLb202.below hb203
    clear hA196 hW197 hLt198 hy199 hx200 hg201 hLb202
    have Ed := Lib.hid ed
    clear ed
    have ldt := hld.lt
    have q219 := hA211.lt
    have q220 := hW212.lt
    have q221 := hLt213.lt
    have q222 := hy214.lt
    have q223 := hx215.lt
    have q224 := hg216.lt
    have q225 := hLb217.lt
    have q226 := hld.lt
    go_wp2_with fail
    refine (iRunLadder_of _ _ m X _ ps _ (hRd.out _ hb203) hld.read Ed.out HE.out).mono ?_
    rintro e w218 ⟨v2, rfl, hg2, hb218⟩
    have zhb218 := hb218.size
    have hA227 := hA211.below hb218
    have hW228 := hW212.below hb218
    have hLt229 := hLt213.below hb218
    have hy230 := hy214.below hb218
    have hx231 := hx215.below hb218
    have hg232 := hg216.below hb218
    have hLb233 := hLb217.below hb218
    have hLd234 := hld.below hb218
    clear hA211 hW212 hLt213 hy214 hx215 hg216 hLb217 hld
    obtain ⟨zA, za, zB, zb, rfl, -, -⟩ := hg2.form
    have hz235 := HO.new hg2
    have hA236 := hA227.below ((Below.refl _ _).alloc (Nat.le_refl _) (.cells #[.slice zA (X).bits.length za, .slice zB (X).words.length zb] 26))
    have hW237 := hW228.below ((Below.refl _ _).alloc (Nat.le_refl _) (.cells #[.slice zA (X).bits.length za, .slice zB (X).words.length zb] 26))
    have hLt238 := hLt229.below ((Below.refl _ _).alloc (Nat.le_refl _) (.cells #[.slice zA (X).bits.length za, .slice zB (X).words.length zb] 26))
    have hy239 := hy230.below ((Below.refl _ _).alloc (Nat.le_refl _) (.cells #[.slice zA (X).bits.length za, .slice zB (X).words.length zb] 26))
    have hx240 := hx231.below ((Below.refl _ _).alloc (Nat.le_refl _) (.cells #[.slice zA (X).bits.length za, .slice zB (X).words.length zb] 26))
    have hg241 := hg232.below ((Below.refl _ _).alloc (Nat.le_refl _) (.cells #[.slice zA (X).bits.length za, .slice zB (X).words.length zb] 26))
    have hLb242 := hLb233.below ((Below.refl _ _).alloc (Nat.le_refl _) (.cells #[.slice zA (X).bits.length za, .slice zB (X).words.length zb] 26))
    have hLd243 := hLd234.below ((Below.refl _ _).alloc (Nat.le_refl _) (.cells #[.slice zA (X).bits.length za, .slice zB (X).words.length zb] 26))
    clear hA227 hW228 hLt229 hy230 hx231 hg232 hLb233 hLd234
    have lz := hz235.lt
    have sz : w218.heap.size < (w218.alloc (.cells #[.slice zA (X).bits.length za, .slice zB (X).words.length zb] 26)).heap.size := by simp
    clear hg2
    obtain ⟨pz0, pz1⟩ := hz235.cells
    obtain ⟨py0, py1⟩ := hy239.cells
    have q245 := hA236.lt
    have q246 := hW237.lt
    have q247 := hLt238.lt
    have q248 := hy239.lt
    have q249 := hx240.lt
    have q250 := hg241.lt
    have q251 := hLb242.lt
    have q252 := hLd243.lt
    have q253 := hz235.lt
    go_wp2_with fail
    refine (eqImage_same _ _ X _ (hz235.own.read hXf) (hy239.own.read hXf)).mono ?_
    rintro e w244 ⟨rfl, hb244⟩
    have zhb244 := hb244.size
    clear pz0 pz1 py0 py1
    have hA254 := hA236.below hb244
    have hW255 := hW237.below hb244
    have hLt256 := hLt238.below hb244
    have hy257 := hy239.below hb244
    have hx258 := hx240.below hb244
    have hg259 := hg241.below hb244
    have hLb260 := hLb242.below hb244
    have hLd261 := hLd243.below hb244
    have hz262 := hz235.below hb244
    clear hA236 hW237 hLt238 hy239 hx240 hg241 hLb242 hLd243 hz235
    obtain ⟨pg0, pg1⟩ := hg259.cells
    have q264 := hA254.lt
    have q265 := hW255.lt
    have q266 := hLt256.lt
    have q267 := hy257.lt
    have q268 := hx258.lt
    have q269 := hg259.lt
    have q270 := hLb260.lt
    have q271 := hLd261.lt
    have q272 := hz262.lt
    go_wp2_with fail
    refine (heldImage_any _ (X) 1 _ (hg259.own.read (fine_mark hXf 1 (by omega))) hXf (by omega)).mono ?_
    rintro e w263 ⟨rfl, hb263⟩
    have zhb263 := hb263.size
    clear pg0 pg1
    have hA273 := hA254.below hb263
    have hW274 := hW255.below hb263
    have hLt275 := hLt256.below hb263
    have hy276 := hy257.below hb263
    have hx277 := hx258.below hb263
    have hg278 := hg259.below hb263
    have hLb279 := hLb260.below hb263
    have hLd280 := hLd261.below hb263
    have hz281 := hz262.below hb263
    clear hA254 hW255 hLt256 hy257 hx258 hg259 hLb260 hLd261 hz262
    go_wp2
    go_ret
    exact ⟨rfl, hA273.bel⟩
end Go.Proofs.Ytoagnajljdbobaa
