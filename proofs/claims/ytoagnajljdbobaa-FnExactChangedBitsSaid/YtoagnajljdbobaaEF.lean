/- The exact laws of chapter 1 whose answer is an image: their walks. -/
import Derived.Test.YtoagnajljdbobaaEE
import Derived.Test.YtoagnajljdbobaaY
namespace Go.Proofs.Ytoagnajljdbobaa
open Go.RowKit
attribute [local go_sem ↓] Go.wp_at_zero Go.wp_at_succ
theorem fine_word {m : Img} (n x : Int) (h : fineM m) : fineM (setWordM m n x) := by
  unfold setWordM
  split
  · refine ⟨h.1, ?_, ?_⟩
    · show (setW m.words n x).length ≤ _
      unfold setW
      split
      · simpa using h.2.1
      · exact h.2.1
    · show ∀ y ∈ setW m.words n x, _
      unfold setW
      split
      · intro y hy
        rcases List.mem_or_eq_of_mem_set hy with h' | rfl
        · exact h.2.2 y h'
        · have := clipW_in x; omega
      · exact h.2.2
  · exact ⟨by simp, by simp, by simp⟩
theorem fine_new (b n : Int) : fineM (newM b n) := by
  have h := small_new b n
  exact ⟨by have := h.1; omega, by have := h.2.1; omega, fun x hx => by have := h.2.2 x hx; omega⟩

theorem FnExactSetBit_long (A1 : Option Addr) (n1 c1 : Nat) (A2 : Option Addr) (n2 c2 : Nat) (n : Int) (b : Bool) (w : World) (hn1 : n1 ≤ 9223372036854775807) (hn2 : n2 ≤ 9223372036854775807) (hs : 1048576 < n1 + n2) :
    Calls Try.prog 9 #[.agg #[.slice A1 n1 c1, .slice A2 n2 c2], .int .i64 n, .bool b] w (LawPost w) := by
  go_enter Try.func9, Try.ntmps9
  go_wp2_with fail
  refine (szImage_over _ _ _ _ _ _ 1048576 _ (by omega) hn1 hn2 (by omega)).mono ?_
  rintro e w1 ⟨rfl, hb⟩
  go_wp2
  go_ret
  exact ⟨rfl, ((Below.refl _ _).alloc (Nat.le_refl _) _).trans (hb.mono (by simp))⟩
set_option maxHeartbeats 2000000 in
theorem FnExactSetBit_core (A1 : Option Addr) (c1 : Nat) (A2 : Option Addr) (c2 : Nat) (m : Img) (n : Int) (b : Bool) (W : World) (h : ImgR W W.heap.size (.agg #[.slice A1 m.bits.length c1, .slice A2 m.words.length c2]) m) (hs : m.bits.length + m.words.length ≤ 1048576) :
    Calls Try.prog 9 #[.agg #[.slice A1 m.bits.length c1, .slice A2 m.words.length c2], .int .i64 n, .bool b] W (LawPost W) := by
  have hm := fine_of h hs
  have hA := HA.new h
  have hs' : (m.bits.length : Int) + (m.words.length : Int) ≤ 1048576 := by omega
  clear h
  go_enter Try.func9, Try.ntmps9
  obtain ⟨pA0, pA1⟩ := hA.cells
  have q2 := hA.lt
  go_wp2_with fail
  refine (szImage_in _ _ _ _ _ _ 1048576 _ (by omega) (by omega)).mono ?_
  rintro e w1 ⟨rfl, hb1⟩
  have zhb1 := hb1.size
  clear pA0 pA1
  have hA3 := hA.below hb1
  clear hA
  obtain ⟨X, hX⟩ : ∃ X, X = setBitM m n b := ⟨_, rfl⟩
  have hXf : fineM X := by rw [hX]; exact fine_bit n b hm
  have HX := Lib.hid hX
  clear hX
  obtain ⟨pA0, pA1⟩ := hA3.cells
  have q5 := hA3.lt
  go_wp2_with fail
  refine (toImage_any _ m _ hA3.img).mono ?_
  rintro e w4 ⟨u1, rfl, hO1, hb4⟩
  have zhb4 := hb4.size
  clear pA0 pA1
  have hA6 := hA3.below hb4
  clear hA3
  have q8 := hA6.lt
  go_wp2_with fail
  refine (sSetBit_any _ m n b _ (hO1.img hm)).mono ?_
  rw [← HX.out]
  rintro e w7 ⟨v0, rfl, hg0, hb7⟩
  have zhb7 := hb7.size
  have hA9 := hA6.below hb7
  clear hA6
  clear hO1
  obtain ⟨yA, ya, yB, yb, rfl, -, -⟩ := hg0.form
  have hy10 := HO.new hg0
  have hA11 := hA9.below ((Below.refl _ _).alloc (Nat.le_refl _) (.cells #[.slice yA (X).bits.length ya, .slice yB (X).words.length yb] 26))
  clear hA9
  have ly := hy10.lt
  have sy : w7.heap.size < (w7.alloc (.cells #[.slice yA (X).bits.length ya, .slice yB (X).words.length yb] 26)).heap.size := by simp
  clear hg0
  obtain ⟨pA0, pA1⟩ := hA11.cells
  have q13 := hA11.lt
  have q14 := hy10.lt
  go_wp2_with fail
  refine (toImage_any _ m _ hA11.img).mono ?_
  rintro e w12 ⟨u2, rfl, hO2, hb12⟩
  have zhb12 := hb12.size
  clear pA0 pA1
  have hA15 := hA11.below hb12
  have hy16 := hy10.below hb12
  clear hA11 hy10
  obtain ⟨xA, xa, xB, xb, rfl, -, -⟩ := hO2.form
  have hx17 := HO.new hO2
  have hA18 := hA15.below ((Below.refl _ _).alloc (Nat.le_refl _) (.cells #[.slice xA (m).bits.length xa, .slice xB (m).words.length xb] 26))
  have hy19 := hy16.below ((Below.refl _ _).alloc (Nat.le_refl _) (.cells #[.slice xA (m).bits.length xa, .slice xB (m).words.length xb] 26))
  clear hA15 hy16
  have lx := hx17.lt
  have sx : w12.heap.size < (w12.alloc (.cells #[.slice xA (m).bits.length xa, .slice xB (m).words.length xb] 26)).heap.size := by simp
  clear hO2
  obtain ⟨px0, px1⟩ := hx17.cells
  have q21 := hA18.lt
  have q22 := hy19.lt
  have q23 := hx17.lt
  go_wp2_with fail
  refine (iSetBit_any _ m n b _ (hx17.own.read hm)).mono ?_
  rw [← HX.out]
  rintro e w20 ⟨v1, rfl, hg1, hb20⟩
  have zhb20 := hb20.size
  clear px0 px1
  have hA24 := hA18.below hb20
  have hy25 := hy19.below hb20
  have hx26 := hx17.below hb20
  clear hA18 hy19 hx17
  obtain ⟨gA, ga, gB, gb, rfl, -, -⟩ := hg1.form
  have hg27 := HO.new hg1
  have hA28 := hA24.below ((Below.refl _ _).alloc (Nat.le_refl _) (.cells #[.slice gA (X).bits.length ga, .slice gB (X).words.length gb] 26))
  have hy29 := hy25.below ((Below.refl _ _).alloc (Nat.le_refl _) (.cells #[.slice gA (X).bits.length ga, .slice gB (X).words.length gb] 26))
  have hx30 := hx26.below ((Below.refl _ _).alloc (Nat.le_refl _) (.cells #[.slice gA (X).bits.length ga, .slice gB (X).words.length gb] 26))
  clear hA24 hy25 hx26
  have lg := hg27.lt
  have sg : w20.heap.size < (w20.alloc (.cells #[.slice gA (X).bits.length ga, .slice gB (X).words.length gb] 26)).heap.size := by simp
  clear hg1
  obtain ⟨pg0, pg1⟩ := hg27.cells
  obtain ⟨py0, py1⟩ := hy29.cells
  have q32 := hA28.lt
  have q33 := hy29.lt
  have q34 := hx30.lt
  have q35 := hg27.lt
  go_wp2_with fail
  refine (eqImage_same _ _ X _ (hg27.own.read hXf) (hy29.own.read hXf)).mono ?_
  rintro e w31 ⟨rfl, hb31⟩
  have zhb31 := hb31.size
  clear pg0 pg1 py0 py1
  have hA36 := hA28.below hb31
  have hy37 := hy29.below hb31
  have hx38 := hx30.below hb31
  have hg39 := hg27.below hb31
  clear hA28 hy29 hx30 hg27
  obtain ⟨px0, px1⟩ := hx38.cells
  obtain ⟨pA0, pA1⟩ := hA36.cells
  go_wp2_with fail
  have hA36d := hA36.below ((Below.refl _ _).drew)
  have hy37d := hy37.below ((Below.refl _ _).drew)
  have hx38d := hx38.below ((Below.refl _ _).drew)
  have hg39d := hg39.below ((Below.refl _ _).drew)
  go_region_held3 (fun w' => w'.cell? ⟨w12.heap.size, 0, none⟩ = some (.slice xA m.bits.length xa) ∧ w'.cell? ⟨w12.heap.size, 1, none⟩ = some (.slice xB m.words.length xb) ∧ w'.cell? ⟨W.heap.size, 0, none⟩ = some (.slice A1 m.bits.length c1) ∧ w'.cell? ⟨W.heap.size, 1, none⟩ = some (.slice A2 m.words.length c2)) (first | exact ⟨px0, px1, pA0, pA1⟩ | go_keep)
    (first
      | (go_at_call 42; refine (toImage_any _ m _ hA36d.img).mono ?_; rintro e wE ⟨uE, rfl, hOE, hbE⟩; obtain ⟨EA, Ea, EB, Eb, rfl, -, -⟩ := hOE.form; have hA36e := hA36d.below hbE; have hy37e := hy37d.below hbE; have hx38e := hx38d.below hbE; have hg39e := hg39d.below hbE; clear px0 px1 pA0 pA1; obtain ⟨px0, px1⟩ := hx38e.cells; obtain ⟨pA0, pA1⟩ := hA36e.cells)
      | (go_at_call 43; refine (eqImage_same _ _ m _ (hx38e.own.read hm) (hOE.img hm)).mono ?_; rintro e wF ⟨rfl, hbF⟩; have hA36f := hA36e.below hbF; have hy37f := hy37e.below hbF; have hx38f := hx38e.below hbF; have hg39f := hg39e.below hbF; clear px0 px1 pA0 pA1; obtain ⟨px0, px1⟩ := hx38f.cells; obtain ⟨pA0, pA1⟩ := hA36f.cells))
  clear hA36 hy37 hx38 hg39
  clear hA36d hy37d hx38d hg39d
  clear hA36e hy37e hx38e hg39e
  clear hOE hbE hbF
  clear px0 px1 pA0 pA1
  obtain ⟨px0, px1⟩ := hx38f.cells
  go_wp2_with fail
  refine (markImage_any _ (m) 1 _ _ _ hx38f.own hm (by omega) (by have := hx38f.le; have := hx38f.lt; omega)).mono ?_
  rintro e w40 ⟨rfl, hm40, ho40⟩
  clear px0 px1
  have hA41 := hA36f.out ho40 (by omega) (by omega)
  have hy42 := hy37f.out ho40 (by omega)
  have hx43 := hx38f.marked ho40 hm40
  have hg44 := hg39f.out ho40 (by omega)
  clear hA36f hy37f hx38f hg39f
  clear ho40 hm40
  obtain ⟨pg0, pg1⟩ := hg44.cells
  obtain ⟨py0, py1⟩ := hy42.cells
  have q46 := hA41.lt
  have q47 := hy42.lt
  have q48 := hx43.lt
  have q49 := hg44.lt
  go_wp2_with fail
  refine (eqImage_same _ _ X _ (hg44.own.read hXf) (hy42.own.read hXf)).mono ?_
  rintro e w45 ⟨rfl, hb45⟩
  have zhb45 := hb45.size
  clear pg0 pg1 py0 py1
  have hA50 := hA41.below hb45
  have hy51 := hy42.below hb45
  have hx52 := hx43.below hb45
  have hg53 := hg44.below hb45
  clear hA41 hy42 hx43 hg44
  obtain ⟨pg0, pg1⟩ := hg53.cells
  go_wp2_with fail
  refine (markImage_any _ (X) 1 _ _ _ hg53.own hXf (by omega) (by have := hg53.le; have := hg53.lt; omega)).mono ?_
  rintro e w54 ⟨rfl, hm54, ho54⟩
  clear pg0 pg1
  have hA55 := hA50.out ho54 (by omega) (by omega)
  have hy56 := hy51.out ho54 (by omega)
  have hx57 := hx52.out ho54 (by omega)
  have hg58 := hg53.marked ho54 hm54
  clear hA50 hy51 hx52 hg53
  clear ho54 hm54
  obtain ⟨pg0, pg1⟩ := hg58.cells
  have q60 := hA55.lt
  have q61 := hy56.lt
  have q62 := hx57.lt
  have q63 := hg58.lt
  go_wp2_with fail
  refine (heldImage_any _ (X) 1 _ (hg58.own.read (fine_mark hXf 1 (by omega))) hXf (by omega)).mono ?_
  rintro e w59 ⟨rfl, hb59⟩
  have zhb59 := hb59.size
  clear pg0 pg1
  have hA64 := hA55.below hb59
  have hy65 := hy56.below hb59
  have hx66 := hx57.below hb59
  have hg67 := hg58.below hb59
  clear hA55 hy56 hx57 hg58
  obtain ⟨pA0, pA1⟩ := hA64.cells
  have q69 := hA64.lt
  have q70 := hy65.lt
  have q71 := hx66.lt
  have q72 := hg67.lt
  go_wp2_with fail
  refine (toImage_any _ m _ hA64.img).mono ?_
  rintro e w68 ⟨u3, rfl, hO3, hb68⟩
  have zhb68 := hb68.size
  clear pA0 pA1
  have hA73 := hA64.below hb68
  have hy74 := hy65.below hb68
  have hx75 := hx66.below hb68
  have hg76 := hg67.below hb68
  clear hA64 hy65 hx66 hg67
  have q78 := hA73.lt
  have q79 := hy74.lt
  have q80 := hx75.lt
  have q81 := hg76.lt
  go_wp2_with fail
  refine (iSetBit_any _ m n b _ (hO3.img hm)).mono ?_
  rw [← HX.out]
  rintro e w77 ⟨v2, rfl, hg2, hb77⟩
  have zhb77 := hb77.size
  have hA82 := hA73.below hb77
  have hy83 := hy74.below hb77
  have hx84 := hx75.below hb77
  have hg85 := hg76.below hb77
  clear hA73 hy74 hx75 hg76
  clear hO3
  obtain ⟨zA, za, zB, zb, rfl, -, -⟩ := hg2.form
  have hz86 := HO.new hg2
  have hA87 := hA82.below ((Below.refl _ _).alloc (Nat.le_refl _) (.cells #[.slice zA (X).bits.length za, .slice zB (X).words.length zb] 26))
  have hy88 := hy83.below ((Below.refl _ _).alloc (Nat.le_refl _) (.cells #[.slice zA (X).bits.length za, .slice zB (X).words.length zb] 26))
  have hx89 := hx84.below ((Below.refl _ _).alloc (Nat.le_refl _) (.cells #[.slice zA (X).bits.length za, .slice zB (X).words.length zb] 26))
  have hg90 := hg85.below ((Below.refl _ _).alloc (Nat.le_refl _) (.cells #[.slice zA (X).bits.length za, .slice zB (X).words.length zb] 26))
  clear hA82 hy83 hx84 hg85
  have lz := hz86.lt
  have sz : w77.heap.size < (w77.alloc (.cells #[.slice zA (X).bits.length za, .slice zB (X).words.length zb] 26)).heap.size := by simp
  clear hg2
  obtain ⟨pz0, pz1⟩ := hz86.cells
  obtain ⟨py0, py1⟩ := hy88.cells
  have q92 := hA87.lt
  have q93 := hy88.lt
  have q94 := hx89.lt
  have q95 := hg90.lt
  have q96 := hz86.lt
  go_wp2_with fail
  refine (eqImage_same _ _ X _ (hz86.own.read hXf) (hy88.own.read hXf)).mono ?_
  rintro e w91 ⟨rfl, hb91⟩
  have zhb91 := hb91.size
  clear pz0 pz1 py0 py1
  have hA97 := hA87.below hb91
  have hy98 := hy88.below hb91
  have hx99 := hx89.below hb91
  have hg100 := hg90.below hb91
  have hz101 := hz86.below hb91
  clear hA87 hy88 hx89 hg90 hz86
  obtain ⟨pg0, pg1⟩ := hg100.cells
  have q103 := hA97.lt
  have q104 := hy98.lt
  have q105 := hx99.lt
  have q106 := hg100.lt
  have q107 := hz101.lt
  go_wp2_with fail
  refine (heldImage_any _ (X) 1 _ (hg100.own.read (fine_mark hXf 1 (by omega))) hXf (by omega)).mono ?_
  rintro e w102 ⟨rfl, hb102⟩
  have zhb102 := hb102.size
  clear pg0 pg1
  have hA108 := hA97.below hb102
  have hy109 := hy98.below hb102
  have hx110 := hx99.below hb102
  have hg111 := hg100.below hb102
  have hz112 := hz101.below hb102
  clear hA97 hy98 hx99 hg100 hz101
  go_wp2
  go_ret
  exact ⟨rfl, hA108.bel⟩

theorem FnExactSetWord_long (A1 : Option Addr) (n1 c1 : Nat) (A2 : Option Addr) (n2 c2 : Nat) (n x : Int) (w : World) (hn1 : n1 ≤ 9223372036854775807) (hn2 : n2 ≤ 9223372036854775807) (hs : 1048576 < n1 + n2) :
    Calls Try.prog 10 #[.agg #[.slice A1 n1 c1, .slice A2 n2 c2], .int .i64 n, .int .i64 x] w (LawPost w) := by
  go_enter Try.func10, Try.ntmps10
  go_wp2_with fail
  refine (szImage_over _ _ _ _ _ _ 1048576 _ (by omega) hn1 hn2 (by omega)).mono ?_
  rintro e w1 ⟨rfl, hb⟩
  go_wp2
  go_ret
  exact ⟨rfl, ((Below.refl _ _).alloc (Nat.le_refl _) _).trans (hb.mono (by simp))⟩
set_option maxHeartbeats 2000000 in
theorem FnExactSetWord_core (A1 : Option Addr) (c1 : Nat) (A2 : Option Addr) (c2 : Nat) (m : Img) (n x : Int) (W : World) (h : ImgR W W.heap.size (.agg #[.slice A1 m.bits.length c1, .slice A2 m.words.length c2]) m) (hs : m.bits.length + m.words.length ≤ 1048576) :
    Calls Try.prog 10 #[.agg #[.slice A1 m.bits.length c1, .slice A2 m.words.length c2], .int .i64 n, .int .i64 x] W (LawPost W) := by
  have hm := fine_of h hs
  have hA := HA.new h
  have hs' : (m.bits.length : Int) + (m.words.length : Int) ≤ 1048576 := by omega
  clear h
  go_enter Try.func10, Try.ntmps10
  obtain ⟨pA0, pA1⟩ := hA.cells
  have q2 := hA.lt
  go_wp2_with fail
  refine (szImage_in _ _ _ _ _ _ 1048576 _ (by omega) (by omega)).mono ?_
  rintro e w1 ⟨rfl, hb1⟩
  have zhb1 := hb1.size
  clear pA0 pA1
  have hA3 := hA.below hb1
  clear hA
  obtain ⟨X, hX⟩ : ∃ X, X = setWordM m n x := ⟨_, rfl⟩
  have hXf : fineM X := by rw [hX]; exact fine_word n x hm
  have HX := Lib.hid hX
  clear hX
  obtain ⟨pA0, pA1⟩ := hA3.cells
  have q5 := hA3.lt
  go_wp2_with fail
  refine (toImage_any _ m _ hA3.img).mono ?_
  rintro e w4 ⟨u1, rfl, hO1, hb4⟩
  have zhb4 := hb4.size
  clear pA0 pA1
  have hA6 := hA3.below hb4
  clear hA3
  have q8 := hA6.lt
  go_wp2_with fail
  refine (sSetWord_any _ m n x _ (hO1.img hm)).mono ?_
  rw [← HX.out]
  rintro e w7 ⟨v0, rfl, hg0, hb7⟩
  have zhb7 := hb7.size
  have hA9 := hA6.below hb7
  clear hA6
  clear hO1
  obtain ⟨yA, ya, yB, yb, rfl, -, -⟩ := hg0.form
  have hy10 := HO.new hg0
  have hA11 := hA9.below ((Below.refl _ _).alloc (Nat.le_refl _) (.cells #[.slice yA (X).bits.length ya, .slice yB (X).words.length yb] 26))
  clear hA9
  have ly := hy10.lt
  have sy : w7.heap.size < (w7.alloc (.cells #[.slice yA (X).bits.length ya, .slice yB (X).words.length yb] 26)).heap.size := by simp
  clear hg0
  obtain ⟨pA0, pA1⟩ := hA11.cells
  have q13 := hA11.lt
  have q14 := hy10.lt
  go_wp2_with fail
  refine (toImage_any _ m _ hA11.img).mono ?_
  rintro e w12 ⟨u2, rfl, hO2, hb12⟩
  have zhb12 := hb12.size
  clear pA0 pA1
  have hA15 := hA11.below hb12
  have hy16 := hy10.below hb12
  clear hA11 hy10
  obtain ⟨xA, xa, xB, xb, rfl, -, -⟩ := hO2.form
  have hx17 := HO.new hO2
  have hA18 := hA15.below ((Below.refl _ _).alloc (Nat.le_refl _) (.cells #[.slice xA (m).bits.length xa, .slice xB (m).words.length xb] 26))
  have hy19 := hy16.below ((Below.refl _ _).alloc (Nat.le_refl _) (.cells #[.slice xA (m).bits.length xa, .slice xB (m).words.length xb] 26))
  clear hA15 hy16
  have lx := hx17.lt
  have sx : w12.heap.size < (w12.alloc (.cells #[.slice xA (m).bits.length xa, .slice xB (m).words.length xb] 26)).heap.size := by simp
  clear hO2
  obtain ⟨px0, px1⟩ := hx17.cells
  have q21 := hA18.lt
  have q22 := hy19.lt
  have q23 := hx17.lt
  go_wp2_with fail
  refine (iSetWord_any _ m n x _ (hx17.own.read hm)).mono ?_
  rw [← HX.out]
  rintro e w20 ⟨v1, rfl, hg1, hb20⟩
  have zhb20 := hb20.size
  clear px0 px1
  have hA24 := hA18.below hb20
  have hy25 := hy19.below hb20
  have hx26 := hx17.below hb20
  clear hA18 hy19 hx17
  obtain ⟨gA, ga, gB, gb, rfl, -, -⟩ := hg1.form
  have hg27 := HO.new hg1
  have hA28 := hA24.below ((Below.refl _ _).alloc (Nat.le_refl _) (.cells #[.slice gA (X).bits.length ga, .slice gB (X).words.length gb] 26))
  have hy29 := hy25.below ((Below.refl _ _).alloc (Nat.le_refl _) (.cells #[.slice gA (X).bits.length ga, .slice gB (X).words.length gb] 26))
  have hx30 := hx26.below ((Below.refl _ _).alloc (Nat.le_refl _) (.cells #[.slice gA (X).bits.length ga, .slice gB (X).words.length gb] 26))
  clear hA24 hy25 hx26
  have lg := hg27.lt
  have sg : w20.heap.size < (w20.alloc (.cells #[.slice gA (X).bits.length ga, .slice gB (X).words.length gb] 26)).heap.size := by simp
  clear hg1
  obtain ⟨pg0, pg1⟩ := hg27.cells
  obtain ⟨py0, py1⟩ := hy29.cells
  have q32 := hA28.lt
  have q33 := hy29.lt
  have q34 := hx30.lt
  have q35 := hg27.lt
  go_wp2_with fail
  refine (eqImage_same _ _ X _ (hg27.own.read hXf) (hy29.own.read hXf)).mono ?_
  rintro e w31 ⟨rfl, hb31⟩
  have zhb31 := hb31.size
  clear pg0 pg1 py0 py1
  have hA36 := hA28.below hb31
  have hy37 := hy29.below hb31
  have hx38 := hx30.below hb31
  have hg39 := hg27.below hb31
  clear hA28 hy29 hx30 hg27
  obtain ⟨px0, px1⟩ := hx38.cells
  obtain ⟨pA0, pA1⟩ := hA36.cells
  go_wp2_with fail
  have hA36d := hA36.below ((Below.refl _ _).drew)
  have hy37d := hy37.below ((Below.refl _ _).drew)
  have hx38d := hx38.below ((Below.refl _ _).drew)
  have hg39d := hg39.below ((Below.refl _ _).drew)
  go_region_held3 (fun w' => w'.cell? ⟨w12.heap.size, 0, none⟩ = some (.slice xA m.bits.length xa) ∧ w'.cell? ⟨w12.heap.size, 1, none⟩ = some (.slice xB m.words.length xb) ∧ w'.cell? ⟨W.heap.size, 0, none⟩ = some (.slice A1 m.bits.length c1) ∧ w'.cell? ⟨W.heap.size, 1, none⟩ = some (.slice A2 m.words.length c2)) (first | exact ⟨px0, px1, pA0, pA1⟩ | go_keep)
    (first
      | (go_at_call 42; refine (toImage_any _ m _ hA36d.img).mono ?_; rintro e wE ⟨uE, rfl, hOE, hbE⟩; obtain ⟨EA, Ea, EB, Eb, rfl, -, -⟩ := hOE.form; have hA36e := hA36d.below hbE; have hy37e := hy37d.below hbE; have hx38e := hx38d.below hbE; have hg39e := hg39d.below hbE; clear px0 px1 pA0 pA1; obtain ⟨px0, px1⟩ := hx38e.cells; obtain ⟨pA0, pA1⟩ := hA36e.cells)
      | (go_at_call 43; refine (eqImage_same _ _ m _ (hx38e.own.read hm) (hOE.img hm)).mono ?_; rintro e wF ⟨rfl, hbF⟩; have hA36f := hA36e.below hbF; have hy37f := hy37e.below hbF; have hx38f := hx38e.below hbF; have hg39f := hg39e.below hbF; clear px0 px1 pA0 pA1; obtain ⟨px0, px1⟩ := hx38f.cells; obtain ⟨pA0, pA1⟩ := hA36f.cells))
  clear hA36 hy37 hx38 hg39
  clear hA36d hy37d hx38d hg39d
  clear hA36e hy37e hx38e hg39e
  clear hOE hbE hbF
  clear px0 px1 pA0 pA1
  obtain ⟨px0, px1⟩ := hx38f.cells
  go_wp2_with fail
  refine (markImage_any _ (m) 1 _ _ _ hx38f.own hm (by omega) (by have := hx38f.le; have := hx38f.lt; omega)).mono ?_
  rintro e w40 ⟨rfl, hm40, ho40⟩
  clear px0 px1
  have hA41 := hA36f.out ho40 (by omega) (by omega)
  have hy42 := hy37f.out ho40 (by omega)
  have hx43 := hx38f.marked ho40 hm40
  have hg44 := hg39f.out ho40 (by omega)
  clear hA36f hy37f hx38f hg39f
  clear ho40 hm40
  obtain ⟨pg0, pg1⟩ := hg44.cells
  obtain ⟨py0, py1⟩ := hy42.cells
  have q46 := hA41.lt
  have q47 := hy42.lt
  have q48 := hx43.lt
  have q49 := hg44.lt
  go_wp2_with fail
  refine (eqImage_same _ _ X _ (hg44.own.read hXf) (hy42.own.read hXf)).mono ?_
  rintro e w45 ⟨rfl, hb45⟩
  have zhb45 := hb45.size
  clear pg0 pg1 py0 py1
  have hA50 := hA41.below hb45
  have hy51 := hy42.below hb45
  have hx52 := hx43.below hb45
  have hg53 := hg44.below hb45
  clear hA41 hy42 hx43 hg44
  obtain ⟨pg0, pg1⟩ := hg53.cells
  go_wp2_with fail
  refine (markImage_any _ (X) 1 _ _ _ hg53.own hXf (by omega) (by have := hg53.le; have := hg53.lt; omega)).mono ?_
  rintro e w54 ⟨rfl, hm54, ho54⟩
  clear pg0 pg1
  have hA55 := hA50.out ho54 (by omega) (by omega)
  have hy56 := hy51.out ho54 (by omega)
  have hx57 := hx52.out ho54 (by omega)
  have hg58 := hg53.marked ho54 hm54
  clear hA50 hy51 hx52 hg53
  clear ho54 hm54
  obtain ⟨pg0, pg1⟩ := hg58.cells
  have q60 := hA55.lt
  have q61 := hy56.lt
  have q62 := hx57.lt
  have q63 := hg58.lt
  go_wp2_with fail
  refine (heldImage_any _ (X) 1 _ (hg58.own.read (fine_mark hXf 1 (by omega))) hXf (by omega)).mono ?_
  rintro e w59 ⟨rfl, hb59⟩
  have zhb59 := hb59.size
  clear pg0 pg1
  have hA64 := hA55.below hb59
  have hy65 := hy56.below hb59
  have hx66 := hx57.below hb59
  have hg67 := hg58.below hb59
  clear hA55 hy56 hx57 hg58
  obtain ⟨pA0, pA1⟩ := hA64.cells
  have q69 := hA64.lt
  have q70 := hy65.lt
  have q71 := hx66.lt
  have q72 := hg67.lt
  go_wp2_with fail
  refine (toImage_any _ m _ hA64.img).mono ?_
  rintro e w68 ⟨u3, rfl, hO3, hb68⟩
  have zhb68 := hb68.size
  clear pA0 pA1
  have hA73 := hA64.below hb68
  have hy74 := hy65.below hb68
  have hx75 := hx66.below hb68
  have hg76 := hg67.below hb68
  clear hA64 hy65 hx66 hg67
  have q78 := hA73.lt
  have q79 := hy74.lt
  have q80 := hx75.lt
  have q81 := hg76.lt
  go_wp2_with fail
  refine (iSetWord_any _ m n x _ (hO3.img hm)).mono ?_
  rw [← HX.out]
  rintro e w77 ⟨v2, rfl, hg2, hb77⟩
  have zhb77 := hb77.size
  have hA82 := hA73.below hb77
  have hy83 := hy74.below hb77
  have hx84 := hx75.below hb77
  have hg85 := hg76.below hb77
  clear hA73 hy74 hx75 hg76
  clear hO3
  obtain ⟨zA, za, zB, zb, rfl, -, -⟩ := hg2.form
  have hz86 := HO.new hg2
  have hA87 := hA82.below ((Below.refl _ _).alloc (Nat.le_refl _) (.cells #[.slice zA (X).bits.length za, .slice zB (X).words.length zb] 26))
  have hy88 := hy83.below ((Below.refl _ _).alloc (Nat.le_refl _) (.cells #[.slice zA (X).bits.length za, .slice zB (X).words.length zb] 26))
  have hx89 := hx84.below ((Below.refl _ _).alloc (Nat.le_refl _) (.cells #[.slice zA (X).bits.length za, .slice zB (X).words.length zb] 26))
  have hg90 := hg85.below ((Below.refl _ _).alloc (Nat.le_refl _) (.cells #[.slice zA (X).bits.length za, .slice zB (X).words.length zb] 26))
  clear hA82 hy83 hx84 hg85
  have lz := hz86.lt
  have sz : w77.heap.size < (w77.alloc (.cells #[.slice zA (X).bits.length za, .slice zB (X).words.length zb] 26)).heap.size := by simp
  clear hg2
  obtain ⟨pz0, pz1⟩ := hz86.cells
  obtain ⟨py0, py1⟩ := hy88.cells
  have q92 := hA87.lt
  have q93 := hy88.lt
  have q94 := hx89.lt
  have q95 := hg90.lt
  have q96 := hz86.lt
  go_wp2_with fail
  refine (eqImage_same _ _ X _ (hz86.own.read hXf) (hy88.own.read hXf)).mono ?_
  rintro e w91 ⟨rfl, hb91⟩
  have zhb91 := hb91.size
  clear pz0 pz1 py0 py1
  have hA97 := hA87.below hb91
  have hy98 := hy88.below hb91
  have hx99 := hx89.below hb91
  have hg100 := hg90.below hb91
  have hz101 := hz86.below hb91
  clear hA87 hy88 hx89 hg90 hz86
  obtain ⟨pg0, pg1⟩ := hg100.cells
  have q103 := hA97.lt
  have q104 := hy98.lt
  have q105 := hx99.lt
  have q106 := hg100.lt
  have q107 := hz101.lt
  go_wp2_with fail
  refine (heldImage_any _ (X) 1 _ (hg100.own.read (fine_mark hXf 1 (by omega))) hXf (by omega)).mono ?_
  rintro e w102 ⟨rfl, hb102⟩
  have zhb102 := hb102.size
  clear pg0 pg1
  have hA108 := hA97.below hb102
  have hy109 := hy98.below hb102
  have hx110 := hx99.below hb102
  have hg111 := hg100.below hb102
  have hz112 := hz101.below hb102
  clear hA97 hy98 hx99 hg100 hz101
  go_wp2
  go_ret
  exact ⟨rfl, hA108.bel⟩

end Go.Proofs.Ytoagnajljdbobaa
