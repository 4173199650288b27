/- The exact laws of RungValid and RungsIndependent: their walks. -/
import Derived.Test.YtlpoeijjlkdceaaER
import Derived.Test.YtlpoeijjlkdceaaRI
import Derived.Test.YtlpoeijjlkdceaaW
namespace Go.Proofs.Ytlpoeijjlkdceaa
open Go.RowKit
attribute [local go_sem ↓] Go.wp_at_zero Go.wp_at_succ

theorem OwnN.rung {w : World} {b : Nat} {A : Option Addr} {c : Nat} {l : List Nd} {x y : Int} (h : OwnN w b (.slice A l.length c) l) (hf : ∀ z ∈ l, ndFit z) (hl : l.length ≤ 1048576) (hx : fit64 x ∧ fit64 y) :
    RungR w w.heap.size (.agg #[.slice A l.length c, .int .i64 x, .int .i64 y]) ⟨l, x, y⟩ := ⟨_, rfl, OwnN.read h (show l.length ≤ 8796093022208 by omega) hf, hx⟩
theorem FnExactRungValid_long (A : Option Addr) (n c : Nat) (x y : Int) (bits : Int) (w : World) (hn : n ≤ 9223372036854775807) (_hx : fit64 x ∧ fit64 y) (hs : 1048576 < n) :
    Calls Try.prog 12 #[.agg #[.slice A n c, .int .i64 x, .int .i64 y], .int .i64 bits] w (LawPost w) := by
  go_enter Try.func12, Try.ntmps12
  go_wp2_with fail
  refine (szRung_over _ n _ _ _ 1048576 _ hn (by omega)).mono ?_
  rintro e w1 ⟨rfl, hb⟩
  go_wp2
  go_ret
  exact ⟨rfl, ((Below.refl _ _).alloc (Nat.le_refl _) _).trans (hb.mono (by simp))⟩
set_option maxRecDepth 100000 in
set_option maxHeartbeats 2000000 in
theorem FnExactRungValid_core (A : Option Addr) (c : Nat) (x y : Int) (l : List Nd) (bits : Int) (W : World) (h : NodesR W W.heap.size (.slice A l.length c) l) (hx : fit64 x ∧ fit64 y) (hs : l.length ≤ 1048576) :
    Calls Try.prog 12 #[.agg #[.slice A l.length c, .int .i64 x, .int .i64 y], .int .i64 bits] W (LawPost W) := by
  have HN := Lib.hid (fun (w' : World) (hb : Below W.heap.size W w') => h.below hb)
  have HF := Lib.hid h.fitL
  have HX := Lib.hid hx
  clear h hx
  have hs' : (l.length : Int) ≤ 1048576 := by omega
  have B0 : Below W.heap.size W (W.alloc (.cells #[.slice A l.length c, .int .i64 x, .int .i64 y] 67)) := (Below.refl _ _).alloc (Nat.le_refl _) _
  have m0 := heap_alloc_new W (.cells #[.slice A l.length c, .int .i64 x, .int .i64 y] 67)
  go_enter Try.func12, Try.ntmps12
  go_wp2_with fail
  refine (szRung_in _ l.length _ _ _ 1048576 _ (by omega)).mono ?_
  rintro e w1 ⟨rfl, hb1⟩
  have B1 := B0.trans (hb1.mono B0.size)
  have m1 := (hb1.block _ (blk_lt m0)).trans m0
  clear hb1 B0 m0
  obtain ⟨a0, a1, a2⟩ := blk3k m1
  have q0 : 0 ≤ 1048576 - (l.length : Int) := by omega
  go_wp2_with fail
  refine (toRung_any A c l x y _ (HN.out _ B1) hs).mono ?_
  rintro e w2 ⟨A2, c2, rfl, hO2, hb2⟩
  have B2 := B1.trans (hb2.mono B1.size)
  have m2 := (hb2.block _ (blk_lt m1)).trans m1
  clear hb2 a0 a1 a2 m1 B1
  go_wp2_with fail
  refine (sRungValid_any _ ⟨l, x, y⟩ bits _ (OwnN.rung hO2 HF.out hs HX.out)).mono ?_
  rintro e w3 ⟨rfl, hb3⟩
  have B3 := B2.trans (hb3.mono B2.size)
  have m3 := (hb3.block _ (blk_lt m2)).trans m2
  clear hb3 hO2 m2 B2
  obtain ⟨a0, a1, a2⟩ := blk3k m3
  go_wp2_with fail
  refine (toRung_any A c l x y _ (HN.out _ B3) hs).mono ?_
  rintro e w4 ⟨A4, c4, rfl, hO4, hb4⟩
  have B4 := B3.trans (hb4.mono B3.size)
  have m4 := (hb4.block _ (blk_lt m3)).trans m3
  have x5 := heap_alloc_new w4 (.cells #[.slice A4 l.length c4, .int .i64 x, .int .i64 y] 25)
  have b5 : Below w4.heap.size w4 (w4.alloc (.cells #[.slice A4 l.length c4, .int .i64 x, .int .i64 y] 25)) := (Below.refl _ _).alloc (Nat.le_refl _) _
  have m5 := (b5.block _ (blk_lt m4)).trans m4
  have B5 := B4.trans (b5.mono B4.size)
  have hO5 : OwnN _ w3.heap.size (.slice A4 l.length c4) l := own_below hO4 b5
  clear hb4 a0 a1 a2 m3 B3 m4 B4 b5 hO4
  go_wp2_with fail
  refine (iRungValid_any _ ⟨l, x, y⟩ bits _ (OwnN.rung hO5 HF.out hs HX.out)).mono ?_
  rintro e w6 ⟨rfl, hb6⟩
  have B6 := B5.trans (hb6.mono B5.size)
  have m6 := (hb6.block _ (blk_lt m5)).trans m5
  have x6 := (hb6.block _ (blk_lt x5)).trans x5
  have HO6 := Lib.hid (fun (w' : World) (hb : Below w6.heap.size w6 w') => OwnN.rung (own_below (own_below hO5 hb6) hb : OwnN w' w3.heap.size _ l) HF.out hs HX.out)
  clear hb6 hO5 m5 x5 B5
  obtain ⟨a0, a1, a2⟩ := blk3k m6
  obtain ⟨c0, c1, c2'⟩ := blk3k x6
  have D6 : Below w6.heap.size w6 w6.drew := (Below.refl _ _).drew
  go_wp2_with fail
  go_region_held3 (fun w' => (w'.cell? ⟨W.heap.size, 0, none⟩ = some (.slice A l.length c) ∧ w'.cell? ⟨W.heap.size, 1, none⟩ = some (.int .i64 x) ∧ w'.cell? ⟨W.heap.size, 2, none⟩ = some (.int .i64 y)) ∧ w'.cell? ⟨w4.heap.size, 0, none⟩ = some (.slice A4 l.length c4) ∧ w'.cell? ⟨w4.heap.size, 1, none⟩ = some (.int .i64 x) ∧ w'.cell? ⟨w4.heap.size, 2, none⟩ = some (.int .i64 y)) (first | go_keep)
    (first
      | (go_at_call 56; have tell := hO7; (with_reducible refine (eqRung_same _ _ ⟨l, x, y⟩ _ (HO6.out _ D7) (OwnN.rung hO7 HF.out hs HX.out)).mono ?_); rintro e w8 ⟨rfl, hb8⟩; have m8 := (hb8.block _ (blk_lt m7)).trans m7; have x8 := (hb8.block _ (blk_lt x7)).trans x7; have B8 := B7.trans (hb8.mono B7.size); obtain ⟨s0, s1, s2⟩ := blk3k m8; obtain ⟨s3, s4, s5⟩ := blk3k x8)
      | (go_at_call 55; (with_reducible refine (toRung_any A c l x y _ (HN.out _ (B6.drew)) hs).mono ?_); rintro e w7 ⟨A7, c7, rfl, hO7, hb7⟩; have D7 := D6.trans (hb7.mono D6.size); have m7 := (D7.block _ (blk_lt m6)).trans m6; have x7 := (D7.block _ (blk_lt x6)).trans x6; have B7 := B6.trans (D7.mono B6.size); obtain ⟨t0, t1, t2⟩ := blk3k m7; obtain ⟨t3, t4, t5⟩ := blk3k x7))
  go_wp2
  go_ret
  exact ⟨rfl, B8⟩
theorem FnExactRungsIndependent_long (A : Option Addr) (n c : Nat) (x y : Int) (B : Option Addr) (m d : Nat) (u v : Int) (w : World) (hn : n ≤ 9223372036854775807) (_hx : fit64 x ∧ fit64 y) (hm : m ≤ 9223372036854775807) (_hu : fit64 u ∧ fit64 v) (hs : 1048576 < n + m) :
    Calls Try.prog 16 #[.agg #[.slice A n c, .int .i64 x, .int .i64 y], .agg #[.slice B m d, .int .i64 u, .int .i64 v]] w (LawPost w) := by
  have m0 := blk_alloc (heap_alloc_new w (.cells #[.slice A n c, .int .i64 x, .int .i64 y] 67)) (.cells #[.slice B m d, .int .i64 u, .int .i64 v] 67)
  have r0 := heap_alloc_new (w.alloc (.cells #[.slice A n c, .int .i64 x, .int .i64 y] 67)) (.cells #[.slice B m d, .int .i64 u, .int .i64 v] 67)
  simp only [World.size_alloc] at r0
  have B0 := ((Below.refl w.heap.size w).alloc (Nat.le_refl _) (.cells #[.slice A n c, .int .i64 x, .int .i64 y] 67)).alloc (by simp) (.cells #[.slice B m d, .int .i64 u, .int .i64 v] 67)
  by_cases h1 : 1048576 < n
  · go_enter Try.func16, Try.ntmps16
    go_wp2_with fail
    refine (szRung_over _ n _ _ _ 1048576 _ hn (by omega)).mono ?_
    rintro e w1 ⟨rfl, hb⟩
    go_wp2
    go_ret
    exact ⟨rfl, B0.trans (hb.mono B0.size)⟩
  · have q0 : 0 ≤ 1048576 - (n : Int) := by omega
    go_enter Try.func16, Try.ntmps16
    go_wp2_with fail
    refine (szRung_in _ n _ _ _ 1048576 _ (by omega)).mono ?_
    rintro e w1 ⟨rfl, hb⟩
    have B1 := B0.trans (hb.mono B0.size)
    have r1 := (hb.block _ (blk_lt r0)).trans r0
    obtain ⟨b0, b1, b2⟩ := blk3k r1
    clear hb B0 r0 m0 r1
    go_wp2_with fail
    refine (szRung_over _ m _ _ _ (1048576 - (n : Int)) _ hm (by omega)).mono ?_
    rintro e w2 ⟨rfl, hb⟩
    go_wp2
    go_ret
    exact ⟨rfl, B1.trans (hb.mono B1.size)⟩
set_option maxRecDepth 100000 in
set_option maxHeartbeats 4000000 in
theorem FnExactRungsIndependent_core (A : Option Addr) (c : Nat) (x y : Int) (l : List Nd) (B : Option Addr) (d : Nat) (u v : Int) (k : List Nd) (W : World) (h : NodesR W W.heap.size (.slice A l.length c) l) (h' : NodesR W W.heap.size (.slice B k.length d) k) (hx : fit64 x ∧ fit64 y) (hu : fit64 u ∧ fit64 v) (hs : l.length + k.length ≤ 1048576) :
    Calls Try.prog 16 #[.agg #[.slice A l.length c, .int .i64 x, .int .i64 y], .agg #[.slice B k.length d, .int .i64 u, .int .i64 v]] W (LawPost W) := by
  have HN := Lib.hid (fun (w' : World) (hb : Below W.heap.size W w') => h.below hb)
  have HM := Lib.hid (fun (w' : World) (hb : Below W.heap.size W w') => h'.below hb)
  have HF := Lib.hid h.fitL
  have HG := Lib.hid h'.fitL
  have HX := Lib.hid hx
  have HU := Lib.hid hu
  clear h h' hx hu
  have hs1 : l.length ≤ 1048576 := by omega
  have hs2 : k.length ≤ 1048576 := by omega
  have m0 := blk_alloc (heap_alloc_new W (.cells #[.slice A l.length c, .int .i64 x, .int .i64 y] 67)) (.cells #[.slice B k.length d, .int .i64 u, .int .i64 v] 67)
  have r0 := heap_alloc_new (W.alloc (.cells #[.slice A l.length c, .int .i64 x, .int .i64 y] 67)) (.cells #[.slice B k.length d, .int .i64 u, .int .i64 v] 67)
  simp only [World.size_alloc] at r0
  have B0 := ((Below.refl W.heap.size W).alloc (Nat.le_refl _) (.cells #[.slice A l.length c, .int .i64 x, .int .i64 y] 67)).alloc (by simp) (.cells #[.slice B k.length d, .int .i64 u, .int .i64 v] 67)
  have q0 : 0 ≤ 1048576 - (l.length : Int) := by omega
  have q1 : 0 ≤ 1048576 - (l.length : Int) - (k.length : Int) := by omega
  go_enter Try.func16, Try.ntmps16
  go_wp2_with fail
  refine (szRung_in _ l.length _ _ _ 1048576 _ (by omega)).mono ?_
  rintro e w1 ⟨rfl, hb1⟩
  have B1 := B0.trans (hb1.mono B0.size)
  have m1 := (hb1.block _ (blk_lt m0)).trans m0
  have r1 := (hb1.block _ (blk_lt r0)).trans r0
  clear hb1 B0 m0 r0
  obtain ⟨b0, b1, b2⟩ := blk3k r1
  go_wp2_with fail
  refine (szRung_in _ k.length _ _ _ (1048576 - (l.length : Int)) _ (by omega)).mono ?_
  rintro e w2 ⟨rfl, hb2⟩
  have B2 := B1.trans (hb2.mono B1.size)
  have m2 := (hb2.block _ (blk_lt m1)).trans m1
  have r2 := (hb2.block _ (blk_lt r1)).trans r1
  clear hb2 B1 m1 r1 b0 b1 b2
  have Ca := Lib.hid (fun (V : World) (hb : Below w2.heap.size w2 V) => blk3k ((hb.block _ (blk_lt m2)).trans m2))
  have Cb := Lib.hid (fun (V : World) (hb : Below w2.heap.size w2 V) => blk3k ((hb.block _ (blk_lt r2)).trans r2))
  have Bw := Lib.hid (fun (V : World) (hb : Below w2.heap.size w2 V) => B2.trans (hb.mono B2.size))
  have l1 := blk_lt r2
  clear m2 r2 B2
  have R2 : Below w2.heap.size w2 w2 := Below.refl _ _
  have D2 := R2.drew
  obtain ⟨a0, a1, a2⟩ := Ca.out w2 R2
  obtain ⟨b0, b1, b2⟩ := Cb.out w2 R2
  go_wp2_with fail
  go_region_held3 (fun w' => (w'.cell? ⟨W.heap.size, 0, none⟩ = some (.slice A l.length c) ∧ w'.cell? ⟨W.heap.size, 1, none⟩ = some (.int .i64 x) ∧ w'.cell? ⟨W.heap.size, 2, none⟩ = some (.int .i64 y)) ∧ (w'.cell? ⟨W.heap.size + 1, 0, none⟩ = some (.slice B k.length d) ∧ w'.cell? ⟨W.heap.size + 1, 1, none⟩ = some (.int .i64 u) ∧ w'.cell? ⟨W.heap.size + 1, 2, none⟩ = some (.int .i64 v))) (first | go_keep)
    (first
      | (go_at_call 41; have tell := hO4; (with_reducible refine (sRungsIndependent_any _ _ ⟨l, x, y⟩ ⟨k, u, v⟩ _ RA4 RB4).mono ?_); rintro e w5 ⟨rfl, hb5⟩; have D5 := D4.trans (hb5.mono D4.size); obtain ⟨s0, s1, s2⟩ := Ca.out w5 D5; obtain ⟨s3, s4, s5⟩ := Cb.out w5 D5)
      | (go_at_call 55; have tell := hO3; (with_reducible refine (toRung_any B d k u v _ (HM.out _ (Bw.out _ D3)) hs2).mono ?_); rintro e w4 ⟨B4, d4, rfl, hO4, hb4⟩; have D4 := D3.trans (hb4.mono D3.size); have RA4 := OwnN.rung (own_below hO3 hb4 : OwnN w4 w2.drew.heap.size _ l) HF.out hs1 HX.out; have RB4 := OwnN.rung hO4 HG.out hs2 HU.out; obtain ⟨t0, t1, t2⟩ := Ca.out w4 D4; obtain ⟨t3, t4, t5⟩ := Cb.out w4 D4)
      | (go_at_call 55; (with_reducible refine (toRung_any A c l x y _ (HN.out _ (Bw.out _ D2)) hs1).mono ?_); rintro e w3 ⟨A3, c3, rfl, hO3, hb3⟩; have D3 := D2.trans (hb3.mono D2.size); obtain ⟨g0, g1, g2⟩ := Ca.out w3 D3; obtain ⟨g3, g4, g5⟩ := Cb.out w3 D3))
  clear a0 a1 a2 b0 b1 b2 g0 g1 g2 g3 g4 g5 t0 t1 t2 t3 t4 t5 hO3 hO4 hb3 hb4 hb5 D3 D4 D2 R2 RA4 RB4
  go_wp2_with fail
  refine (toRung_any A c l x y _ (HN.out _ (Bw.out _ D5)) hs1).mono ?_
  rintro e w6 ⟨A6, c6, rfl, hO6, hb6⟩
  have D6 := D5.trans (hb6.mono D5.size)
  have x6 := heap_alloc_new w6 (.cells #[.slice A6 l.length c6, .int .i64 x, .int .i64 y] 25)
  have e6 : Below w6.heap.size w6 (w6.alloc (.cells #[.slice A6 l.length c6, .int .i64 x, .int .i64 y] 25)) := (Below.refl _ _).alloc (Nat.le_refl _) _
  have E6 := D6.trans (e6.mono D6.size)
  have O6 : OwnN _ w5.heap.size (.slice A6 l.length c6) l := own_below hO6 e6
  clear s0 s1 s2 s3 s4 s5 hb6 hO6 D5 D6 e6
  obtain ⟨b0, b1, b2⟩ := Cb.out _ E6
  go_wp2_with fail
  refine (toRung_any B d k u v _ (HM.out _ (Bw.out _ E6)) hs2).mono ?_
  rintro e w7 ⟨B7, d7, rfl, hO7, hb7⟩
  have D7 := E6.trans (hb7.mono E6.size)
  have O7 : OwnN w7 w5.heap.size (.slice A6 l.length c6) l := own_below O6 hb7
  have x7 := (hb7.block _ (blk_lt x6)).trans x6
  have e7 : Below w7.heap.size w7 (w7.alloc (.cells #[.slice B7 k.length d7, .int .i64 u, .int .i64 v] 25)) := (Below.refl _ _).alloc (Nat.le_refl _) _
  have y8 := heap_alloc_new w7 (.cells #[.slice B7 k.length d7, .int .i64 u, .int .i64 v] 25)
  have x8 := (e7.block _ (blk_lt x7)).trans x7
  have E7 := D7.trans (e7.mono D7.size)
  have P7 : OwnN _ w5.heap.size (.slice A6 l.length c6) l := own_below O7 e7
  have Q7 : OwnN _ _ (.slice B7 k.length d7) k := own_below hO7 e7
  clear b0 b1 b2 hb7 hO7 D7 e7 E6 O6 O7 x6 x7
  obtain ⟨b0, b1, b2⟩ := blk3k x8
  go_wp2_with fail
  refine (iRungsIndependent_any _ _ ⟨l, x, y⟩ ⟨k, u, v⟩ _ (OwnN.rung P7 HF.out hs1 HX.out) (OwnN.rung Q7 HG.out hs2 HU.out)).mono ?_
  rintro e w9 ⟨rfl, hb9⟩
  have E9 := E7.trans (hb9.mono E7.size)
  have x9 := (hb9.block _ (blk_lt x8)).trans x8
  have y9 := (hb9.block _ (blk_lt y8)).trans y8
  have HP := Lib.hid (fun (V : World) (hb : Below w9.heap.size w9 V) => OwnN.rung (own_below (own_below P7 hb9) hb : OwnN V w5.heap.size _ l) HF.out hs1 HX.out)
  have HQ := Lib.hid (fun (V : World) (hb : Below w9.heap.size w9 V) => OwnN.rung (own_below (own_below Q7 hb9) hb : OwnN V _ _ k) HG.out hs2 HU.out)
  have Cx := Lib.hid (fun (V : World) (hb : Below w9.heap.size w9 V) => blk3k ((hb.block _ (blk_lt x9)).trans x9))
  have Cy := Lib.hid (fun (V : World) (hb : Below w9.heap.size w9 V) => blk3k ((hb.block _ (blk_lt y9)).trans y9))
  have Fa := Lib.hid (fun (V : World) (hb : Below w9.heap.size w9 V) => Ca.out V (E9.trans (hb.mono E9.size)))
  have Fb := Lib.hid (fun (V : World) (hb : Below w9.heap.size w9 V) => Cb.out V (E9.trans (hb.mono E9.size)))
  have Fw := Lib.hid (fun (V : World) (hb : Below w9.heap.size w9 V) => Bw.out V (E9.trans (hb.mono E9.size)))
  clear b0 b1 b2 hb9 E7 E9 x8 y8 x9 y9 P7 Q7
  have R9 : Below w9.heap.size w9 w9 := Below.refl _ _
  have D9 := R9.drew
  obtain ⟨a0, a1, a2⟩ := Fa.out w9 R9
  obtain ⟨b0, b1, b2⟩ := Fb.out w9 R9
  obtain ⟨c0, c1, c2⟩ := Cx.out w9 R9
  obtain ⟨d0, d1, d2⟩ := Cy.out w9 R9
  go_wp2_with fail
  go_region_held3 (fun w' => ((w'.cell? ⟨W.heap.size, 0, none⟩ = some (.slice A l.length c) ∧ w'.cell? ⟨W.heap.size, 1, none⟩ = some (.int .i64 x) ∧ w'.cell? ⟨W.heap.size, 2, none⟩ = some (.int .i64 y)) ∧ (w'.cell? ⟨W.heap.size + 1, 0, none⟩ = some (.slice B k.length d) ∧ w'.cell? ⟨W.heap.size + 1, 1, none⟩ = some (.int .i64 u) ∧ w'.cell? ⟨W.heap.size + 1, 2, none⟩ = some (.int .i64 v))) ∧ (w'.cell? ⟨w6.heap.size, 0, none⟩ = some (.slice A6 l.length c6) ∧ w'.cell? ⟨w6.heap.size, 1, none⟩ = some (.int .i64 x) ∧ w'.cell? ⟨w6.heap.size, 2, none⟩ = some (.int .i64 y)) ∧ (w'.cell? ⟨w7.heap.size, 0, none⟩ = some (.slice B7 k.length d7) ∧ w'.cell? ⟨w7.heap.size, 1, none⟩ = some (.int .i64 u) ∧ w'.cell? ⟨w7.heap.size, 2, none⟩ = some (.int .i64 v))) (first | go_keep)
    (first
      | (go_at_call 56; have tell := hO10; (with_reducible refine (eqRung_same _ _ ⟨l, x, y⟩ _ (HP.out _ D10) (OwnN.rung hO10 HF.out hs1 HX.out)).mono ?_); rintro e w11 ⟨rfl, hb11⟩; have D11 := D10.trans (hb11.mono D10.size); obtain ⟨s0, s1, s2⟩ := Fa.out w11 D11; obtain ⟨s3, s4, s5⟩ := Fb.out w11 D11; obtain ⟨s6, s7, s8⟩ := Cx.out w11 D11; obtain ⟨s9, s10, s11⟩ := Cy.out w11 D11)
      | (go_at_call 55; (with_reducible refine (toRung_any A c l x y _ (HN.out _ (Fw.out _ D9)) hs1).mono ?_); rintro e w10 ⟨A10, c10, rfl, hO10, hb10⟩; have D10 := D9.trans (hb10.mono D9.size); obtain ⟨g0, g1, g2⟩ := Fa.out w10 D10; obtain ⟨g3, g4, g5⟩ := Fb.out w10 D10; obtain ⟨g6, g7, g8⟩ := Cx.out w10 D10; obtain ⟨g9, g10, g11⟩ := Cy.out w10 D10))
  have D12 := D11.drew
  clear a0 a1 a2 b0 b1 b2 c0 c1 c2 d0 d1 d2 g0 g1 g2 g3 g4 g5 g6 g7 g8 g9 g10 g11 D9 R9 D10 hO10 hb10 hb11
  go_wp2_with fail
  go_region_held3 (fun w' => ((w'.cell? ⟨W.heap.size, 0, none⟩ = some (.slice A l.length c) ∧ w'.cell? ⟨W.heap.size, 1, none⟩ = some (.int .i64 x) ∧ w'.cell? ⟨W.heap.size, 2, none⟩ = some (.int .i64 y)) ∧ (w'.cell? ⟨W.heap.size + 1, 0, none⟩ = some (.slice B k.length d) ∧ w'.cell? ⟨W.heap.size + 1, 1, none⟩ = some (.int .i64 u) ∧ w'.cell? ⟨W.heap.size + 1, 2, none⟩ = some (.int .i64 v))) ∧ (w'.cell? ⟨w6.heap.size, 0, none⟩ = some (.slice A6 l.length c6) ∧ w'.cell? ⟨w6.heap.size, 1, none⟩ = some (.int .i64 x) ∧ w'.cell? ⟨w6.heap.size, 2, none⟩ = some (.int .i64 y)) ∧ (w'.cell? ⟨w7.heap.size, 0, none⟩ = some (.slice B7 k.length d7) ∧ w'.cell? ⟨w7.heap.size, 1, none⟩ = some (.int .i64 u) ∧ w'.cell? ⟨w7.heap.size, 2, none⟩ = some (.int .i64 v))) (first | go_keep)
    (first
      | (go_at_call 56; have tell := hO13; (with_reducible refine (eqRung_same _ _ ⟨k, u, v⟩ _ (HQ.out _ D13) (OwnN.rung hO13 HG.out hs2 HU.out)).mono ?_); rintro e w14 ⟨rfl, hb14⟩; have D14 := D13.trans (hb14.mono D13.size); obtain ⟨r0, r1, r2⟩ := Fa.out w14 D14; obtain ⟨r3, r4, r5⟩ := Fb.out w14 D14; obtain ⟨r6, r7, r8⟩ := Cx.out w14 D14; obtain ⟨r9, r10, r11⟩ := Cy.out w14 D14)
      | (go_at_call 55; (with_reducible refine (toRung_any B d k u v _ (HM.out _ (Fw.out _ D12)) hs2).mono ?_); rintro e w13 ⟨A13, c13, rfl, hO13, hb13⟩; have D13 := D12.trans (hb13.mono D12.size); obtain ⟨g0, g1, g2⟩ := Fa.out w13 D13; obtain ⟨g3, g4, g5⟩ := Fb.out w13 D13; obtain ⟨g6, g7, g8⟩ := Cx.out w13 D13; obtain ⟨g9, g10, g11⟩ := Cy.out w13 D13))
  go_wp2
  go_ret
  exact ⟨rfl, Fw.out _ D14⟩
end Go.Proofs.Ytlpoeijjlkdceaa
