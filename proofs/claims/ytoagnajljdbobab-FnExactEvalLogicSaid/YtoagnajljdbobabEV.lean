/- The exact law of EvalLogic: its walk. -/
import Derived.Test.YtoagnajljdbobabED
import Derived.Test.YtoagnajljdbobabEO
import Derived.Test.YtoagnajljdbobabSq
import Derived.Test.YtoagnajljdbobabIv
namespace Go.Proofs.Ytoagnajljdbobab
open Go.RowKit
attribute [local go_sem ↓] Go.wp_at_zero Go.wp_at_succ

theorem fine_of2 {W : World} {B : Nat} {v : Value} {m : Img} (h : ImgR W B v m) (hs : m.bits.length + m.words.length ≤ 1048576) : fineM m := by
  obtain ⟨v1, v2, -, -, -, -, -, -, hx⟩ := h
  exact ⟨by omega, by omega, hx.2⟩
theorem OwnM.img2 {w : World} {lo : Nat} {v : Value} {m : Img} (h : OwnM w lo v m) (hm : fineM m) : ImgR w w.heap.size v m := (OwnMX.of h).read hm
set_option maxHeartbeats 2000000 in
theorem FnExactEvalLogic_core (A1 : Option Addr) (c1 : Nat) (A2 : Option Addr) (c2 : Nat) (m : Img) (A : Option Addr) (c : Nat) (l : List Nd) (W : World) (h : ImgR W W.heap.size (.agg #[.slice A1 m.bits.length c1, .slice A2 m.words.length c2]) m) (hn : NodesR W W.heap.size (.slice A l.length c) l) (hs : m.bits.length + m.words.length + l.length ≤ 1048576) :
    Calls Try.prog 3 #[.agg #[.slice A1 m.bits.length c1, .slice A2 m.words.length c2], .slice A l.length c] W (LawPost W) := by
  have hm := fine_of2 h (by omega)
  have hA := HA.new h
  have HN := Lib.hid (fun (w' : World) (hb : Below W.heap.size W w') => hn.below hb)
  have HF := Lib.hid (show ∀ x ∈ l, ndFit x by obtain ⟨_, _, _, _, _, hf⟩ := hn; exact hf)
  have hs' : (m.bits.length : Int) + (m.words.length : Int) + (l.length : Int) ≤ 1048576 := by omega
  clear h hn
  go_enter Try.func3, Try.ntmps3
  obtain ⟨pA0, pA1⟩ := hA.cells
  have q2 := hA.lt
  go_wp2_with fail
  refine (szImage_in _ _ _ _ _ _ 1048576 _ (by omega) (by omega)).mono ?_
  rintro e w1 ⟨rfl, hb1⟩
  have zhb1 := hb1.size
  clear pA0 pA1
  have hA3 := hA.below hb1
  clear hA
  go_wp2_with fail
  refine (szN_in _ _ _ (1048576 - (m.bits.length : Int) - (m.words.length : Int)) _ (by omega)).mono ?_
  rintro e w4 ⟨rfl, hw4⟩
  subst hw4
  obtain ⟨pA0, pA1⟩ := hA3.cells
  have q6 := hA3.lt
  go_wp2_with fail
  refine (toImage_any _ m _ hA3.img).mono ?_
  rintro e w5 ⟨u1, rfl, hO1, hb5⟩
  have zhb5 := hb5.size
  clear pA0 pA1
  have hA7 := hA3.below hb5
  clear hA3
  have q9 := hA7.lt
  go_wp2_with fail
  refine (xnp (toNodeS_any _ l _ (HN.out _ hA7.bel) (by omega))).mono ?_
  rintro e w8 ⟨⟨uA, uc, rfl, hu⟩, hb8⟩
  have zhb8 := hb8.size
  have hA10 := hA7.below hb8
  clear hA7
  have q12 := hA10.lt
  go_wp2_with fail
  refine (sEvalLogic_any _ _ m l _ ((hO1.img2 hm).below hb8) (XN.read hu (by omega) HF.out)).mono ?_
  rintro e w11 ⟨rfl, hb11⟩
  have zhb11 := hb11.size
  have hA13 := hA10.below hb11
  clear hA10
  clear hO1 hu
  obtain ⟨pA0, pA1⟩ := hA13.cells
  have q15 := hA13.lt
  go_wp2_with fail
  refine (toImage_any _ m _ hA13.img).mono ?_
  rintro e w14 ⟨u2, rfl, hO2, hb14⟩
  have zhb14 := hb14.size
  clear pA0 pA1
  have hA16 := hA13.below hb14
  clear hA13
  obtain ⟨xA, xa, xB, xb, rfl, -, -⟩ := hO2.form
  have hx17 := HO.new hO2
  have hA18 := hA16.below ((Below.refl _ _).alloc (Nat.le_refl _) (.cells #[.slice xA (m).bits.length xa, .slice xB (m).words.length xb] 30))
  clear hA16
  have lx := hx17.lt
  have sx : w14.heap.size < (w14.alloc (.cells #[.slice xA (m).bits.length xa, .slice xB (m).words.length xb] 30)).heap.size := by simp
  clear hO2
  have q20 := hA18.lt
  have q21 := hx17.lt
  go_wp2_with fail
  refine (xnp (toNodeS_any _ l _ (HN.out _ hA18.bel) (by omega))).mono ?_
  rintro e w19 ⟨⟨xnA, xnc, rfl, hxn⟩, hb19⟩
  have zhb19 := hb19.size
  have hA22 := hA18.below hb19
  have hx23 := hx17.below hb19
  clear hA18 hx17
  obtain ⟨px0, px1⟩ := hx23.cells
  have q25 := hA22.lt
  have q26 := hx23.lt
  have q27 := hxn.lt
  go_wp2_with fail
  refine (iEvalLogic_any _ _ m l _ (hx23.own.read hm) (XN.read hxn (by omega) HF.out)).mono ?_
  rintro e w24 ⟨rfl, hb24⟩
  have zhb24 := hb24.size
  clear px0 px1
  have hA28 := hA22.below hb24
  have hx29 := hx23.below hb24
  have hn30 := hxn.below hb24
  clear hA22 hx23 hxn
  obtain ⟨px0, px1⟩ := hx29.cells
  obtain ⟨pA0, pA1⟩ := hA28.cells
  have q31 := hA28.lt
  have q32 := hx29.lt
  have q33 := hn30.lt
  go_wp2_with fail
  have hA28d := hA28.below ((Below.refl _ _).drew)
  have hx29d := hx29.below ((Below.refl _ _).drew)
  have hn30d := hn30.below ((Below.refl _ _).drew)
  go_region_held3 (fun w' => w'.cell? ⟨w14.heap.size, 0, none⟩ = some (.slice xA m.bits.length xa) ∧ w'.cell? ⟨w14.heap.size, 1, none⟩ = some (.slice xB m.words.length xb) ∧ w'.cell? ⟨W.heap.size, 0, none⟩ = some (.slice A1 m.bits.length c1) ∧ w'.cell? ⟨W.heap.size, 1, none⟩ = some (.slice A2 m.words.length c2)) (first | exact ⟨px0, px1, pA0, pA1⟩ | go_keep)
    (first
      | (go_at_call 7; refine (toImage_any _ m _ hA28d.img).mono ?_; rintro e wE ⟨uE, rfl, hOE, hbE⟩; obtain ⟨EA, Ea, EB, Eb, rfl, -, -⟩ := hOE.form; have hA28e := hA28d.below hbE; have hx29e := hx29d.below hbE; have hn30e := hn30d.below hbE; clear px0 px1 pA0 pA1; obtain ⟨px0, px1⟩ := hx29e.cells; obtain ⟨pA0, pA1⟩ := hA28e.cells)
      | (go_at_call 10; refine (eqImage_same _ _ m _ (hx29e.own.read hm) (hOE.img2 hm)).mono ?_; rintro e wF ⟨rfl, hbF⟩; have hA28f := hA28e.below hbF; have hx29f := hx29e.below hbF; have hn30f := hn30e.below hbF; clear px0 px1 pA0 pA1; obtain ⟨px0, px1⟩ := hx29f.cells; obtain ⟨pA0, pA1⟩ := hA28f.cells))
  clear hA28 hx29 hn30
  clear hA28d hx29d hn30d
  clear hA28e hx29e hn30e
  clear hOE hbE hbF
  have q35 := hA28f.lt
  have q36 := hx29f.lt
  have q37 := hn30f.lt
  go_wp2_with fail
  refine (xnp (toNodeS_any _ l _ (HN.out _ hA28f.bel) (by omega))).mono ?_
  rintro e w34 ⟨⟨yA, yc, rfl, hy⟩, hb34⟩
  have zhb34 := hb34.size
  clear px0 px1 pA0 pA1
  have hA38 := hA28f.below hb34
  have hx39 := hx29f.below hb34
  have hn40 := hn30f.below hb34
  clear hA28f hx29f hn30f
  have q42 := hA38.lt
  have q43 := hx39.lt
  have q44 := hn40.lt
  go_wp2_with fail
  refine (eqN_same _ _ l _ (XN.read hn40 (by omega) HF.out) (XN.read hy (by omega) HF.out)).mono ?_
  rintro e w41 ⟨rfl, hb41⟩
  have zhb41 := hb41.size
  have hA45 := hA38.below hb41
  have hx46 := hx39.below hb41
  have hn47 := hn40.below hb41
  clear hA38 hx39 hn40
  go_wp2
  go_ret
  exact ⟨rfl, hA45.bel⟩

theorem FnExactEvalLogic_long (A1 : Option Addr) (n1 c1 : Nat) (A2 : Option Addr) (n2 c2 : Nat) (A : Option Addr) (n c : Nat) (w : World) (hn1 : n1 ≤ 9223372036854775807) (hn2 : n2 ≤ 9223372036854775807) (hn : n ≤ 9223372036854775807) (hs : 1048576 < n + n1 + n2) :
    Calls Try.prog 3 #[.agg #[.slice A1 n1 c1, .slice A2 n2 c2], .slice A n c] w (LawPost w) := by
  by_cases hs : 1048576 < n1 + n2
  · go_enter Try.func3, Try.ntmps3
    go_wp2_with fail
    refine (szImage_over _ _ _ _ _ _ 1048576 _ (by omega) hn1 hn2 (by omega)).mono ?_
    rintro e w1 ⟨rfl, hb⟩
    go_wp2
    go_ret
    exact ⟨rfl, ((Below.refl _ _).alloc (Nat.le_refl _) _).trans (hb.mono (by simp))⟩
  · have i1 : (n1 : Int) + (n2 : Int) ≤ 1048576 := by omega
    go_enter Try.func3, Try.ntmps3
    go_wp2_with fail
    refine (szImage_in _ _ _ _ _ _ 1048576 _ (by omega) (by omega)).mono ?_
    rintro e w1 ⟨rfl, hb⟩
    have B1 : Below w.heap.size w w1 := ((Below.refl _ _).alloc (Nat.le_refl _) _).trans (hb.mono (by simp))
    clear hb
    go_wp2_with fail
    refine (szN_over _ _ _ (1048576 - (n1 : Int) - (n2 : Int)) _ hn (by omega)).mono ?_
    rintro e w2 ⟨rfl, hw⟩
    subst hw
    go_wp2
    go_ret
    exact ⟨rfl, B1⟩
end Go.Proofs.Ytoagnajljdbobab
