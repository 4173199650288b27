/- The exact laws of chapter 1 over one image: their walks. -/
import Derived.Test.YtoagnajljdbobaaED
import Derived.Test.YtoagnajljdbobaaZ
namespace Go.Proofs.Ytoagnajljdbobaa
open Go.RowKit
attribute [local go_sem ↓] Go.wp_at_zero Go.wp_at_succ

/-- What the law began with is as it was. -/
def HB (W w : World) : Prop := Below W.heap.size W w
theorem HB.below {W w w' : World} (h : HB W w) (hb : Below w.heap.size w w') : HB W w' := Below.trans h (hb.mono (Below.size h))
theorem HB.out {W w w' : World} {lo hi : Nat} (h : HB W w) (ho : Out lo hi w w') (hw : W.heap.size ≤ lo) : HB W w' := Below.trans h (ho.below hw (Below.size h))
theorem HB.lt {W w : World} (h : HB W w) : W.heap.size ≤ w.heap.size := Below.size h
theorem fine_of {W : World} {B : Nat} {v : Value} {m : Img} (h : ImgR W B v m) (hs : m.bits.length + m.words.length ≤ 1048576) : fineM m := by
  obtain ⟨v1, v2, -, -, -, -, -, -, hx⟩ := h
  exact ⟨by omega, by omega, hx.2⟩
theorem OwnM.img {w : World} {lo : Nat} {v : Value} {m : Img} (h : OwnM w lo v m) (hm : fineM m) : ImgR w w.heap.size v m := (OwnMX.of h).read hm
theorem fine_bit {m : Img} (n : Int) (b : Bool) (h : fineM m) : fineM (setBitM m n b) := by
  unfold setBitM
  split
  · refine ⟨?_, h.2.1, h.2.2⟩
    show (if _ then _ else _ : List Bool).length ≤ _
    split
    · simpa using h.1
    · exact h.1
  · exact ⟨by simp, by simp, by simp⟩

theorem FnExactImageValid_long (A1 : Option Addr) (n1 c1 : Nat) (A2 : Option Addr) (n2 c2 : Nat)  (w : World) (hn1 : n1 ≤ 9223372036854775807) (hn2 : n2 ≤ 9223372036854775807) (hs : 1048576 < n1 + n2) :
    Calls Try.prog 8 #[.agg #[.slice A1 n1 c1, .slice A2 n2 c2]] w (LawPost w) := by
  go_enter Try.func8, Try.ntmps8
  go_wp2_with fail
  refine (szImage_over _ _ _ _ _ _ 1048576 _ (by omega) hn1 hn2 (by omega)).mono ?_
  rintro e w1 ⟨rfl, hb⟩
  go_wp2
  go_ret
  exact ⟨rfl, ((Below.refl _ _).alloc (Nat.le_refl _) _).trans (hb.mono (by simp))⟩
set_option maxHeartbeats 2000000 in
theorem FnExactImageValid_core (A1 : Option Addr) (c1 : Nat) (A2 : Option Addr) (c2 : Nat) (m : Img)  (W : World) (h : ImgR W W.heap.size (.agg #[.slice A1 m.bits.length c1, .slice A2 m.words.length c2]) m) (hs : m.bits.length + m.words.length ≤ 1048576) :
    Calls Try.prog 8 #[.agg #[.slice A1 m.bits.length c1, .slice A2 m.words.length c2]] W (LawPost W) := by
  have hm := fine_of h hs
  have hA := HA.new h
  have hs' : (m.bits.length : Int) + (m.words.length : Int) ≤ 1048576 := by omega
  clear h
  go_enter Try.func8, Try.ntmps8
  obtain ⟨pA0, pA1⟩ := hA.cells
  have q2 := hA.lt
  go_wp2_with fail
  refine (szImage_in _ _ _ _ _ _ 1048576 _ (by omega) (by omega)).mono ?_
  rintro e w1 ⟨rfl, hb1⟩
  have zhb1 := hb1.size
  clear pA0 pA1
  have hA3 := hA.below hb1
  clear hA
  obtain ⟨pA0, pA1⟩ := hA3.cells
  have q5 := hA3.lt
  go_wp2_with fail
  refine (toImage_any _ m _ hA3.img).mono ?_
  rintro e w4 ⟨u1, rfl, hO1, hb4⟩
  have zhb4 := hb4.size
  clear pA0 pA1
  have hA6 := hA3.below hb4
  clear hA3
  have q8 := hA6.lt
  go_wp2_with fail
  refine (sImageValid_any _ m _ (hO1.img hm)).mono ?_
  rintro e w7 ⟨rfl, hb7⟩
  have zhb7 := hb7.size
  have hA9 := hA6.below hb7
  clear hA6
  clear hO1
  obtain ⟨pA0, pA1⟩ := hA9.cells
  have q11 := hA9.lt
  go_wp2_with fail
  refine (toImage_any _ m _ hA9.img).mono ?_
  rintro e w10 ⟨u2, rfl, hO2, hb10⟩
  have zhb10 := hb10.size
  clear pA0 pA1
  have hA12 := hA9.below hb10
  clear hA9
  obtain ⟨xA, xa, xB, xb, rfl, -, -⟩ := hO2.form
  have hx13 := HO.new hO2
  have hA14 := hA12.below ((Below.refl _ _).alloc (Nat.le_refl _) (.cells #[.slice xA (m).bits.length xa, .slice xB (m).words.length xb] 26))
  clear hA12
  have lx := hx13.lt
  have sx : w10.heap.size < (w10.alloc (.cells #[.slice xA (m).bits.length xa, .slice xB (m).words.length xb] 26)).heap.size := by simp
  clear hO2
  obtain ⟨px0, px1⟩ := hx13.cells
  have q16 := hA14.lt
  have q17 := hx13.lt
  go_wp2_with fail
  refine (iImageValid_any _ m _ (hx13.own.read hm)).mono ?_
  rintro e w15 ⟨rfl, hb15⟩
  have zhb15 := hb15.size
  clear px0 px1
  have hA18 := hA14.below hb15
  have hx19 := hx13.below hb15
  clear hA14 hx13
  obtain ⟨px0, px1⟩ := hx19.cells
  obtain ⟨pA0, pA1⟩ := hA18.cells
  go_wp2_with fail
  have hA18d := hA18.below ((Below.refl _ _).drew)
  have hx19d := hx19.below ((Below.refl _ _).drew)
  go_region_held3 (fun w' => w'.cell? ⟨w10.heap.size, 0, none⟩ = some (.slice xA m.bits.length xa) ∧ w'.cell? ⟨w10.heap.size, 1, none⟩ = some (.slice xB m.words.length xb) ∧ w'.cell? ⟨W.heap.size, 0, none⟩ = some (.slice A1 m.bits.length c1) ∧ w'.cell? ⟨W.heap.size, 1, none⟩ = some (.slice A2 m.words.length c2)) (first | exact ⟨px0, px1, pA0, pA1⟩ | go_keep)
    (first
      | (go_at_call 42; refine (toImage_any _ m _ hA18d.img).mono ?_; rintro e wE ⟨uE, rfl, hOE, hbE⟩; obtain ⟨EA, Ea, EB, Eb, rfl, -, -⟩ := hOE.form; have hA18e := hA18d.below hbE; have hx19e := hx19d.below hbE; clear px0 px1 pA0 pA1; obtain ⟨px0, px1⟩ := hx19e.cells; obtain ⟨pA0, pA1⟩ := hA18e.cells)
      | (go_at_call 43; refine (eqImage_same _ _ m _ (hx19e.own.read hm) (hOE.img hm)).mono ?_; rintro e wF ⟨rfl, hbF⟩; have hA18f := hA18e.below hbF; have hx19f := hx19e.below hbF; clear px0 px1 pA0 pA1; obtain ⟨px0, px1⟩ := hx19f.cells; obtain ⟨pA0, pA1⟩ := hA18f.cells))
  clear hA18 hx19
  clear hA18d hx19d
  clear hA18e hx19e
  clear hOE hbE hbF
  go_wp2
  go_ret
  exact ⟨rfl, hA18f.bel⟩

end Go.Proofs.Ytoagnajljdbobaa
