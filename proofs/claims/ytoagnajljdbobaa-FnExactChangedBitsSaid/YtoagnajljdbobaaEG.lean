/- The exact law of ChangedBits: its walk. -/
import Derived.Test.YtoagnajljdbobaaEF
import Derived.Test.YtoagnajljdbobaaCB
namespace Go.Proofs.Ytoagnajljdbobaa
open Go.RowKit
attribute [local go_sem ↓] Go.wp_at_zero Go.wp_at_succ
theorem markImage_wide (v : Value) (m : Img) (k lo hi : Nat) (w : World) (h : OwnMX w lo hi v m) (hm : fineM m) (hk : k ≤ 3000000) (hh : hi ≤ w.heap.size) :
    Calls Try.prog 44 #[v, .int .i64 k] w fun e w' => e = .returned (.int .i64 ((k + m.bits.length + m.words.length : Nat) : Int)) ∧ OwnMX w' lo hi v (markM m k) ∧ Out lo hi w w' := by
  obtain ⟨A1, c1, A2, c2, rfl, h1, h2⟩ := h.form
  obtain ⟨b1, b2, b3⟩ := hm
  have bd : ∀ o, Below w.heap.size w (w.alloc o) := fun o => (Below.refl _ _).alloc (Nat.le_refl _) _
  have F1 := fun o => h1.below (bd o)
  have F2 := fun o => h2.below (bd o)
  clear h h1 h2
  go_enter Try.func44, Try.ntmps44
  go_wp2_with fail
  refine (markBoolS_any _ m.bits k lo hi _ (F1 _) (by omega) (by omega)).mono ?_
  rintro e w1 ⟨rfl, hO1, hu1, hg1⟩
  have hO2 := (F2 _).beside (F1 _) (by decide) rfl (w' := w1) hg1.block
  have O1 : Out lo hi w w1 := (Out.of_below (bd _)).trans hu1
  have hc := cell_of_row w1 w.heap.size 1 _ _ _ ((hu1.block w.heap.size (by simp) (.inr hh)).trans (heap_alloc_new w _))
  simp at hc
  clear F1 F2 hu1 hg1
  go_wp2_with fail
  refine (markIntS_any _ m.words (k + m.bits.length) lo hi _ hO2 (by omega) (by omega)).mono ?_
  rintro e w2 ⟨rfl, hO3, hu2, hg2⟩
  have hO4 := hO1.beside hO2 (by decide) rfl (w' := w2) hg2.block
  go_wp2
  go_ret
  refine ⟨rfl, ⟨_, _, rfl, ?_, ?_⟩, O1.trans hu2⟩
  · show OwnX _ _ _ _ _ _ (markB m.bits.length k).length _
    rw [markB_len]; exact hO4
  · show OwnX _ _ _ _ _ _ (markI m.words.length (k + m.bits.length)).length _
    rw [markI_len]; exact hO3

/-- A list of numbers of the call's own. -/
structure HI (w : World) (lo hi : Nat) (A : Option Addr) (c n : Nat) (l : List Int) : Prop where
  own : OwnX w lo hi 3 1 (.slice A n c) n (l.map (.int .i64))
  le : hi ≤ w.heap.size
  len : l.length = n
section
variable {w w' : World} {lo hi lo2 hi2 c n : Nat} {A : Option Addr} {l : List Int}
theorem HI.new (h : OwnI w lo (.slice A l.length c) l) : HI w lo w.heap.size A c l.length l := ⟨OwnX.of h, Nat.le_refl _, rfl⟩
theorem HI.below (h : HI w lo hi A c n l) (hb : Below w.heap.size w w') : HI w' lo hi A c n l := ⟨h.own.below hb, Nat.le_trans h.le hb.size, h.len⟩
theorem HI.out (h : HI w lo hi A c n l) (ho : Out lo2 hi2 w w') (hd : hi ≤ lo2 ∨ hi2 ≤ lo) : HI w' lo hi A c n l := ⟨h.own.out ho hd, Nat.le_trans h.le ho.size, h.len⟩
theorem HI.lt (h : HI w lo hi A c n l) : hi ≤ w.heap.size := h.le
theorem HI.ints (h : HI w lo hi A c n l) (hl : n ≤ 1048576) (hb : ∀ x ∈ l, -9223372036854775808 ≤ x ∧ x ≤ 9223372036854775807) : IntsR w w.heap.size (.slice A n c) l := by
  have e := h.len
  subst e
  exact OwnI.read h.own.1 (by omega) hb
theorem HI.marked (h : HI w lo hi A c n l) (ho : Out lo hi w w') {k : Nat} (hm : OwnX w' lo hi 3 1 (.slice A n c) n ((markI n k).map (.int .i64))) : HI w' lo hi A c n (markI n k) :=
  ⟨hm, Nat.le_trans h.le ho.size, markI_len _ _⟩
end
theorem markI_bound {n k : Nat} (hn : n ≤ 1048576) (hk : k ≤ 1000000) : ∀ x ∈ markI n k, -9223372036854775808 ≤ x ∧ x ≤ 9223372036854775807 := by
  intro x hx
  simp only [markI, List.mem_map, List.mem_range] at hx
  obtain ⟨i, hi, rfl⟩ := hx
  omega
theorem HA.new2 {W : World} {A1 A2 : Option Addr} {c1 c2 : Nat} {m : Img} (h : ImgR W W.heap.size (.agg #[.slice A1 m.bits.length c1, .slice A2 m.words.length c2]) m) (o : Obj) :
    HA W ((W.alloc o).alloc (.cells #[.slice A1 m.bits.length c1, .slice A2 m.words.length c2] 48)) (W.heap.size + 1) A1 c1 A2 c2 m :=
  ⟨by have := heap_alloc_new (W.alloc o) (.cells #[.slice A1 m.bits.length c1, .slice A2 m.words.length c2] 48 (0, 0)); simpa using this, h, ((Below.refl _ _).alloc (Nat.le_refl _) _).alloc (by simp) _⟩
theorem eqIntS_same (v1 v2 : Value) (a : List Int) (w : World) (h1 : IntsR w w.heap.size v1 a) (h2 : IntsR w w.heap.size v2 a) :
    Calls Try.prog 46 #[v1, v2] w fun e w' => e = .returned (.bool true) ∧ Below w.heap.size w w' :=
  (eqIntS_any v1 v2 a a w h1 h2).mono fun _ _ ⟨he, hb⟩ => ⟨by rw [he]; simp [sameL], hb⟩
theorem markInts_D (A : Option Addr) (c n lo hi : Nat) (l : List Int) (w : World) (h : HI w lo hi A c n l) (hl : n ≤ 1048576) :
    Calls Try.prog 47 #[.slice A n c, .int .i64 1] w fun e w' => e = .returned (.int .i64 ((1 + n : Nat) : Int)) ∧ HI w' lo hi A c n (markI n 1) ∧ Out lo hi w w' := by
  have e := h.len
  subst e
  exact (markIntS_any _ l 1 lo hi w h.own (by omega) (by omega)).mono fun _ _ ⟨h1, h2, h3, _⟩ => ⟨h1, h.marked h3 h2, h3⟩
theorem heldInts_D (A : Option Addr) (c n lo hi : Nat) (w : World) (h : HI w lo hi A c n (markI n 1)) (hl : n ≤ 1048576) :
    Calls Try.prog 48 #[.slice A n c, .int .i64 1] w fun e w' => e = .returned (.int .i64 ((1 + n : Nat) : Int)) ∧ Below w.heap.size w w' :=
  (heldIntS_any _ n 1 w (h.ints hl (markI_bound hl (by omega))) (by omega) (by omega)).mono fun _ _ ⟨h1, h2⟩ => ⟨h1, h2 ▸ Below.refl _ _⟩
def HIPost (w : World) (l : List Int) (e : Ending) (w' : World) : Prop := ∃ A c, e = .returned (.slice A l.length c) ∧ HI w' w.heap.size w'.heap.size A c l.length l
theorem hi_post {w : World} {d : List Int} {f : FuncId} {args : Array Value} (D : List Int) (hD : Hid (D = d)) (h : Calls Try.prog f args w (IntsPost w d)) : Calls Try.prog f args w fun e w' => HIPost w D e w' ∧ Below w.heap.size w w' :=
  h.mono fun _ _ ⟨v', he, ho, hb⟩ => by
    rw [← hD.out] at ho
    obtain ⟨A, c, rfl, -, -⟩ := own_form ho
    exact ⟨⟨A, c, he, HI.new ho⟩, hb⟩
theorem diff_len (a b : Img) : (diffM a b).length ≤ a.bits.length := by
  unfold diffM
  split
  · exact diffTo_length _ _ _
  · simp
theorem diff_bd (a b : Img) (h : a.bits.length ≤ 1048576) : ∀ x ∈ diffM a b, -9223372036854775808 ≤ x ∧ x ≤ 9223372036854775807 := by
  unfold diffM
  split
  · intro x hx
    have := diff_bound _ _ _ x hx
    omega
  · simp

set_option maxHeartbeats 4000000 in
theorem FnExactChangedBits_core (A1 : Option Addr) (c1 : Nat) (A2 : Option Addr) (c2 : Nat) (B1 : Option Addr) (d1 : Nat) (B2 : Option Addr) (d2 : Nat) (a b : Img) (W : World) (h : ImgR W W.heap.size (.agg #[.slice A1 a.bits.length c1, .slice A2 a.words.length c2]) a) (h2 : ImgR W W.heap.size (.agg #[.slice B1 b.bits.length d1, .slice B2 b.words.length d2]) b) (hs : a.bits.length + a.words.length + b.bits.length + b.words.length ≤ 1048576) :
    Calls Try.prog 11 #[.agg #[.slice A1 a.bits.length c1, .slice A2 a.words.length c2], .agg #[.slice B1 b.bits.length d1, .slice B2 b.words.length d2]] W (LawPost W) := by
  have hm := fine_of h (by omega)
  have hm2 := fine_of h2 (by omega)
  have hA := (HA.new h).below ((Below.refl _ _).alloc (Nat.le_refl _) (.cells #[.slice B1 b.bits.length d1, .slice B2 b.words.length d2] 48))
  have hB := HA.new2 h2 (.cells #[.slice A1 a.bits.length c1, .slice A2 a.words.length c2] 48)
  obtain ⟨D, hD⟩ : ∃ D, D = diffM a b := ⟨_, rfl⟩
  have D0 : D.length ≤ 1048576 := by have := diff_len a b; rw [hD]; have := hm.1; omega
  have D1 : ∀ x ∈ D, -9223372036854775808 ≤ x ∧ x ≤ 9223372036854775807 := by rw [hD]; exact diff_bd a b hm.1
  have HD := Lib.hid hD
  have HD1 := Lib.hid D1
  clear hD D1
  have hs' : (a.bits.length : Int) + (a.words.length : Int) + (b.bits.length : Int) + (b.words.length : Int) ≤ 1048576 := by omega
  clear h h2
  go_enter Try.func11, Try.ntmps11
  obtain ⟨pA0, pA1⟩ := hA.cells
  obtain ⟨pB0, pB1⟩ := hB.cells
  have q2 := hA.lt
  have q3 := hB.lt
  go_wp2_with fail
  refine (szImage_in _ _ _ _ _ _ 1048576 _ (by omega) (by omega)).mono ?_
  rintro e w1 ⟨rfl, hb1⟩
  have zhb1 := hb1.size
  clear pA0 pA1 pB0 pB1
  have hA4 := hA.below hb1
  have hB5 := hB.below hb1
  clear hA hB
  obtain ⟨pA0, pA1⟩ := hA4.cells
  obtain ⟨pB0, pB1⟩ := hB5.cells
  have q7 := hA4.lt
  have q8 := hB5.lt
  go_wp2_with fail
  refine (szImage_in _ _ _ _ _ _ (1048576 - (a.bits.length : Int) - (a.words.length : Int)) _ (by omega) (by omega)).mono ?_
  rintro e w6 ⟨rfl, hb6⟩
  have zhb6 := hb6.size
  clear pA0 pA1 pB0 pB1
  have hA9 := hA4.below hb6
  have hB10 := hB5.below hb6
  clear hA4 hB5
  obtain ⟨pA0, pA1⟩ := hA9.cells
  obtain ⟨pB0, pB1⟩ := hB10.cells
  have q11 := hA9.lt
  have q12 := hB10.lt
  go_wp2_with fail
  have hA9d := hA9.below ((Below.refl _ _).drew)
  have hB10d := hB10.below ((Below.refl _ _).drew)
  have zzy : w6.drew.heap.size = w6.heap.size := rfl
  go_region_held3 (fun w' => w'.cell? ⟨W.heap.size, 0, none⟩ = some (.slice A1 a.bits.length c1) ∧ w'.cell? ⟨W.heap.size, 1, none⟩ = some (.slice A2 a.words.length c2) ∧ w'.cell? ⟨(W.heap.size + 1), 0, none⟩ = some (.slice B1 b.bits.length d1) ∧ w'.cell? ⟨(W.heap.size + 1), 1, none⟩ = some (.slice B2 b.words.length d2)) (first | exact ⟨pA0, pA1, pB0, pB1⟩ | go_keep)
    (first
      | (go_at_call 42; have gy := hbEy; refine (toImage_any _ b _ hB10e.img).mono ?_; rintro e wFy ⟨uFy, rfl, hOFy, hbFy⟩; obtain ⟨FAy, Fay, FBy, Fby, rfl, -, -⟩ := hOFy.form; have hA9f := hA9e.below hbFy; have hB10f := hB10e.below hbFy; clear pA0 pA1 pB0 pB1; obtain ⟨pA0, pA1⟩ := hA9f.cells; obtain ⟨pB0, pB1⟩ := hB10f.cells)
      | (go_at_call 42; refine (toImage_any _ a _ hA9d.img).mono ?_; rintro e wEy ⟨uEy, rfl, hOEy, hbEy⟩; obtain ⟨EAy, Eay, EBy, Eby, rfl, -, -⟩ := hOEy.form; have hA9e := hA9d.below hbEy; have hB10e := hB10d.below hbEy; clear pA0 pA1 pB0 pB1; obtain ⟨pA0, pA1⟩ := hA9e.cells; obtain ⟨pB0, pB1⟩ := hB10e.cells)
      | (go_at_call 40; refine (hi_post D HD (sChangedBits_any _ _ a b _ ((hOEy.img hm).below hbFy) (hOFy.img hm2))).mono ?_; rintro e wGy ⟨⟨yA, yc, rfl, hy0⟩, hbGy⟩; have hA9g := hA9f.below hbGy; have hB10g := hB10f.below hbGy; clear pA0 pA1 pB0 pB1; obtain ⟨pA0, pA1⟩ := hA9g.cells; obtain ⟨pB0, pB1⟩ := hB10g.cells))
  have zzEy := hbEy.size
  have zzFy := hbFy.size
  have zzGy := hbGy.size
  clear hA9 hB10
  clear hA9d hB10d
  clear hA9e hB10e
  clear hA9f hB10f
  clear hOEy hOFy hbEy hbFy hbGy
  clear pA0 pA1 pB0 pB1
  obtain ⟨pA0, pA1⟩ := hA9g.cells
  have q14 := hA9g.lt
  have q15 := hB10g.lt
  have q16 := hy0.lt
  go_wp2_with fail
  refine (toImage_any _ a _ hA9g.img).mono ?_
  rintro e w13 ⟨u1, rfl, hO1, hb13⟩
  have zhb13 := hb13.size
  clear pA0 pA1
  have hA17 := hA9g.below hb13
  have hB18 := hB10g.below hb13
  have hy19 := hy0.below hb13
  clear hA9g hB10g hy0
  obtain ⟨xA, xa, xB, xb, rfl, -, -⟩ := hO1.form
  have hx20 := HO.new hO1
  have hA21 := hA17.below ((Below.refl _ _).alloc (Nat.le_refl _) (.cells #[.slice xA (a).bits.length xa, .slice xB (a).words.length xb] 26))
  have hB22 := hB18.below ((Below.refl _ _).alloc (Nat.le_refl _) (.cells #[.slice xA (a).bits.length xa, .slice xB (a).words.length xb] 26))
  have hy23 := hy19.below ((Below.refl _ _).alloc (Nat.le_refl _) (.cells #[.slice xA (a).bits.length xa, .slice xB (a).words.length xb] 26))
  clear hA17 hB18 hy19
  have lx := hx20.lt
  have sx : w13.heap.size < (w13.alloc (.cells #[.slice xA (a).bits.length xa, .slice xB (a).words.length xb] 26)).heap.size := by simp
  clear hO1
  obtain ⟨pB0, pB1⟩ := hB22.cells
  have q25 := hA21.lt
  have q26 := hB22.lt
  have q27 := hy23.lt
  have q28 := hx20.lt
  go_wp2_with fail
  refine (toImage_any _ b _ hB22.img).mono ?_
  rintro e w24 ⟨u2, rfl, hO2, hb24⟩
  have zhb24 := hb24.size
  clear pB0 pB1
  have hA29 := hA21.below hb24
  have hB30 := hB22.below hb24
  have hy31 := hy23.below hb24
  have hx32 := hx20.below hb24
  clear hA21 hB22 hy23 hx20
  obtain ⟨zA, za, zB, zb, rfl, -, -⟩ := hO2.form
  have hz33 := HO.new hO2
  have hA34 := hA29.below ((Below.refl _ _).alloc (Nat.le_refl _) (.cells #[.slice zA (b).bits.length za, .slice zB (b).words.length zb] 26))
  have hB35 := hB30.below ((Below.refl _ _).alloc (Nat.le_refl _) (.cells #[.slice zA (b).bits.length za, .slice zB (b).words.length zb] 26))
  have hy36 := hy31.below ((Below.refl _ _).alloc (Nat.le_refl _) (.cells #[.slice zA (b).bits.length za, .slice zB (b).words.length zb] 26))
  have hx37 := hx32.below ((Below.refl _ _).alloc (Nat.le_refl _) (.cells #[.slice zA (b).bits.length za, .slice zB (b).words.length zb] 26))
  clear hA29 hB30 hy31 hx32
  have lz := hz33.lt
  have sz : w24.heap.size < (w24.alloc (.cells #[.slice zA (b).bits.length za, .slice zB (b).words.length zb] 26)).heap.size := by simp
  clear hO2
  obtain ⟨px0, px1⟩ := hx37.cells
  obtain ⟨pz0, pz1⟩ := hz33.cells
  have q39 := hA34.lt
  have q40 := hB35.lt
  have q41 := hy36.lt
  have q42 := hx37.lt
  have q43 := hz33.lt
  go_wp2_with fail
  refine (hi_post D HD (iChangedBits_any _ _ a b _ (hx37.own.read hm) (hz33.own.read hm2))).mono ?_
  rintro e w38 ⟨⟨gA, gc, rfl, hg0⟩, hb38⟩
  have zhb38 := hb38.size
  clear px0 px1 pz0 pz1
  have hA44 := hA34.below hb38
  have hB45 := hB35.below hb38
  have hy46 := hy36.below hb38
  have hx47 := hx37.below hb38
  have hz48 := hz33.below hb38
  clear hA34 hB35 hy36 hx37 hz33
  have q50 := hA44.lt
  have q51 := hB45.lt
  have q52 := hy46.lt
  have q53 := hx47.lt
  have q54 := hz48.lt
  have q55 := hg0.lt
  go_wp2_with fail
  refine (eqIntS_same _ _ D _ (hg0.ints D0 HD1.out) (hy46.ints D0 HD1.out)).mono ?_
  rintro e w49 ⟨rfl, hb49⟩
  have zhb49 := hb49.size
  have hA56 := hA44.below hb49
  have hB57 := hB45.below hb49
  have hy58 := hy46.below hb49
  have hx59 := hx47.below hb49
  have hz60 := hz48.below hb49
  have hg61 := hg0.below hb49
  clear hA44 hB45 hy46 hx47 hz48 hg0
  obtain ⟨px0, px1⟩ := hx59.cells
  obtain ⟨pA0, pA1⟩ := hA56.cells
  have q62 := hA56.lt
  have q63 := hB57.lt
  have q64 := hy58.lt
  have q65 := hx59.lt
  have q66 := hz60.lt
  have q67 := hg61.lt
  go_wp2_with fail
  have hA56d := hA56.below ((Below.refl _ _).drew)
  have hB57d := hB57.below ((Below.refl _ _).drew)
  have hy58d := hy58.below ((Below.refl _ _).drew)
  have hx59d := hx59.below ((Below.refl _ _).drew)
  have hz60d := hz60.below ((Below.refl _ _).drew)
  have hg61d := hg61.below ((Below.refl _ _).drew)
  have zzP : w49.drew.heap.size = w49.heap.size := rfl
  go_region_held3 (fun w' => w'.cell? ⟨w13.heap.size, 0, none⟩ = some (.slice xA a.bits.length xa) ∧ w'.cell? ⟨w13.heap.size, 1, none⟩ = some (.slice xB a.words.length xb) ∧ w'.cell? ⟨W.heap.size, 0, none⟩ = some (.slice A1 a.bits.length c1) ∧ w'.cell? ⟨W.heap.size, 1, none⟩ = some (.slice A2 a.words.length c2)) (first | exact ⟨px0, px1, pA0, pA1⟩ | go_keep)
    (first
      | (go_at_call 42; refine (toImage_any _ a _ hA56d.img).mono ?_; rintro e wEP ⟨uEP, rfl, hOEP, hbEP⟩; obtain ⟨EAP, EaP, EBP, EbP, rfl, -, -⟩ := hOEP.form; have hA56e := hA56d.below hbEP; have hB57e := hB57d.below hbEP; have hy58e := hy58d.below hbEP; have hx59e := hx59d.below hbEP; have hz60e := hz60d.below hbEP; have hg61e := hg61d.below hbEP; clear px0 px1 pA0 pA1; obtain ⟨px0, px1⟩ := hx59e.cells; obtain ⟨pA0, pA1⟩ := hA56e.cells)
      | (go_at_call 43; refine (eqImage_same _ _ a _ (hx59e.own.read hm) (hOEP.img hm)).mono ?_; rintro e wFP ⟨rfl, hbFP⟩; have hA56f := hA56e.below hbFP; have hB57f := hB57e.below hbFP; have hy58f := hy58e.below hbFP; have hx59f := hx59e.below hbFP; have hz60f := hz60e.below hbFP; have hg61f := hg61e.below hbFP; clear px0 px1 pA0 pA1; obtain ⟨px0, px1⟩ := hx59f.cells; obtain ⟨pA0, pA1⟩ := hA56f.cells))
  have zzEP := hbEP.size
  have zzFP := hbFP.size
  clear hA56 hB57 hy58 hx59 hz60 hg61
  clear hA56d hB57d hy58d hx59d hz60d hg61d
  clear hA56e hB57e hy58e hx59e hz60e hg61e
  clear hOEP hbEP hbFP
  clear px0 px1 pA0 pA1
  obtain ⟨pz0, pz1⟩ := hz60f.cells
  obtain ⟨pB0, pB1⟩ := hB57f.cells
  have q68 := hA56f.lt
  have q69 := hB57f.lt
  have q70 := hy58f.lt
  have q71 := hx59f.lt
  have q72 := hz60f.lt
  have q73 := hg61f.lt
  go_wp2_with fail
  have hA56fd := hA56f.below ((Below.refl _ _).drew)
  have hB57fd := hB57f.below ((Below.refl _ _).drew)
  have hy58fd := hy58f.below ((Below.refl _ _).drew)
  have hx59fd := hx59f.below ((Below.refl _ _).drew)
  have hz60fd := hz60f.below ((Below.refl _ _).drew)
  have hg61fd := hg61f.below ((Below.refl _ _).drew)
  have zzR : wFP.drew.heap.size = wFP.heap.size := rfl
  go_region_held3 (fun w' => w'.cell? ⟨w24.heap.size, 0, none⟩ = some (.slice zA b.bits.length za) ∧ w'.cell? ⟨w24.heap.size, 1, none⟩ = some (.slice zB b.words.length zb) ∧ w'.cell? ⟨(W.heap.size + 1), 0, none⟩ = some (.slice B1 b.bits.length d1) ∧ w'.cell? ⟨(W.heap.size + 1), 1, none⟩ = some (.slice B2 b.words.length d2)) (first | exact ⟨pz0, pz1, pB0, pB1⟩ | go_keep)
    (first
      | (go_at_call 42; refine (toImage_any _ b _ hB57fd.img).mono ?_; rintro e wER ⟨uER, rfl, hOER, hbER⟩; obtain ⟨EAR, EaR, EBR, EbR, rfl, -, -⟩ := hOER.form; have hA56fe := hA56fd.below hbER; have hB57fe := hB57fd.below hbER; have hy58fe := hy58fd.below hbER; have hx59fe := hx59fd.below hbER; have hz60fe := hz60fd.below hbER; have hg61fe := hg61fd.below hbER; clear pz0 pz1 pB0 pB1; obtain ⟨pz0, pz1⟩ := hz60fe.cells; obtain ⟨pB0, pB1⟩ := hB57fe.cells)
      | (go_at_call 43; refine (eqImage_same _ _ b _ (hz60fe.own.read hm2) (hOER.img hm2)).mono ?_; rintro e wFR ⟨rfl, hbFR⟩; have hA56ff := hA56fe.below hbFR; have hB57ff := hB57fe.below hbFR; have hy58ff := hy58fe.below hbFR; have hx59ff := hx59fe.below hbFR; have hz60ff := hz60fe.below hbFR; have hg61ff := hg61fe.below hbFR; clear pz0 pz1 pB0 pB1; obtain ⟨pz0, pz1⟩ := hz60ff.cells; obtain ⟨pB0, pB1⟩ := hB57ff.cells))
  have zzER := hbER.size
  have zzFR := hbFR.size
  clear hA56f hB57f hy58f hx59f hz60f hg61f
  clear hA56fd hB57fd hy58fd hx59fd hz60fd hg61fd
  clear hA56fe hB57fe hy58fe hx59fe hz60fe hg61fe
  clear hOER hbER hbFR
  clear pz0 pz1 pB0 pB1
  obtain ⟨px0, px1⟩ := hx59ff.cells
  have q74 := hA56ff.lt
  have q75 := hB57ff.lt
  have q76 := hy58ff.lt
  have q77 := hx59ff.lt
  have q78 := hz60ff.lt
  have q79 := hg61ff.lt
  go_wp2_with fail
  refine (markImage_wide _ a 1 _ _ _ hx59ff.own hm (by have := hm.1; have := hm.2.1; omega) (by have := hx59ff.le; have := hx59ff.lt; omega)).mono ?_
  rintro e w80 ⟨rfl, hm80, ho80⟩
  clear px0 px1
  have zzw80 := ho80.size
  have hA81 := hA56ff.out ho80 (by omega) (by omega)
  have hB82 := hB57ff.out ho80 (by omega) (by omega)
  have hy83 := hy58ff.out ho80 (by omega)
  have hx84 := hx59ff.marked ho80 hm80
  have hz85 := hz60ff.out ho80 (by omega)
  have hg86 := hg61ff.out ho80 (by omega)
  clear hA56ff hB57ff hy58ff hx59ff hz60ff hg61ff
  clear ho80 hm80
  obtain ⟨pz0, pz1⟩ := hz85.cells
  have q87 := hA81.lt
  have q88 := hB82.lt
  have q89 := hy83.lt
  have q90 := hx84.lt
  have q91 := hz85.lt
  have q92 := hg86.lt
  go_wp2_with fail
  refine (markImage_wide _ b (1 + a.bits.length + a.words.length) _ _ _ hz85.own hm2 (by have := hm.1; have := hm.2.1; omega) (by have := hz85.le; have := hz85.lt; omega)).mono ?_
  rintro e w93 ⟨rfl, hm93, ho93⟩
  clear pz0 pz1
  have zzw93 := ho93.size
  have hA94 := hA81.out ho93 (by omega) (by omega)
  have hB95 := hB82.out ho93 (by omega) (by omega)
  have hy96 := hy83.out ho93 (by omega)
  have hx97 := hx84.out ho93 (by omega)
  have hz98 := hz85.marked ho93 hm93
  have hg99 := hg86.out ho93 (by omega)
  clear hA81 hB82 hy83 hx84 hz85 hg86
  clear ho93 hm93
  have q101 := hA94.lt
  have q102 := hB95.lt
  have q103 := hy96.lt
  have q104 := hx97.lt
  have q105 := hz98.lt
  have q106 := hg99.lt
  go_wp2_with fail
  refine (eqIntS_same _ _ D _ (hg99.ints D0 HD1.out) (hy96.ints D0 HD1.out)).mono ?_
  rintro e w100 ⟨rfl, hb100⟩
  have zhb100 := hb100.size
  have hA107 := hA94.below hb100
  have hB108 := hB95.below hb100
  have hy109 := hy96.below hb100
  have hx110 := hx97.below hb100
  have hz111 := hz98.below hb100
  have hg112 := hg99.below hb100
  clear hA94 hB95 hy96 hx97 hz98 hg99
  have q113 := hA107.lt
  have q114 := hB108.lt
  have q115 := hy109.lt
  have q116 := hx110.lt
  have q117 := hz111.lt
  have q118 := hg112.lt
  go_wp2_with fail
  refine (markInts_D _ _ _ _ _ _ _ hg112 D0).mono ?_
  rintro e w119 ⟨rfl, hm119, ho119⟩
  have zzw119 := ho119.size
  have hA120 := hA107.out ho119 (by omega) (by omega)
  have hB121 := hB108.out ho119 (by omega) (by omega)
  have hy122 := hy109.out ho119 (by omega)
  have hx123 := hx110.out ho119 (by omega)
  have hz124 := hz111.out ho119 (by omega)
  have hg125 := hm119
  clear hA107 hB108 hy109 hx110 hz111 hg112
  clear ho119 hm119
  have q127 := hA120.lt
  have q128 := hB121.lt
  have q129 := hy122.lt
  have q130 := hx123.lt
  have q131 := hz124.lt
  have q132 := hg125.lt
  go_wp2_with fail
  refine (heldInts_D _ _ _ _ _ _ hg125 D0).mono ?_
  rintro e w126 ⟨rfl, hb126⟩
  have zhb126 := hb126.size
  have hA133 := hA120.below hb126
  have hB134 := hB121.below hb126
  have hy135 := hy122.below hb126
  have hx136 := hx123.below hb126
  have hz137 := hz124.below hb126
  have hg138 := hg125.below hb126
  clear hA120 hB121 hy122 hx123 hz124 hg125
  obtain ⟨pA0, pA1⟩ := hA133.cells
  obtain ⟨pB0, pB1⟩ := hB134.cells
  have q139 := hA133.lt
  have q140 := hB134.lt
  have q141 := hy135.lt
  have q142 := hx136.lt
  have q143 := hz137.lt
  have q144 := hg138.lt
  go_wp2_with fail
  have hA133d := hA133.below ((Below.refl _ _).drew)
  have hB134d := hB134.below ((Below.refl _ _).drew)
  have hy135d := hy135.below ((Below.refl _ _).drew)
  have hx136d := hx136.below ((Below.refl _ _).drew)
  have hz137d := hz137.below ((Below.refl _ _).drew)
  have hg138d := hg138.below ((Below.refl _ _).drew)
  have zzh : w126.drew.heap.size = w126.heap.size := rfl
  go_region_held3 (fun w' => w'.cell? ⟨W.heap.size, 0, none⟩ = some (.slice A1 a.bits.length c1) ∧ w'.cell? ⟨W.heap.size, 1, none⟩ = some (.slice A2 a.words.length c2) ∧ w'.cell? ⟨(W.heap.size + 1), 0, none⟩ = some (.slice B1 b.bits.length d1) ∧ w'.cell? ⟨(W.heap.size + 1), 1, none⟩ = some (.slice B2 b.words.length d2)) (first | exact ⟨pA0, pA1, pB0, pB1⟩ | go_keep)
    (first
      | (go_at_call 42; have gh := hbEh; refine (toImage_any _ b _ hB134e.img).mono ?_; rintro e wFh ⟨uFh, rfl, hOFh, hbFh⟩; obtain ⟨FAh, Fah, FBh, Fbh, rfl, -, -⟩ := hOFh.form; have hA133f := hA133e.below hbFh; have hB134f := hB134e.below hbFh; have hy135f := hy135e.below hbFh; have hx136f := hx136e.below hbFh; have hz137f := hz137e.below hbFh; have hg138f := hg138e.below hbFh; clear pA0 pA1 pB0 pB1; obtain ⟨pA0, pA1⟩ := hA133f.cells; obtain ⟨pB0, pB1⟩ := hB134f.cells)
      | (go_at_call 42; refine (toImage_any _ a _ hA133d.img).mono ?_; rintro e wEh ⟨uEh, rfl, hOEh, hbEh⟩; obtain ⟨EAh, Eah, EBh, Ebh, rfl, -, -⟩ := hOEh.form; have hA133e := hA133d.below hbEh; have hB134e := hB134d.below hbEh; have hy135e := hy135d.below hbEh; have hx136e := hx136d.below hbEh; have hz137e := hz137d.below hbEh; have hg138e := hg138d.below hbEh; clear pA0 pA1 pB0 pB1; obtain ⟨pA0, pA1⟩ := hA133e.cells; obtain ⟨pB0, pB1⟩ := hB134e.cells)
      | (go_at_call 39; refine (hi_post D HD (iChangedBits_any _ _ a b _ ((hOEh.img hm).below hbFh) (hOFh.img hm2))).mono ?_; rintro e wGh ⟨⟨hA, hc, rfl, hh0⟩, hbGh⟩; have hA133g := hA133f.below hbGh; have hB134g := hB134f.below hbGh; have hy135g := hy135f.below hbGh; have hx136g := hx136f.below hbGh; have hz137g := hz137f.below hbGh; have hg138g := hg138f.below hbGh; clear pA0 pA1 pB0 pB1; obtain ⟨pA0, pA1⟩ := hA133g.cells; obtain ⟨pB0, pB1⟩ := hB134g.cells))
  have zzEh := hbEh.size
  have zzFh := hbFh.size
  have zzGh := hbGh.size
  clear hA133 hB134 hy135 hx136 hz137 hg138
  clear hA133d hB134d hy135d hx136d hz137d hg138d
  clear hA133e hB134e hy135e hx136e hz137e hg138e
  clear hA133f hB134f hy135f hx136f hz137f hg138f
  clear hOEh hOFh hbEh hbFh hbGh
  have q146 := hA133g.lt
  have q147 := hB134g.lt
  have q148 := hy135g.lt
  have q149 := hx136g.lt
  have q150 := hz137g.lt
  have q151 := hg138g.lt
  have q152 := hh0.lt
  go_wp2_with fail
  refine (eqIntS_same _ _ D _ (hh0.ints D0 HD1.out) (hy135g.ints D0 HD1.out)).mono ?_
  rintro e w145 ⟨rfl, hb145⟩
  have zhb145 := hb145.size
  clear pA0 pA1 pB0 pB1
  have hA153 := hA133g.below hb145
  have hB154 := hB134g.below hb145
  have hy155 := hy135g.below hb145
  have hx156 := hx136g.below hb145
  have hz157 := hz137g.below hb145
  have hg158 := hg138g.below hb145
  have hh159 := hh0.below hb145
  clear hA133g hB134g hy135g hx136g hz137g hg138g hh0
  have q161 := hA153.lt
  have q162 := hB154.lt
  have q163 := hy155.lt
  have q164 := hx156.lt
  have q165 := hz157.lt
  have q166 := hg158.lt
  have q167 := hh159.lt
  go_wp2_with fail
  refine (heldInts_D _ _ _ _ _ _ hg158 D0).mono ?_
  rintro e w160 ⟨rfl, hb160⟩
  have zhb160 := hb160.size
  have hA168 := hA153.below hb160
  have hB169 := hB154.below hb160
  have hy170 := hy155.below hb160
  have hx171 := hx156.below hb160
  have hz172 := hz157.below hb160
  have hg173 := hg158.below hb160
  have hh174 := hh159.below hb160
  clear hA153 hB154 hy155 hx156 hz157 hg158 hh159
  go_wp2
  go_ret
  exact ⟨rfl, hA168.bel⟩

theorem FnExactChangedBits_any (A1 : Option Addr) (n1 c1 : Nat) (A2 : Option Addr) (n2 c2 : Nat) (hn1 : n1 ≤ 9223372036854775807) (hn2 : n2 ≤ 9223372036854775807) (B1 : Option Addr) (m1 d1 : Nat) (B2 : Option Addr) (m2 d2 : Nat) (hm1 : m1 ≤ 9223372036854775807) (hm2 : m2 ≤ 9223372036854775807)
    (w : World) (f0 : n1 + n2 ≤ 1048576 → ∃ m : Img, m.bits.length = n1 ∧ m.words.length = n2 ∧ ImgR w w.heap.size (.agg #[.slice A1 n1 c1, .slice A2 n2 c2]) m)
    (f1 : m1 + m2 ≤ 1048576 → ∃ m : Img, m.bits.length = m1 ∧ m.words.length = m2 ∧ ImgR w w.heap.size (.agg #[.slice B1 m1 d1, .slice B2 m2 d2]) m) :
    Calls Try.prog 11 #[.agg #[.slice A1 n1 c1, .slice A2 n2 c2], .agg #[.slice B1 m1 d1, .slice B2 m2 d2]] w (LawPost w) := by
  by_cases hs : 1048576 < n1 + n2
  · go_enter Try.func11, Try.ntmps11
    go_wp2_with fail
    refine (szImage_over _ _ _ _ _ _ 1048576 _ (by omega) hn1 hn2 (by omega)).mono ?_
    rintro e w1 ⟨rfl, hb⟩
    go_wp2
    go_ret
    exact ⟨rfl, (((Below.refl _ _).alloc (Nat.le_refl _) _).alloc (by simp) _).trans (hb.mono (by simp; omega))⟩
  by_cases hs2 : 1048576 < n1 + n2 + (m1 + m2)
  · have i1 : (n1 : Int) + (n2 : Int) ≤ 1048576 := by omega
    go_enter Try.func11, Try.ntmps11
    go_wp2_with fail
    refine (szImage_in _ _ _ _ _ _ 1048576 _ (by omega) (by omega)).mono ?_
    rintro e w1 ⟨rfl, hb⟩
    obtain ⟨k3, k4, k5⟩ := kept hb (w.heap.size + 1) (by simp)
    have B1 : Below w.heap.size w w1 := (((Below.refl _ _).alloc (Nat.le_refl _) _).alloc (by simp) _).trans (hb.mono (by simp; omega))
    clear hb
    go_wp2_with fail
    refine (szImage_over _ _ _ _ _ _ (1048576 - (n1 : Int) - (n2 : Int)) _ (by omega) hm1 hm2 (by omega)).mono ?_
    rintro e w2 ⟨rfl, hb⟩
    go_wp2
    go_ret
    exact ⟨rfl, B1.trans (hb.mono B1.size)⟩
  obtain ⟨a, rfl, rfl, h1⟩ := f0 (by omega)
  obtain ⟨b, rfl, rfl, h2⟩ := f1 (by omega)
  exact FnExactChangedBits_core _ _ _ _ _ _ _ _ a b w h1 h2 (by omega)
end Go.Proofs.Ytoagnajljdbobaa
