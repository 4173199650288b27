/- The draw of ChangedBits: two images. -/
import Derived.Test.YtoagnajljdbobaaV
namespace Go.Proofs.Ytoagnajljdbobaa
open Go.RowKit
attribute [local go_sem ↓] Go.wp_at_zero Go.wp_at_succ

theorem heap_al (w : World) (o : Obj) : (w.alloc o).heap.size = w.heap.size + 1 := by simp
theorem open_any3 (v : Value) (l : List Int) (w : World) (o p : Obj) (h : BytesR w w.heap.size v l) :
    Calls Try.prog 79 #[v] ((w.alloc o).alloc p) fun e w' => e = .returned (.pointer (some ⟨w.heap.size + 1 + 1, 0, none⟩)) ∧ Rdr w' (w.heap.size + 1 + 1) 0 ∧ Below (w.heap.size + 1 + 1) ((w.alloc o).alloc p) w' := by
  have h' : BytesR ((w.alloc o).alloc p) ((w.alloc o).alloc p).heap.size v l := by
    obtain ⟨A, c, rfl, h1, h2, h3⟩ := h
    refine ⟨A, c, rfl, h1, h2.keep (fun q hq => ?_) (by simp; omega), h3⟩
    rw [World.cell?_alloc_lt (w.alloc o) p q (by simp; omega), World.cell?_alloc_lt w o q hq]
  simpa using l20Open_any v l ((w.alloc o).alloc p) h'
theorem heap_alloc2 (w : World) (o p : Obj) : ((w.alloc o).alloc p).heap[w.heap.size + 1]? = some p := by
  have h := heap_alloc_new (w.alloc o) p
  have e : (w.alloc o).heap.size = w.heap.size + 1 := by simp
  rw [e] at h
  exact h
theorem below_2set {B : Nat} {w : World} (k : Nat) (hk : B ≤ k) (u u' : Value) : Below B w ((w.setCell ⟨k, 0, none⟩ u).setCell ⟨k, 1, none⟩ u') := ((Below.refl _ _).setCell hk _).setCell hk _
theorem fr_2set {B g : Nat} {a w : World} (h : Fr B g a w) (k : Nat) (hk : B ≤ k) (u u' : Value) : Fr B g a ((w.setCell ⟨k, 0, none⟩ u).setCell ⟨k, 1, none⟩ u') := (h.setCell (.inl hk) _).setCell (.inl hk) _
theorem ImgAt.store {w : World} {base k r : Nat} {v1 v2 v3 v4 : Value} {m m' : Img} (hI : ImgAt w base k r v1 v2 m) (h3 : OwnB w base v3 m'.bits) (h4 : OwnI w base v4 m'.words) :
    ImgAt ((w.setCell ⟨k, 0, none⟩ v3).setCell ⟨k, 1, none⟩ v4) base k r v3 v4 m' := by
  have h := (hI.bits (Below.refl _ _) h3).words (Below.refl _ _) (v3 := v4) (l := m'.words) (own_setCell (p := ⟨k, 0, none⟩) h4 hI.blk (by decide) _)
  exact h
theorem OwnM.set4 {w : World} {base k r j i : Nat} {v1 v2 : Value} {m : Img} (hI : ImgAt w base k r v1 v2 m) (h1 : i < base) (h2 : j < base) (u0 u1 u2 u3 : Value) :
    OwnM ((((w.setCell ⟨i, 0, none⟩ u0).setCell ⟨i, 1, none⟩ u1).setCell ⟨j, 0, none⟩ u2).setCell ⟨j, 1, none⟩ u3).drew base (.agg #[v1, v2]) m :=
  ⟨_, _, rfl, own_2set (own_2set hI.ob h1 _ _) h2 _ _, own_2set (own_2set hI.oi h1 _ _) h2 _ _⟩
/-- The two cells of another image are written. -/
theorem ImgAt.set2 {w : World} {base k r j : Nat} {v1 v2 x y : Value} {m : Img} (hI : ImgAt w base k r v1 v2 m) (hj : w.heap[j]? = some (.cells #[x, y] 26 (0, 0))) (hk : k ≠ j) (hr : r ≠ j) (u u' : Value) :
    ImgAt ((w.setCell ⟨j, 0, none⟩ u).setCell ⟨j, 1, none⟩ u') base k r v1 v2 m := by
  have h1 := heap_setCell_same w j 0 _ _ u hj
  exact ⟨(Below.heap_setCell _ _ _ _ hk).trans ((Below.heap_setCell _ _ _ _ hk).trans hI.blk), (Below.heap_setCell _ _ _ _ hr).trans ((Below.heap_setCell _ _ _ _ hr).trans hI.res),
    own_setCell (p := ⟨j, 1, none⟩) (own_setCell (p := ⟨j, 0, none⟩) hI.ob hj (by decide) _) h1 (by decide) _, own_setCell (p := ⟨j, 1, none⟩) (own_setCell (p := ⟨j, 0, none⟩) hI.oi hj (by decide) _) h1 (by decide) _, hI.ne⟩
def DrawTwoP (w : World) (e : Ending) (w' : World) : Prop := ∃ A1 c1 A2 c2 B1 d1 B2 d2 a b, e = .returned (.tuple #[.agg #[.slice A1 a.bits.length c1, .slice A2 a.words.length c2], .agg #[.slice B1 b.bits.length d1, .slice B2 b.words.length d2]]) ∧
  OwnM w' w.heap.size (.agg #[.slice A1 a.bits.length c1, .slice A2 a.words.length c2]) a ∧ OwnM w' w.heap.size (.agg #[.slice B1 b.bits.length d1, .slice B2 b.words.length d2]) b ∧ smallM a 17 9 ∧ smallM b 17 9 ∧ Below w.heap.size w w'
set_option maxHeartbeats 1000000 in
theorem drawChangedBits_any (v : Value) (l : List Int) (w : World) (h : BytesR w w.heap.size v l) :
    Calls Try.prog 38 #[v] w (DrawTwoP w) := by
  have ho := open_any3 v l w
  have HO := Lib.hid (fun o p => ho o p h)
  obtain ⟨A, c, rfl, -⟩ := h
  clear ho
  go_enter Try.func38, Try.ntmps38
  go_wp2_with fail
  refine (HO.out _ _).mono ?_
  rintro e w1 ⟨rfl, hR1, hb1⟩
  have hx1 := (hb1.block w.heap.size (by omega)).trans (blk_alloc (heap_alloc_new w _) _)
  have hy1 := (hb1.block (w.heap.size + 1) (by omega)).trans (heap_alloc2 w _ _)
  have hF1 : Fr w.heap.size (w.heap.size + 1 + 1) w w1 := Fr.of_below _ ((((Below.refl _ _).alloc (Nat.le_refl _) _).alloc (by simp) _).trans (hb1.mono (by omega)))
  have hs1 := hR1.lt
  clear hb1 HO
  go_wp2_with fail
  refine (image_any _ 0 9 _ hR1 (by omega) (by omega) (by omega)).mono ?_
  rintro e w2 ⟨v, m, rfl, hO2, hS2, hR2, hF2⟩
  obtain ⟨A1, c1, A2, c2, rfl, h1, h2⟩ := hO2.form
  have hx2 := (hF2.block _ (by omega) (by omega)).trans hx1
  have hy2 := (hF2.block _ (by omega) (by omega)).trans hy1
  have hI2 := ImgAt.new h1 h2 hx2
  have hy2' := blk_alloc hy2 (.cells #[.slice A1 m.bits.length c1, .slice A2 m.words.length c2] 26)
  have hz1 := hF2.size
  replace hF2 := hF1.trans (hF2.mono (by omega))
  have hs2 := hR2.lt
  have hbl := hS2.1
  have hwl := hS2.2.1
  clear hO2 h1 h2 hx1 hx2 hF1 hR1 hy1 hy2
  obtain ⟨c0, c1', z0, z1, d0, d1, y0, y1⟩ := hI2.facts
  have bal : ∀ (W : World) (o : Obj), Below W.heap.size W (W.alloc o) := fun W o => (Below.refl _ _).alloc (Nat.le_refl _) o
  have CA := Lib.hid (flags_any (w.heap.size + 1 + 1) 100 (m.bits.length : Int) (w2.alloc (.cells #[.slice A1 m.bits.length c1, .slice A2 m.words.length c2] 26)).drew ((hR2.below (bal _ _)).drew.mono (by omega)) (by omega) (by omega) (by omega))
  have CB := Lib.hid (flags_any (w.heap.size + 1 + 1) 100 (m.bits.length : Int) ((w2.alloc (.cells #[.slice A1 m.bits.length c1, .slice A2 m.words.length c2] 26)).alloc (.cells #[.slice none 0 0, .slice none 0 0] 26)).drew (((hR2.below (bal _ _)).below (bal _ _)).drew.mono (by omega)) (by omega) (by omega) (by omega))
  have hJ2 := ImgAt.new (w := w2.alloc (.cells #[.slice A1 m.bits.length c1, .slice A2 m.words.length c2] 26)) (base := w1.heap.size) (v1 := .slice none 0 0) (v2 := .slice none 0 0) (m := ⟨[], []⟩) (World.ownsRow_nil _ _ _ _) (World.ownsRow_nil _ _ _ _) hy2'
  rw [heap_al] at hJ2
  have hK2 := hI2.fr ((Fr.refl _ (w.heap.size + 1 + 1) _).alloc (Nat.le_refl _) (.cells #[.slice none 0 0, .slice none 0 0] 26)) (by omega) (by omega) (by omega)
  have hz2 : (w2.alloc (.cells #[.slice A1 m.bits.length c1, .slice A2 m.words.length c2] 26)).drew.heap.size = w2.heap.size + 1 := heap_al _ _
  have hz2' : ((w2.alloc (.cells #[.slice A1 m.bits.length c1, .slice A2 m.words.length c2] 26)).alloc (.cells #[.slice none 0 0, .slice none 0 0] 26)).drew.heap.size = w2.heap.size + 1 + 1 := by show ((w2.alloc _).alloc _).heap.size = _; rw [heap_al, heap_al]
  have FA := (hF2.alloc (by omega) (.cells #[.slice A1 m.bits.length c1, .slice A2 m.words.length c2] 26)).drew
  have FB := ((hF2.alloc (by omega) (.cells #[.slice A1 m.bits.length c1, .slice A2 m.words.length c2] 26)).alloc (by rw [heap_al]; omega) (.cells #[.slice none 0 0, .slice none 0 0] 26)).drew
  go_wp2_with fail
  go_region_held3 (fun w' => w'.cell? ⟨w2.heap.size, 0, none⟩ = some (.slice A1 m.bits.length c1) ∧ w'.cell? ⟨w2.heap.size, 1, none⟩ = some (.slice A2 m.words.length c2)) (first | go_keep)
    (first
      | (go_at_call 91; (with_reducible refine CA.out.mono ?_); rintro e w3 ⟨v3, l3, rfl, hO3, hl3, hR3, hF3⟩; have L3 := Lib.hid hl3; clear hl3; have hI3 := (ImgAt.drew hI2).fr hF3 (by omega) (by omega) (by omega); obtain ⟨e0, e1', a0, a1, f0, f1, b0, b1⟩ := hI3.facts; obtain ⟨Af, cf, rfl, -, -⟩ := own_form hO3)
      | (go_at_call 91; (with_reducible refine CB.out.mono ?_); rintro e w3 ⟨v3, l3, rfl, hO3, hl3, hR3, hF3⟩; have L3 := Lib.hid hl3; clear hl3; have hI3 := (ImgAt.drew hK2).fr hF3 (by omega) (by omega) (by omega); have hJ3 := (ImgAt.drew hJ2).fr hF3 (by omega) (by omega) (by omega); obtain ⟨e0, e1', a0, a1, f0, f1, b0, b1⟩ := hI3.facts; obtain ⟨o0, o1', p0, p1, q0, q1, r0, r1⟩ := hJ3.facts; obtain ⟨Af, cf, rfl, -, -⟩ := own_form hO3))
  · have hl3 := L3.out
    rw [Int.toNat_natCast] at hl3 hR3
    have hs3 := hF3.size
    rw [hz2] at hs3
    have hy3 := (hF3.block (w.heap.size + 1) (by rw [hz2]; omega) (by omega)).trans hy2'
    have hO3' : OwnB w3 w1.heap.size (.slice Af l3.length cf) l3 := mono_own hO3 (by rw [hz2]; omega)
    have hIb := ImgAt.new (m := ⟨l3, m.words⟩) hO3' hI3.oi hy3
    have hIa := hI3.fr ((Fr.refl _ (w.heap.size + 1 + 1) _).alloc (Nat.le_refl _) (.cells #[.slice Af l3.length cf, .slice A2 m.words.length c2] 26)) (by omega) (by omega) (by omega)
    have hR4 := hR3.below (bal _ (.cells #[.slice Af l3.length cf, .slice A2 m.words.length c2] 26))
    have hF4 := (FA.trans (hF3.mono (by rw [hz2]; omega))).alloc (by omega) (.cells #[.slice Af l3.length cf, .slice A2 m.words.length c2] 26)
    have hs4 : w3.heap.size + 1 = (w3.alloc (.cells #[.slice Af l3.length cf, .slice A2 m.words.length c2] 26)).heap.size := (heap_al _ _).symm
    clear hy3
    have hSb : smallM ⟨l3, m.words⟩ 17 9 := ⟨by simpa [hl3] using hS2.1, hS2.2⟩
    clear CA CB hJ2 hK2 FA FB hI2 hI3 hO3 hO3' hF3 hy2' hR2 hR3 hF2 c0 c1' z0 z1 d0 d1 y0 y1 e0 e1' a0 a1 f0 f1 b0 b1 hl3
    have hgg := hF4.size
    go_wp2_with fail
    refine (odd_any (w.heap.size + 1 + 1) _ 9 _ hR4 (by omega) (by omega) (by omega)).mono ?_
    rintro e w5 ⟨b, rfl, -, hR5, hF5⟩
    have hIa5 := hIa.fr hF5 (by omega) (by omega) (by omega)
    have hIb5 := hIb.fr hF5 (by omega) (by omega) (by omega)
    have hs5 := hF5.size
    rw [← hs4] at hs5
    have hF5' := hF4.trans (hF5.mono (by omega))
    clear hIa hIb hR4 hF4 hF5
    have n1 : w.heap.size ≠ w.heap.size + 1 := by omega
    have n2 : w.heap.size + 1 ≠ w.heap.size := by omega
    cases b
    · obtain ⟨a0, a1, a2, a3, a4, a5, a6, a7⟩ := hIa5.facts
      obtain ⟨b0, b1, b2, b3, b4, b5, b6, b7⟩ := hIb5.facts
      go_wp2_with fail
      go_region
      go_wp2
      refine bodyPost_ret (v := .tuple #[.agg #[.slice A1 m.bits.length c1, .slice A2 m.words.length c2], .agg #[.slice Af l3.length cf, .slice A2 m.words.length c2]]) (by simp [results, Try.results38, go_sem, *]) rfl ⟨_, _, _, _, _, _, _, _, m, ⟨l3, m.words⟩, rfl, ?_, ?_, hS2, hSb, ?_⟩
      · exact (OwnM.set4 hIa5 (i := w.heap.size) (j := w.heap.size + 1) (by omega) (by omega) _ _ _ _).mono (by omega)
      · exact (OwnM.set4 hIb5 (i := w.heap.size) (j := w.heap.size + 1) (by omega) (by omega) _ _ _ _).mono (by omega)
      · exact (((hF5'.below (by omega)).trans (below_2set w.heap.size (Nat.le_refl _) _ _)).trans (below_2set (w.heap.size + 1) (by omega) _ _)).drew
    · go_wp2_with fail
      refine (image_any (w.heap.size + 1 + 1) _ 2 _ hR5 (by omega) (by omega) (by omega)).mono ?_
      rintro e w6 ⟨v, m6, rfl, hO6, hS6, hR6, hF6⟩
      obtain ⟨D1, e1, D2, e2, rfl, h1, h2⟩ := hO6.form
      have hIa6 := (hIa5.fr hF6 (by omega) (by omega) (by omega))
      have hIb6 := (hIb5.fr hF6 (by omega) (by omega) (by omega))
      have hIb7 := hIb6.store (m' := m6) (mono_own h1 (by omega)) (mono_own h2 (by omega))
      have hF7 := fr_2set (hF5'.trans (hF6.mono (by omega))) w3.heap.size (by omega) (.slice D1 m6.bits.length e1) (.slice D2 m6.words.length e2)
      have hIa7 := hIa6.set2 hIb6.blk (by omega) (by omega) (.slice D1 m6.bits.length e1) (.slice D2 m6.words.length e2)
      obtain ⟨a0, a1, a2, a3, a4, a5, a6, a7⟩ := hIa6.facts
      obtain ⟨b0, b1, b2, b3, b4, b5, b6, b7⟩ := hIb6.facts
      go_wp2_with fail
      clear a0 a1 a2 a3 a4 a5 a6 a7 b0 b1 b2 b3 b4 b5 b6 b7
      obtain ⟨a0, a1, a2, a3, a4, a5, a6, a7⟩ := hIa7.facts
      obtain ⟨b0, b1, b2, b3, b4, b5, b6, b7⟩ := hIb7.facts
      go_region
      go_wp2
      refine bodyPost_ret (v := .tuple #[.agg #[.slice A1 m.bits.length c1, .slice A2 m.words.length c2], .agg #[.slice D1 m6.bits.length e1, .slice D2 m6.words.length e2]]) (by simp [results, Try.results38, go_sem, *]) rfl ⟨_, _, _, _, _, _, _, _, m, m6, rfl, ?_, ?_, hS2, hS6, ?_⟩
      · exact (OwnM.set4 hIa7 (i := w.heap.size) (j := w.heap.size + 1) (by omega) (by omega) _ _ _ _).mono (by omega)
      · exact (OwnM.set4 hIb7 (i := w.heap.size) (j := w.heap.size + 1) (by omega) (by omega) _ _ _ _).mono (by omega)
      · exact (((hF7.below (by omega)).trans (below_2set w.heap.size (Nat.le_refl _) _ _)).trans (below_2set (w.heap.size + 1) (by omega) _ _)).drew
  · have hl3 := L3.out
    rw [Int.toNat_natCast] at hl3 hR3
    have hs3 := hF3.size
    rw [hz2'] at hs3
    have hO3' : OwnB w3 w1.heap.size (.slice Af l3.length cf) l3 := mono_own hO3 (by rw [hz2']; omega)
    have hIb := hJ3.store (m' := ⟨l3, m.words⟩) hO3' hI3.oi
    have hIa := hI3.set2 hJ3.blk (by omega) (by omega) (.slice Af l3.length cf) (.slice A2 m.words.length c2)
    have hR4 := hR3.keep (below_2set (w2.heap.size + 1) (by omega) (.slice Af l3.length cf) (.slice A2 m.words.length c2))
    have hF4 := fr_2set (FB.trans (hF3.mono (by rw [hz2']; omega))) (w2.heap.size + 1) (by omega) (.slice Af l3.length cf) (.slice A2 m.words.length c2)
    have hs4 : w3.heap.size = ((w3.setCell ⟨w2.heap.size + 1, 0, none⟩ (.slice Af l3.length cf)).setCell ⟨w2.heap.size + 1, 1, none⟩ (.slice A2 m.words.length c2)).heap.size := by simp
    have hSb : smallM ⟨l3, m.words⟩ 17 9 := ⟨by simpa [hl3] using hS2.1, hS2.2⟩
    clear CA CB hJ2 hK2 FA FB hI2 hI3 hO3 hO3' hF3 hy2' hR2 hR3 hF2 c0 c1' z0 z1 d0 d1 y0 y1 e0 e1' a0 a1 f0 f1 b0 b1 hl3
    clear hJ3 o0 o1' p0 p1 q0 q1 r0 r1
    have hgg := hF4.size
    go_wp2_with fail
    refine (odd_any (w.heap.size + 1 + 1) _ 9 _ hR4 (by omega) (by omega) (by omega)).mono ?_
    rintro e w5 ⟨b, rfl, -, hR5, hF5⟩
    have hIa5 := hIa.fr hF5 (by omega) (by omega) (by omega)
    have hIb5 := hIb.fr hF5 (by omega) (by omega) (by omega)
    have hs5 := hF5.size
    rw [← hs4] at hs5
    have hF5' := hF4.trans (hF5.mono (by omega))
    clear hIa hIb hR4 hF4 hF5
    have n1 : w.heap.size ≠ w.heap.size + 1 := by omega
    have n2 : w.heap.size + 1 ≠ w.heap.size := by omega
    cases b
    · obtain ⟨a0, a1, a2, a3, a4, a5, a6, a7⟩ := hIa5.facts
      obtain ⟨b0, b1, b2, b3, b4, b5, b6, b7⟩ := hIb5.facts
      go_wp2_with fail
      go_region
      go_wp2
      refine bodyPost_ret (v := .tuple #[.agg #[.slice A1 m.bits.length c1, .slice A2 m.words.length c2], .agg #[.slice Af l3.length cf, .slice A2 m.words.length c2]]) (by simp [results, Try.results38, go_sem, *]) rfl ⟨_, _, _, _, _, _, _, _, m, ⟨l3, m.words⟩, rfl, ?_, ?_, hS2, hSb, ?_⟩
      · exact (OwnM.set4 hIa5 (i := w.heap.size) (j := w.heap.size + 1) (by omega) (by omega) _ _ _ _).mono (by omega)
      · exact (OwnM.set4 hIb5 (i := w.heap.size) (j := w.heap.size + 1) (by omega) (by omega) _ _ _ _).mono (by omega)
      · exact (((hF5'.below (by omega)).trans (below_2set w.heap.size (Nat.le_refl _) _ _)).trans (below_2set (w.heap.size + 1) (by omega) _ _)).drew
    · go_wp2_with fail
      refine (image_any (w.heap.size + 1 + 1) _ 2 _ hR5 (by omega) (by omega) (by omega)).mono ?_
      rintro e w6 ⟨v, m6, rfl, hO6, hS6, hR6, hF6⟩
      obtain ⟨D1, e1, D2, e2, rfl, h1, h2⟩ := hO6.form
      have hIa6 := (hIa5.fr hF6 (by omega) (by omega) (by omega))
      have hIb6 := (hIb5.fr hF6 (by omega) (by omega) (by omega))
      have hIb7 := hIb6.store (m' := m6) (mono_own h1 (by omega)) (mono_own h2 (by omega))
      have hF7 := fr_2set (hF5'.trans (hF6.mono (by omega))) (w2.heap.size + 1) (by omega) (.slice D1 m6.bits.length e1) (.slice D2 m6.words.length e2)
      have hIa7 := hIa6.set2 hIb6.blk (by omega) (by omega) (.slice D1 m6.bits.length e1) (.slice D2 m6.words.length e2)
      obtain ⟨a0, a1, a2, a3, a4, a5, a6, a7⟩ := hIa6.facts
      obtain ⟨b0, b1, b2, b3, b4, b5, b6, b7⟩ := hIb6.facts
      go_wp2_with fail
      clear a0 a1 a2 a3 a4 a5 a6 a7 b0 b1 b2 b3 b4 b5 b6 b7
      obtain ⟨a0, a1, a2, a3, a4, a5, a6, a7⟩ := hIa7.facts
      obtain ⟨b0, b1, b2, b3, b4, b5, b6, b7⟩ := hIb7.facts
      go_region
      go_wp2
      refine bodyPost_ret (v := .tuple #[.agg #[.slice A1 m.bits.length c1, .slice A2 m.words.length c2], .agg #[.slice D1 m6.bits.length e1, .slice D2 m6.words.length e2]]) (by simp [results, Try.results38, go_sem, *]) rfl ⟨_, _, _, _, _, _, _, _, m, m6, rfl, ?_, ?_, hS2, hS6, ?_⟩
      · exact (OwnM.set4 hIa7 (i := w.heap.size) (j := w.heap.size + 1) (by omega) (by omega) _ _ _ _).mono (by omega)
      · exact (OwnM.set4 hIb7 (i := w.heap.size) (j := w.heap.size + 1) (by omega) (by omega) _ _ _ _).mono (by omega)
      · exact (((hF7.below (by omega)).trans (below_2set w.heap.size (Nat.le_refl _) _ _)).trans (below_2set (w.heap.size + 1) (by omega) _ _)).drew
end Go.Proofs.Ytoagnajljdbobaa
