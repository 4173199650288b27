/- Contracts of the exact laws' helpers: marks read again; images copied, marked, read. -/
import Derived.Test.YtoagnajljdbobabEA
namespace Go.Proofs.Ytoagnajljdbobab
open Go.RowKit
attribute [local go_sem ↓] Go.wp_at_zero Go.wp_at_succ

theorem szImage_any (v : Value) (m : Img) (left : Int) (w : World) (h : ImgR w w.heap.size v m) (h1 : 0 ≤ left ∧ left ≤ 1048576) :
    Calls Try.prog 4 #[v, .int .i64 left] w fun e w' => ∃ r : Int, e = .returned (.int .i64 r) ∧ ((r = -1 ∧ left < m.bits.length + m.words.length) ∨ (0 ≤ r ∧ r = left - m.bits.length - m.words.length)) ∧ Below w.heap.size w w' := by
  obtain ⟨v1, v2, rfl, hb, hw⟩ := h
  obtain ⟨A1, c1, e1⟩ := hb.form
  obtain ⟨A2, c2, e2⟩ := hw.form
  subst e1; subst e2
  have fb : ∀ o, BoolsR (w.alloc o) (w.alloc o).heap.size (.slice A1 m.bits.length c1) m.bits := fun o => hb.below ((Below.refl _ _).alloc (Nat.le_refl _) _)
  have fw : ∀ o, IntsR (w.alloc o) (w.alloc o).heap.size (.slice A2 m.words.length c2) m.words := fun o => hw.below ((Below.refl _ _).alloc (Nat.le_refl _) _)
  clear hb hw
  have B0 : ∀ o, Below w.heap.size w (w.alloc o) := fun o => (Below.refl _ _).alloc (Nat.le_refl _) _
  by_cases g1 : left - m.bits.length < 0
  · go_enter Try.func4, Try.ntmps4
    go_wp2_with fail
    refine (szBoolS_any _ m.bits left _ (fb _) (by omega)).mono ?_
    rw [show szL m.bits.length left = -1 from by unfold szL; rw [if_pos g1]]
    rintro e w1 ⟨rfl, rfl⟩
    go_wp2
    go_ret
    exact ⟨_, rfl, .inl ⟨rfl, by omega⟩, B0 _⟩
  · have e1 : szL m.bits.length left = left - m.bits.length := by unfold szL; rw [if_neg g1]
    obtain ⟨q, hq⟩ : ∃ q, q = left - m.bits.length := ⟨_, rfl⟩
    rw [← hq] at e1
    have q0 : 0 ≤ q := by omega
    have q1 : q ≤ 1048576 := by omega
    have HQ := Lib.hid hq
    have HG := Lib.hid g1
    clear hq g1
    by_cases g2 : q - m.words.length < 0
    · go_enter Try.func4, Try.ntmps4
      go_wp2_with fail
      refine (szBoolS_any _ m.bits left _ (fb _) (by omega)).mono ?_
      rw [e1]
      rintro e w1 ⟨rfl, rfl⟩
      go_wp2_with fail
      refine (szIntS_any _ m.words q _ (fw _) (by omega)).mono ?_
      rw [show szL m.words.length q = -1 from by unfold szL; rw [if_pos g2]]
      rintro e w1 ⟨rfl, rfl⟩
      go_wp2
      go_ret
      exact ⟨_, rfl, .inl ⟨rfl, by have := HQ.out; omega⟩, B0 _⟩
    · go_enter Try.func4, Try.ntmps4
      go_wp2_with fail
      refine (szBoolS_any _ m.bits left _ (fb _) (by omega)).mono ?_
      rw [e1]
      rintro e w1 ⟨rfl, rfl⟩
      go_wp2_with fail
      refine (szIntS_any _ m.words q _ (fw _) (by omega)).mono ?_
      rw [show szL m.words.length q = q - m.words.length from by unfold szL; rw [if_neg (by omega)]]
      rintro e w1 ⟨rfl, rfl⟩
      go_wp2
      go_ret
      exact ⟨_, rfl, .inr ⟨by omega, by have := HQ.out; omega⟩, B0 _⟩

set_option maxHeartbeats 1000000 in
theorem toImage_any (v : Value) (m : Img) (w : World) (h : ImgR w w.heap.size v m) :
    Calls Try.prog 7 #[v] w fun e w' => ∃ v', e = .returned v' ∧ OwnM w' w.heap.size v' m ∧ Below w.heap.size w w' := by
  obtain ⟨v1, v2, rfl, hb, hw⟩ := h
  obtain ⟨A1, c1, e1⟩ := hb.form
  obtain ⟨A2, c2, e2⟩ := hw.form
  subst e1; subst e2
  have fb : ∀ w1, Below w.heap.size w w1 → BoolsR w1 w1.heap.size (.slice A1 m.bits.length c1) m.bits := fun w1 h => hb.below h
  have fw : ∀ w1, Below w.heap.size w w1 → IntsR w1 w1.heap.size (.slice A2 m.words.length c2) m.words := fun w1 h => hw.below h
  clear hb hw
  have B0 : ∀ o p q, Below w.heap.size w (((w.alloc o).alloc p).alloc q) := fun o p q => (((Below.refl _ _).alloc (Nat.le_refl _) _).alloc (by simp) _).alloc (by simp; omega) _
  go_enter Try.func7, Try.ntmps7
  go_wp2_with fail
  refine (toBoolS_any _ m.bits _ (fb _ (B0 _ _ _))).mono ?_
  rintro e w1 ⟨u1, rfl, hO1, hb1⟩
  obtain ⟨a0, a1, a2⟩ := kept hb1 w.heap.size (by simp; omega)
  obtain ⟨a3, a4, a5⟩ := kept hb1 (w.heap.size + 1) (by simp)
  obtain ⟨a6, a7, a8⟩ := kept hb1 (w.heap.size + 1 + 1) (by simp)
  obtain ⟨U1, d1, rfl, -, -⟩ := own_form hO1
  have B1 : Below w.heap.size w (w1.setCell ⟨w.heap.size + 1 + 1, 0, none⟩ (.slice U1 m.bits.length d1)) := ((B0 _ _ _).trans (hb1.mono (by simp; omega))).setCell (by simp; omega) _
  have hO1' := ownsRow_setCell_below (a := ⟨w.heap.size + 1 + 1, 0, none⟩) hO1 (by simp) (.slice U1 m.bits.length d1)
  clear hO1
  go_wp2_with fail
  refine (toIntS_any _ m.words _ (fw _ B1)).mono ?_
  rintro e w2 ⟨u2, rfl, hO2, hb2⟩
  obtain ⟨k0, k1, k2⟩ := kept hb2 w.heap.size (by simpa using a2)
  obtain ⟨k3, k4, k5⟩ := kept hb2 (w.heap.size + 1) (by simpa using a5)
  obtain ⟨k6, k7, k8⟩ := kept hb2 (w.heap.size + 1 + 1) (by simpa using a8)
  obtain ⟨U2, d2, rfl, -, -⟩ := own_form hO2
  have hO3 := own_below hO1' hb2
  go_wp2
  refine bodyPost_ret (v := .agg #[.slice U1 m.bits.length d1, .slice U2 m.words.length d2]) (by simp [results, Try.results7, go_sem, *]) rfl ⟨_, rfl, ⟨_, _, rfl, ?_, ?_⟩, ?_⟩
  · exact mono_own (ownsRow_setCell_below (a := ⟨w.heap.size + 1, 1, none⟩) (ownsRow_setCell_below (a := ⟨w.heap.size + 1, 0, none⟩) (ownsRow_setCell_below (a := ⟨w.heap.size + 1 + 1, 1, none⟩) hO3 (by simp) _) (by simp) _) (by simp) _) (by simp; omega)
  · exact mono_own (ownsRow_setCell_below (a := ⟨w.heap.size + 1, 1, none⟩) (ownsRow_setCell_below (a := ⟨w.heap.size + 1, 0, none⟩) (ownsRow_setCell_below (a := ⟨w.heap.size + 1 + 1, 1, none⟩) hO2 (by simpa using a8) _) (by simpa using a5) _) (by simpa using a5) _) (by simp; omega)
  · exact (((B1.trans (hb2.mono (by simp; omega))).setCell (by simp; omega) _).setCell (by simp) _).setCell (by simp) _

/-- An image of the call's own, in blocks of [lo, hi). -/
def OwnMX (w : World) (lo hi : Nat) (v : Value) (m : Img) : Prop := ∃ v1 v2, v = .agg #[v1, v2] ∧ OwnX w lo hi 4 1 v1 m.bits.length (m.bits.map .bool) ∧ OwnX w lo hi 3 1 v2 m.words.length (m.words.map (.int .i64))
theorem OwnMX.of {w : World} {lo : Nat} {v : Value} {m : Img} (h : OwnM w lo v m) : OwnMX w lo w.heap.size v m := by
  obtain ⟨v1, v2, rfl, h1, h2⟩ := h; exact ⟨v1, v2, rfl, OwnX.of h1, OwnX.of h2⟩
theorem OwnMX.out {w w' : World} {lo hi lo2 hi2 : Nat} {v : Value} {m : Img} (h : OwnMX w lo hi v m) (ho : Out lo2 hi2 w w') (hd : hi ≤ lo2 ∨ hi2 ≤ lo) : OwnMX w' lo hi v m := by
  obtain ⟨v1, v2, rfl, h1, h2⟩ := h; exact ⟨v1, v2, rfl, h1.out ho hd, h2.out ho hd⟩
theorem OwnMX.below {w w' : World} {lo hi : Nat} {v : Value} {m : Img} (h : OwnMX w lo hi v m) (hb : Below w.heap.size w w') : OwnMX w' lo hi v m := by
  obtain ⟨v1, v2, rfl, h1, h2⟩ := h; exact ⟨v1, v2, rfl, h1.below hb, h2.below hb⟩
theorem OwnMX.form {w : World} {lo hi : Nat} {v : Value} {m : Img} (h : OwnMX w lo hi v m) : ∃ A1 c1 A2 c2, v = .agg #[.slice A1 m.bits.length c1, .slice A2 m.words.length c2] ∧ OwnX w lo hi 4 1 (.slice A1 m.bits.length c1) m.bits.length (m.bits.map .bool) ∧ OwnX w lo hi 3 1 (.slice A2 m.words.length c2) m.words.length (m.words.map (.int .i64)) := by
  obtain ⟨v1, v2, rfl, h1, h2⟩ := h
  obtain ⟨A1, c1, rfl, -, -⟩ := own_form h1.1
  obtain ⟨A2, c2, rfl, -, -⟩ := own_form h2.1
  exact ⟨A1, c1, A2, c2, rfl, h1, h2⟩
/-- An image that is no larger than the exact laws let in. -/
def fineM (m : Img) : Prop := m.bits.length ≤ 1048576 ∧ m.words.length ≤ 1048576 ∧ ∀ x ∈ m.words, -9223372036854775808 ≤ x ∧ x ≤ 9223372036854775807
theorem OwnMX.read {w : World} {lo hi : Nat} {v : Value} {m : Img} (h : OwnMX w lo hi v m) (hs : fineM m) : ImgR w w.heap.size v m := by
  obtain ⟨v1, v2, rfl, h1, h2⟩ := h
  obtain ⟨a, b, c⟩ := hs
  exact ⟨v1, v2, rfl, OwnB.read h1.1 (by omega), OwnI.read h2.1 (by omega) c⟩
def markM (m : Img) (k : Nat) : Img := ⟨markB m.bits.length k, markI m.words.length (k + m.bits.length)⟩
theorem fine_mark {m : Img} (h : fineM m) (k : Nat) (hk : k ≤ 1000000) : fineM (markM m k) := by
  refine ⟨by simpa [markM, markB_len] using h.1, by simpa [markM, markI_len] using h.2.1, fun x hx => ?_⟩
  simp only [markM, markI, List.mem_map, List.mem_range] at hx
  obtain ⟨i, hi, rfl⟩ := hx
  have := h.1; have := h.2.1
  omega
/-- Writing one row of an image leaves the other, which has another element type. -/
theorem OwnX.beside {w w' : World} {lo hi e e2 sz sz2 n n2 : Nat} {v v2 : Value} {xs xs2 : List Value} (h : OwnX w lo hi e sz v n xs) (h2 : OwnX w lo hi e2 sz2 v2 n2 xs2) (he : e ≠ e2) (hs : w'.heap.size = w'.heap.size)
    (hg : ∀ k, k < w.heap.size → some k ≠ v2.ownBlock → w'.heap[k]? = w.heap[k]?) : OwnX w' lo hi e sz v n xs := by
  have _ := hs
  refine ⟨⟨h.1.1, ?_⟩, h.2⟩
  rcases h.1.2 with h' | ⟨g, cap, cur, rfl, h1, h3, h4⟩
  · exact .inl h'
  · refine .inr ⟨g, cap, cur, rfl, h1, (hg g (Array.getElem?_eq_some_iff.1 h3).1 ?_).trans h3, h4⟩
    rcases own_ne h.1 h2.1 he with h5 | h5
    · simp [Value.ownBlock] at h5
    · exact h5
end Go.Proofs.Ytoagnajljdbobab
