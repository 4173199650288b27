/- Contracts of chapter 1: bits and words written by the specification. -/
import Derived.Test.YtoagnajljdbobaaH
namespace Go.Proofs.Ytoagnajljdbobaa
open Go.RowKit
attribute [local go_sem ↓] Go.wp_at_zero Go.wp_at_succ

set_option maxHeartbeats 400000 in
theorem sSetBit_bad (v : Value) (m : Img) (n : Int) (b : Bool) (w : World) (h : ImgR w w.heap.size v m) (hok : imgOK m = false) :
    Calls Try.prog 31 #[v, .int .i64 n, .bool b] w fun e w' => e = .returned img0 ∧ Below w.heap.size w w' := by
  have hW : ∀ o p, ImgR ((w.alloc o).alloc p) ((w.alloc o).alloc p).heap.size v m := fun o p => h.below (((Below.refl _ _).alloc (Nat.le_refl _) _).alloc (by simp) _)
  obtain ⟨v1, v2, rfl, h1, h2⟩ := h
  clear h1 h2
  go_enter Try.func31, Try.ntmps31
  go_wp2_with fail
  refine (sImageValid_any _ m _ (hW _ _)).mono ?_
  rintro e w1 ⟨rfl, hb1⟩
  have hc := old_cell hb1
  have hf := old_frozen hb1
  have hs := hb1.size
  simp at hs
  go_wp2
  refine bodyPost_ret (v := img0) (by simp [results, Try.results31, go_sem, img0, hc]) rfl ⟨rfl, ?_⟩
  exact (((((Below.refl _ _).alloc (Nat.le_refl _) _).alloc (by simp) _).trans (hb1.mono (by simp; omega))).setCell (by simp) _).setCell (by simp) _
set_option maxHeartbeats 1000000 in
theorem sSetBit_ok (v : Value) (m : Img) (n : Int) (b : Bool) (w : World) (h : ImgR w w.heap.size v m) (hok : imgOK m = true) :
    Calls Try.prog 31 #[v, .int .i64 n, .bool b] w fun e w' => ∃ v', e = .returned v' ∧ OwnM w' w.heap.size v' (setBitM m n b) ∧ Below w.heap.size w w' := by
  have hW : ∀ w1, Below w.heap.size w w1 → ImgR w1 w1.heap.size v m := fun w1 hb => h.below hb
  obtain ⟨hl, hl2⟩ := imgOK_len hok
  obtain ⟨v1, v2, rfl, hf1, hf2⟩ := h
  obtain ⟨A, c, rfl⟩ := hf1.form
  obtain ⟨A', c', rfl⟩ := hf2.form
  clear hf1 hf2
  have B0 : ∀ o p, Below w.heap.size w ((w.alloc o).alloc p) := fun o p => (((Below.refl _ _).alloc (Nat.le_refl _) _).alloc (by simp) _)
  have Hok := Lib.hid hok
  go_enter Try.func31, Try.ntmps31
  go_wp2_with fail
  refine (sImageValid_any _ m _ (hW _ (B0 _ _))).mono ?_
  rintro e w1 ⟨rfl, hb1⟩
  have B1 : Below w.heap.size w w1 := (B0 _ _).trans (hb1.mono (by simp; omega))
  obtain ⟨c0, f0, l0⟩ := kept hb1 w.heap.size (by simp; omega)
  obtain ⟨c1, f1, l1⟩ := kept hb1 (w.heap.size + 1) (by simp)
  go_wp2_with fail
  refine (l1Copy_any _ m _ (hW _ B1)).mono ?_
  rintro e w2 ⟨v', rfl, hO, hb2⟩
  have B2 : Below w.heap.size w w2 := B1.trans (hb2.mono (Nat.le_of_lt l0))
  obtain ⟨c20, f20, l20⟩ := kept hb2 w.heap.size l0
  obtain ⟨c21, f21, l21⟩ := kept hb2 (w.heap.size + 1) l1
  obtain ⟨A1, c1, A2, c2, rfl, h1, h2⟩ := hO.form
  clear hO hW B0 hb1
  have hs2 := hb2.size
  by_cases h0 : 0 ≤ n
  · by_cases h1' : n < m.bits.length
    · obtain ⟨k, rfl⟩ := Int.eq_ofNat_of_zero_le h0
      obtain ⟨g, rfl, hg1, hg2⟩ := own_addr h1 (by omega)
      have hc := World.ownsRow.cellAt h1 k (by omega)
      rw [List.getElem?_map, List.getElem?_eq_getElem (by omega)] at hc
      have hz := World.ownsRow.frozenAt h1 k
      have hst := World.ownsRow.stored h1 k (.bool b)
      have HO := Lib.hid hst
      clear hst
      have hg3 : g ≠ w2.heap.size := by omega
      have hg4 : g ≠ w.heap.size + 1 := by omega
      have hg5 : g ≠ w.heap.size := by omega
      have hg6 := hg4.symm
      have hg7 := hg3.symm
      have hg8 := hg5.symm
      go_wp2_with fail
      refine (l1In_in _ _ _ _ (by omega)).mono ?_
      rintro e w' ⟨rfl, rfl⟩
      go_wp2
      refine bodyPost_ret (v := .agg #[.slice (some ⟨g, 0, none⟩) m.bits.length c1, .slice A2 m.words.length c2]) (by simp [results, Try.results31, go_sem, *]) rfl ⟨_, rfl, ?_, ?_⟩
      · have e1 : setBitM m k b = ⟨m.bits.set k b, m.words⟩ := by have hok := Hok.out; unfold setBitM; rw [if_pos hok, if_pos (by omega), Int.toNat_natCast]
        rw [e1]
        refine ⟨_, _, rfl, ?_, ?_⟩
        · unfold OwnB
          rw [List.length_set, List.map_set]
          exact mono_own (World.ownsRow.alloc (own_2set HO.out.1 l1 _ _) _) (show w.heap.size ≤ w1.heap.size by omega)
        · exact mono_own (World.ownsRow.alloc (own_2set (World.ownsRow.kept h2 HO.out.2 (own_ne h2 h1 (by decide))) l1 _ _) _) (by omega)
      · exact (((B2.setCell (p := ⟨g, k, none⟩) (show w.heap.size ≤ g by omega) _).setCell (p := ⟨w.heap.size + 1, 0, none⟩) (show w.heap.size ≤ w.heap.size + 1 by omega) _).setCell (p := ⟨w.heap.size + 1, 1, none⟩) (show w.heap.size ≤ w.heap.size + 1 by omega) _).alloc (by simp; omega) _
    · go_wp2_with fail
      refine (l1In_out _ _ _ _ (by omega)).mono ?_
      rintro e w' ⟨rfl, rfl⟩
      go_wp2
      refine bodyPost_ret (v := .agg #[.slice A1 m.bits.length c1, .slice A2 m.words.length c2]) (by simp [results, Try.results31, go_sem, *]) rfl ⟨_, rfl, ?_, ?_⟩
      · have e1 : setBitM m n b = m := by have hok := Hok.out; unfold setBitM; rw [if_pos hok, if_neg (by omega)]
        rw [e1]
        exact ⟨_, _, rfl, mono_own (World.ownsRow.alloc (own_2set h1 l1 _ _) _) (by omega), mono_own (World.ownsRow.alloc (own_2set h2 l1 _ _) _) (by omega)⟩
      · exact ((B2.setCell (p := ⟨w.heap.size + 1, 0, none⟩) (show w.heap.size ≤ w.heap.size + 1 by omega) _).setCell (p := ⟨w.heap.size + 1, 1, none⟩) (show w.heap.size ≤ w.heap.size + 1 by omega) _).alloc (by simp; omega) _
  · go_wp2_with fail
    refine (l1In_out _ _ _ _ (by omega)).mono ?_
    rintro e w' ⟨rfl, rfl⟩
    go_wp2
    refine bodyPost_ret (v := .agg #[.slice A1 m.bits.length c1, .slice A2 m.words.length c2]) (by simp [results, Try.results31, go_sem, *]) rfl ⟨_, rfl, ?_, ?_⟩
    · have e1 : setBitM m n b = m := by have hok := Hok.out; unfold setBitM; rw [if_pos hok, if_neg (by omega)]
      rw [e1]
      exact ⟨_, _, rfl, mono_own (World.ownsRow.alloc (own_2set h1 l1 _ _) _) (by omega), mono_own (World.ownsRow.alloc (own_2set h2 l1 _ _) _) (by omega)⟩
    · exact ((B2.setCell (p := ⟨w.heap.size + 1, 0, none⟩) (show w.heap.size ≤ w.heap.size + 1 by omega) _).setCell (p := ⟨w.heap.size + 1, 1, none⟩) (show w.heap.size ≤ w.heap.size + 1 by omega) _).alloc (by simp; omega) _
theorem sSetBit_any (v : Value) (m : Img) (n : Int) (b : Bool) (w : World) (h : ImgR w w.heap.size v m) :
    Calls Try.prog 31 #[v, .int .i64 n, .bool b] w fun e w' => ∃ v', e = .returned v' ∧ OwnM w' w.heap.size v' (setBitM m n b) ∧ Below w.heap.size w w' := by
  by_cases hok : imgOK m = true
  · exact sSetBit_ok v m n b w h hok
  · refine (sSetBit_bad v m n b w h (by simpa using hok)).mono fun e w' ⟨he, hb⟩ => ⟨_, he, ?_, hb⟩
    unfold setBitM
    rw [if_neg hok]
    exact own_img0 _ _

set_option maxHeartbeats 400000 in
theorem sSetWord_bad (v : Value) (m : Img) (n x : Int) (w : World) (h : ImgR w w.heap.size v m) (hok : imgOK m = false) :
    Calls Try.prog 36 #[v, .int .i64 n, .int .i64 x] w fun e w' => e = .returned img0 ∧ Below w.heap.size w w' := by
  have hW : ∀ o p, ImgR ((w.alloc o).alloc p) ((w.alloc o).alloc p).heap.size v m := fun o p => h.below (((Below.refl _ _).alloc (Nat.le_refl _) _).alloc (by simp) _)
  obtain ⟨v1, v2, rfl, h1, h2⟩ := h
  clear h1 h2
  go_enter Try.func36, Try.ntmps36
  go_wp2_with fail
  refine (sImageValid_any _ m _ (hW _ _)).mono ?_
  rintro e w1 ⟨rfl, hb1⟩
  have hc := old_cell hb1
  have hf := old_frozen hb1
  have hs := hb1.size
  simp at hs
  go_wp2
  refine bodyPost_ret (v := img0) (by simp [results, Try.results36, go_sem, img0, hc]) rfl ⟨rfl, ?_⟩
  exact (((((Below.refl _ _).alloc (Nat.le_refl _) _).alloc (by simp) _).trans (hb1.mono (by simp; omega))).setCell (by simp) _).setCell (by simp) _
set_option maxHeartbeats 1000000 in
theorem sSetWord_ok (v : Value) (m : Img) (n x : Int) (w : World) (h : ImgR w w.heap.size v m) (hok : imgOK m = true) :
    Calls Try.prog 36 #[v, .int .i64 n, .int .i64 x] w fun e w' => ∃ v', e = .returned v' ∧ OwnM w' w.heap.size v' (setWordM m n x) ∧ Below w.heap.size w w' := by
  have hW : ∀ w1, Below w.heap.size w w1 → ImgR w1 w1.heap.size v m := fun w1 hb => h.below hb
  obtain ⟨hl, hl2⟩ := imgOK_len hok
  obtain ⟨v1, v2, rfl, hf1, hf2⟩ := h
  obtain ⟨A, c, rfl⟩ := hf1.form
  obtain ⟨A', c', rfl⟩ := hf2.form
  clear hf1 hf2
  have B0 : ∀ o p, Below w.heap.size w ((w.alloc o).alloc p) := fun o p => (((Below.refl _ _).alloc (Nat.le_refl _) _).alloc (by simp) _)
  have Hok := Lib.hid hok
  go_enter Try.func36, Try.ntmps36
  go_wp2_with fail
  refine (sImageValid_any _ m _ (hW _ (B0 _ _))).mono ?_
  rintro e w1 ⟨rfl, hb1⟩
  have B1 : Below w.heap.size w w1 := (B0 _ _).trans (hb1.mono (by simp; omega))
  obtain ⟨c0, f0, l0⟩ := kept hb1 w.heap.size (by simp; omega)
  obtain ⟨c1, f1, l1⟩ := kept hb1 (w.heap.size + 1) (by simp)
  go_wp2_with fail
  refine (l1Copy_any _ m _ (hW _ B1)).mono ?_
  rintro e w2 ⟨v', rfl, hO, hb2⟩
  have B2 : Below w.heap.size w w2 := B1.trans (hb2.mono (Nat.le_of_lt l0))
  obtain ⟨c20, f20, l20⟩ := kept hb2 w.heap.size l0
  obtain ⟨c21, f21, l21⟩ := kept hb2 (w.heap.size + 1) l1
  obtain ⟨A1, c1, A2, c2, rfl, h1, h2⟩ := hO.form
  clear hO hW B0 hb1
  have hs2 := hb2.size
  by_cases h0 : 0 ≤ n
  · by_cases h1' : n < m.words.length
    · obtain ⟨k, rfl⟩ := Int.eq_ofNat_of_zero_le h0
      obtain ⟨g, rfl, hg1, hg2⟩ := own_addr h2 (by omega)
      have hc := World.ownsRow.cellAt h2 k (by omega)
      rw [List.getElem?_map, List.getElem?_eq_getElem (by omega)] at hc
      have hz := World.ownsRow.frozenAt h2 k
      have hst := World.ownsRow.stored h2 k (.int .i64 (clipW x))
      have HO := Lib.hid hst
      clear hst
      have hg3 : g ≠ w2.heap.size := by omega
      have hg4 : g ≠ w.heap.size + 1 := by omega
      have hg5 : g ≠ w.heap.size := by omega
      have hg6 := hg4.symm
      have hg7 := hg3.symm
      have hg8 := hg5.symm
      go_wp2_with fail
      refine (l1In_in _ _ _ _ (by omega)).mono ?_
      rintro e w' ⟨rfl, rfl⟩
      go_wp2_with fail
      have i1 : (0 : Int) ≤ (k : Int) := by omega
      have hkeep : ∀ u, ((w2.setCell ⟨g, k, none⟩ u).alloc (.cells #[.slice A1 m.bits.length c1, .slice (some ⟨g, 0, none⟩) m.words.length c2] 26)).drew.cell? ⟨w2.heap.size, 1, none⟩ = some (.slice (some ⟨g, 0, none⟩) m.words.length c2) := by
        intro u
        have hk := cell_of_row _ _ 1 _ _ _ (heap_alloc_new (w2.setCell ⟨g, k, none⟩ u) (.cells #[.slice A1 m.bits.length c1, .slice (some ⟨g, 0, none⟩) m.words.length c2] 26))
        rw [show (w2.setCell ⟨g, k, none⟩ u).heap.size = w2.heap.size from by simp [World.setCell]] at hk
        exact hk
      have i2 : (k : Int) < (m.words.length : Int) := by omega
      go_region_held3 (fun w' => w'.cell? ⟨w2.heap.size, 1, none⟩ = some (.slice (some ⟨g, 0, none⟩) m.words.length c2)) (first | go_keep | exact hkeep _)
        (first | (go_at_call 90; refine (l1Clip_any _ _).mono ?_; rintro e w' ⟨rfl, rfl⟩))
      go_wp2
      refine bodyPost_ret (v := .agg #[.slice A1 m.bits.length c1, .slice (some ⟨g, 0, none⟩) m.words.length c2]) (by simp [results, Try.results36, go_sem, *]) rfl ⟨_, rfl, ?_, ?_⟩
      · have e1 : setWordM m k x = ⟨m.bits, m.words.set k (clipW x)⟩ := by have hok := Hok.out; unfold setWordM; rw [if_pos hok]; unfold setW; rw [if_pos (by omega), Int.toNat_natCast]
        rw [e1]
        refine ⟨_, _, rfl, ?_, ?_⟩
        · exact mono_own (World.ownsRow.alloc (own_2set (World.ownsRow.kept h1 HO.out.2 (own_ne h1 h2 (by decide))) l1 _ _) _) (by omega)
        · unfold OwnI
          rw [List.length_set, List.map_set]
          exact mono_own (World.ownsRow.alloc (own_2set HO.out.1 l1 _ _) _) (show w.heap.size ≤ w1.heap.size by omega)
      · exact Below.drew <| (((B2.setCell (p := ⟨g, k, none⟩) (show w.heap.size ≤ g by omega) _).setCell (p := ⟨w.heap.size + 1, 0, none⟩) (show w.heap.size ≤ w.heap.size + 1 by omega) _).setCell (p := ⟨w.heap.size + 1, 1, none⟩) (show w.heap.size ≤ w.heap.size + 1 by omega) _).alloc (by simp; omega) _
    · go_wp2_with fail
      refine (l1In_out _ _ _ _ (by omega)).mono ?_
      rintro e w' ⟨rfl, rfl⟩
      go_wp2
      refine bodyPost_ret (v := .agg #[.slice A1 m.bits.length c1, .slice A2 m.words.length c2]) (by simp [results, Try.results36, go_sem, *]) rfl ⟨_, rfl, ?_, ?_⟩
      · have e1 : setWordM m n x = m := by have hok := Hok.out; unfold setWordM; rw [if_pos hok]; unfold setW; rw [if_neg (by omega)]
        rw [e1]
        exact ⟨_, _, rfl, mono_own (World.ownsRow.alloc (own_2set h1 l1 _ _) _) (by omega), mono_own (World.ownsRow.alloc (own_2set h2 l1 _ _) _) (by omega)⟩
      · exact ((B2.setCell (p := ⟨w.heap.size + 1, 0, none⟩) (show w.heap.size ≤ w.heap.size + 1 by omega) _).setCell (p := ⟨w.heap.size + 1, 1, none⟩) (show w.heap.size ≤ w.heap.size + 1 by omega) _).alloc (by simp; omega) _
  · go_wp2_with fail
    refine (l1In_out _ _ _ _ (by omega)).mono ?_
    rintro e w' ⟨rfl, rfl⟩
    go_wp2
    refine bodyPost_ret (v := .agg #[.slice A1 m.bits.length c1, .slice A2 m.words.length c2]) (by simp [results, Try.results36, go_sem, *]) rfl ⟨_, rfl, ?_, ?_⟩
    · have e1 : setWordM m n x = m := by have hok := Hok.out; unfold setWordM; rw [if_pos hok]; unfold setW; rw [if_neg (by omega)]
      rw [e1]
      exact ⟨_, _, rfl, mono_own (World.ownsRow.alloc (own_2set h1 l1 _ _) _) (by omega), mono_own (World.ownsRow.alloc (own_2set h2 l1 _ _) _) (by omega)⟩
    · exact ((B2.setCell (p := ⟨w.heap.size + 1, 0, none⟩) (show w.heap.size ≤ w.heap.size + 1 by omega) _).setCell (p := ⟨w.heap.size + 1, 1, none⟩) (show w.heap.size ≤ w.heap.size + 1 by omega) _).alloc (by simp; omega) _
theorem sSetWord_any (v : Value) (m : Img) (n x : Int) (w : World) (h : ImgR w w.heap.size v m) :
    Calls Try.prog 36 #[v, .int .i64 n, .int .i64 x] w fun e w' => ∃ v', e = .returned v' ∧ OwnM w' w.heap.size v' (setWordM m n x) ∧ Below w.heap.size w w' := by
  by_cases hok : imgOK m = true
  · exact sSetWord_ok v m n x w h hok
  · refine (sSetWord_bad v m n x w h (by simpa using hok)).mono fun e w' ⟨he, hb⟩ => ⟨_, he, ?_, hb⟩
    unfold setWordM
    rw [if_neg hok]
    exact own_img0 _ _
end Go.Proofs.Ytoagnajljdbobaa
