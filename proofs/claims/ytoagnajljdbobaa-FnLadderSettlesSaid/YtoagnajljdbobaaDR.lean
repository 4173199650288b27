/- The contract of a drawn rung. -/
import Derived.Test.YtoagnajljdbobaaRS
import Derived.Test.YtoagnajljdbobaaDD
namespace Go.Proofs.Ytoagnajljdbobaa
open Go.RowKit
attribute [local go_sem ↓] Go.wp_at_zero Go.wp_at_succ

def smR (r : Rg) : Prop := (∀ x ∈ r.logic, smN x) ∧ r.logic.length ≤ 40 ∧ (-2000 ≤ r.coil ∧ r.coil ≤ 2000) ∧ (-2000 ≤ r.kind ∧ r.kind ≤ 2000)
def RungPost (g P : Nat) (w : World) (e : Ending) (w' : World) : Prop :=
  ∃ v r, e = .returned (rgV v r) ∧ OwnS w' w.heap.size v r.logic ∧ smR r ∧ Rdr w' g (P + 60) ∧ Fr w.heap.size g w w'
theorem blkR {w w' : World} {k t g : Nat} {cs : Array Value} (hf : Fr w.heap.size g w w') (h : w.heap[k]? = some (.cells cs t (0, 0))) (hk : k ≠ g) : w'.heap[k]? = some (.cells cs t (0, 0)) := (hf.block k (blk_lt h) hk).trans h
theorem blkR3 {w : World} {k t : Nat} {x y z : Value} (h : w.heap[k]? = some (.cells #[x, y, z] t (0, 0))) :
    (w.cell? ⟨k, 0, none⟩ = some x ∧ w.cell? ⟨k, 1, none⟩ = some y ∧ w.cell? ⟨k, 2, none⟩ = some z) ∧ w.frozen? ⟨k, 0, none⟩ = false ∧ w.frozen? ⟨k, 1, none⟩ = false ∧ w.frozen? ⟨k, 2, none⟩ = false :=
  ⟨⟨blk_cell h 0, blk_cell h 1, blk_cell h 2⟩, blk_frozen h 0, blk_frozen h 1, blk_frozen h 2⟩
set_option maxHeartbeats 4000000 in
theorem rung_any (g P : Nat) (n low bad : Int) (w : World) (hw : Rdr w g P) (hP : P + 300 ≤ 1000000) (hn0 : 0 ≤ n) (hn : n ≤ 1000) (hl0 : 0 ≤ low) (hl : low ≤ n) (hb1 : -1000000 ≤ bad) (hb2 : bad ≤ 1000000) :
    Calls Try.prog 101 #[.pointer (some ⟨g, 0, none⟩), .int .i64 n, .int .i64 low, .int .i64 bad] w (RungPost g P w) := by
  have hgl := hw.lt
  go_enter Try.func101, Try.ntmps101
  have x0 := heap_alloc_new w (.cells #[.slice none 0 0, .int .i64 0, .int .i64 0] 58)
  have hw1 := hw.below ((Below.refl _ _).alloc (Nat.le_refl _) (.cells #[.slice none 0 0, .int .i64 0, .int .i64 0] 58))
  have hF0 := (Fr.refl w.heap.size g w).alloc (Nat.le_refl _) (.cells #[.slice none 0 0, .int .i64 0, .int .i64 0] 58)
  go_wp2_with fail
  refine (expr_z g P _ bad _ hw1 (by omega) hn0 hn hb1 hb2).mono ?_
  rintro e w1 ⟨V, L, rfl, hO1, hl1, hsm, hR1, hF1⟩
  have x1 := blkR hF1 x0 (by omega)
  replace hO1 := hO1.mono (b' := w.heap.size + 1) (by simp)
  replace hF1 := hF0.trans (hF1.mono (by simp))
  have hs1 := hF1.size
  obtain ⟨B, off, cap, rfl, -, -, -⟩ := hO1.form
  clear hw hw1 hF0 x0
  go_wp2_with fail
  all_goals
    refine (pick_any g _ _ _ hR1 (by omega) (by omega)).mono ?_
    rintro e w2 ⟨r2, rfl, hr2, hR2, hF2⟩
    have x2 := blkR hF2 x1 (by omega)
    have hO2 := hF2.ownS hO1 (by omega)
    have hF2' := hF1.trans (hF2.mono hs1)
    have hs2 := hF2'.size
    have hR2a := hR2.below ((Below.refl _ _).alloc (Nat.le_refl _) (.cells #[.int .i64 1, .int .i64 1, .int .i64 2, .int .i64 3] 3))
    have hc : 0 ≤ low + r2 ∧ low + r2 ≤ 2000 := by omega
    clear hR1 hF1 hO1 x1 hF2 hs1
    go_wp2_with fail
    refine (pick_any g _ 4 _ hR2a (by omega) (by omega)).mono ?_
    rintro e w3 ⟨r3, rfl, hr3, hR3, hF3⟩
    obtain ⟨k0, k1, k2⟩ := hF3.kept w2.heap.size (by simp) (by have := hR2.lt; omega) (by simp)
    have x3 := blkR hF3 (blk_alloc x2 _) (by omega)
    have hO3 := hF3.ownS (hO2.alloc _) (by omega)
    have hF3' := (hF2'.alloc hs2 _).trans (hF3.mono (by simp; omega))
    have hs3 := hF3'.size
    obtain ⟨kd, hkd, hidx⟩ : ∃ kd : Int, (0 ≤ kd ∧ kd ≤ 4) ∧ w3.cell? ⟨w2.heap.size, r3.toNat, none⟩ = some (.int .i64 kd) := by
      have h3 : r3 = 0 ∨ r3 = 1 ∨ r3 = 2 ∨ r3 = 3 := by omega
      rcases h3 with rfl | rfl | rfl | rfl
      · exact ⟨1, by omega, by simp [k0]⟩
      · exact ⟨1, by omega, by simp [k0]⟩
      · exact ⟨2, by omega, by simp [k0]⟩
      · exact ⟨3, by omega, by simp [k0]⟩
    have hi3 : r3 < 4 := by omega
    obtain ⟨⟨c0, c1, c2⟩, z0, z1, z2⟩ := blkR3 x3
    clear hR2 hR2a hF2' hO2 x2 hF3 k0 k1 k2 hs2 hr2
    go_wp2_with fail
    have xX := heap_alloc_new w3 (.cells #[(.slice (some ⟨B, off, none⟩) L.length cap), .int .i64 (low + r2), .int .i64 kd] 58)
    have xH := blk_alloc x3 (.cells #[(.slice (some ⟨B, off, none⟩) L.length cap), .int .i64 (low + r2), .int .i64 kd] 58)
    have hO := hO3.alloc (.cells #[(.slice (some ⟨B, off, none⟩) L.length cap), .int .i64 (low + r2), .int .i64 kd] 58)
    have hF := hF3'.alloc hs3 (.cells #[(.slice (some ⟨B, off, none⟩) L.length cap), .int .i64 (low + r2), .int .i64 kd] 58)
    have hR := hR3.below ((Below.refl _ _).alloc (Nat.le_refl _) (.cells #[(.slice (some ⟨B, off, none⟩) L.length cap), .int .i64 (low + r2), .int .i64 kd] 58))
    have hg3 := hR3.lt
    have hH3 := blk_lt x3
    clear x3 hO3 hF3' hR3 hidx
    refine (odd_any g _ bad _ hR (by omega) hb2 hb1).mono ?_
    rintro e wo1 ⟨b, rfl, hb, hRo, hFo⟩
    have xXo := blkR hFo xX (by omega)
    have xHo := blkR hFo xH (by omega)
    have hOo := hFo.ownS hO (by omega)
    have hFoo := hF.trans (hFo.mono hF.size)
    clear xX xH hO hF hR hFo hb
    have xX := xXo
    have xH := xHo
    have hO := hOo
    have hF := hFoo
    have hR := hRo
    clear xXo xHo hOo hFoo hRo
    cases b
    · go_wp2_with fail
      refine (odd_any g _ bad _ hR (by omega) hb2 hb1).mono ?_
      rintro e wo2 ⟨b, rfl, hb, hRo, hFo⟩
      have xXo := blkR hFo xX (by omega)
      have xHo := blkR hFo xH (by omega)
      have hOo := hFo.ownS hO (by omega)
      have hFoo := hF.trans (hFo.mono hF.size)
      clear xX xH hO hF hR hFo hb
      have xX := xXo
      have xH := xHo
      have hO := hOo
      have hF := hFoo
      have hR := hRo
      clear xXo xHo hOo hFoo hRo
      cases b
      · obtain ⟨⟨c0, c1, c2⟩, z0, z1, z2⟩ := blkR3 xX
        obtain ⟨⟨d0, d1, d2⟩, y0, y1, y2⟩ := blkR3 xH
        go_wp2
        refine bodyPost_ret (v := .agg #[(.slice (some ⟨B, off, none⟩) L.length cap), .int .i64 (low + r2), .int .i64 kd]) (by simp [results, Try.results101, go_sem, *]) rfl ⟨_, ⟨L, (low + r2), kd⟩, rfl, ?_, ⟨hsm, hl1, by simp; omega, by simp; omega⟩, ?_, ?_⟩
        · exact (((hO.set_o (by simp) _).set_o (by simp) _).set_o (by simp) _).mono (by omega)
        · exact (((hR.setCell hgl _).setCell hgl _).setCell hgl _).mono (by omega)
        · exact ((hF.setCell (.inl (Nat.le_refl _)) _).setCell (.inl (Nat.le_refl _)) _).setCell (.inl (Nat.le_refl _)) _
      · have hs := hF.size
        have hRa := hR.below ((Below.refl _ _).alloc (Nat.le_refl _) (.cells #[.int .i64 0, .int .i64 4] 3))
        go_wp2_with fail
        refine (pick_any g _ 2 _ hRa (by omega) (by omega)).mono ?_
        rintro e wb ⟨rb, rfl, hrb, hRb, hFb⟩
        obtain ⟨k0, k1, k2⟩ := hFb.kept wo2.heap.size (by simp) (by have := hR.lt; omega) (by simp)
        have xX' := blkR hFb (blk_alloc xX _) (by omega)
        have xH' := blkR hFb (blk_alloc xH _) (by omega)
        have hO' := hFb.ownS (hO.alloc _) (by omega)
        have hF' := (hF.alloc hs _).trans (hFb.mono (by simp; omega))
        obtain ⟨kd2, hkd2, hidx⟩ : ∃ v : Int, (0 ≤ v ∧ v ≤ 4) ∧ wb.cell? ⟨wo2.heap.size, rb.toNat, none⟩ = some (.int .i64 v) := by
          have h3 : rb = 0 ∨ rb = 1 := by omega
          rcases h3 with rfl | rfl
          · exact ⟨0, by omega, by simp [k0]⟩
          · exact ⟨4, by omega, by simp [k0]⟩
        have hib : rb < 2 := by omega
        obtain ⟨⟨c0, c1, c2⟩, z0, z1, z2⟩ := blkR3 xX'
        obtain ⟨⟨a0, a1, a2⟩, b0, b1, b2⟩ := blkR3 xH'
        have n1 : w.heap.size ≠ w3.heap.size := by omega
        have n2 : w3.heap.size ≠ w.heap.size := by omega
        clear xX xH hO hR hRa hF hs hFb k0 k1 k2
        go_wp2_with fail
        have xX := blk_set1 xX' 2 (.int .i64 kd2)
        have xH : (wb.setCell ⟨w3.heap.size, 2, none⟩ (.int .i64 kd2)).heap[w.heap.size]? = some (.cells #[.slice none 0 0, .int .i64 0, .int .i64 0] 58 (0, 0)) := (Below.heap_setCell _ _ _ _ (by simp; omega)).trans xH'
        have hO := hO'.set_s (p := ⟨w3.heap.size, 2, none⟩) 58 xX' rfl (.int .i64 kd2)
        have hF := hF'.setCell (p := ⟨w3.heap.size, 2, none⟩) (.inl (by simp; omega)) (.int .i64 kd2)
        have hR := hRb.setCell (p := ⟨w3.heap.size, 2, none⟩) (by simp; omega) (.int .i64 kd2)
        simp at xX
        clear xX' xH' hO' hF' hRb hidx
        refine bodyPost_ret (v := .agg #[(.slice (some ⟨B, off, none⟩) L.length cap), .int .i64 (low + r2), .int .i64 kd2]) (by simp [results, Try.results101, go_sem, *]) rfl ⟨_, ⟨L, (low + r2), kd2⟩, rfl, ?_, ⟨hsm, hl1, by simp; omega, by simp; omega⟩, ?_, ?_⟩
        · exact (((hO.set_o (by simp) _).set_o (by simp) _).set_o (by simp) _).mono (by omega)
        · exact (((hR.setCell hgl _).setCell hgl _).setCell hgl _).mono (by omega)
        · exact ((hF.setCell (.inl (Nat.le_refl _)) _).setCell (.inl (Nat.le_refl _)) _).setCell (.inl (Nat.le_refl _)) _
    · have hs := hF.size
      have hRa := hR.below ((Below.refl _ _).alloc (Nat.le_refl _) (.cells #[.int .i64 (-1), .int .i64 n] 3))
      go_wp2_with fail
      refine (pick_any g _ 2 _ hRa (by omega) (by omega)).mono ?_
      rintro e wb ⟨rb, rfl, hrb, hRb, hFb⟩
      obtain ⟨k0, k1, k2⟩ := hFb.kept wo1.heap.size (by simp) (by have := hR.lt; omega) (by simp)
      have xX' := blkR hFb (blk_alloc xX _) (by omega)
      have xH' := blkR hFb (blk_alloc xH _) (by omega)
      have hO' := hFb.ownS (hO.alloc _) (by omega)
      have hF' := (hF.alloc hs _).trans (hFb.mono (by simp; omega))
      obtain ⟨co2, hco2, hidx⟩ : ∃ v : Int, (-1 ≤ v ∧ v ≤ 1000) ∧ wb.cell? ⟨wo1.heap.size, rb.toNat, none⟩ = some (.int .i64 v) := by
        have h3 : rb = 0 ∨ rb = 1 := by omega
        rcases h3 with rfl | rfl
        · exact ⟨-1, by omega, by simp [k0]⟩
        · exact ⟨n, by omega, by simp [k0]⟩
      have hib : rb < 2 := by omega
      obtain ⟨⟨c0, c1, c2⟩, z0, z1, z2⟩ := blkR3 xX'
      obtain ⟨⟨a0, a1, a2⟩, b0, b1, b2⟩ := blkR3 xH'
      have n1 : w.heap.size ≠ w3.heap.size := by omega
      have n2 : w3.heap.size ≠ w.heap.size := by omega
      clear xX xH hO hR hRa hF hs hFb k0 k1 k2
      go_wp2_with fail
      have xX := blk_set1 xX' 1 (.int .i64 co2)
      have xH : (wb.setCell ⟨w3.heap.size, 1, none⟩ (.int .i64 co2)).heap[w.heap.size]? = some (.cells #[.slice none 0 0, .int .i64 0, .int .i64 0] 58 (0, 0)) := (Below.heap_setCell _ _ _ _ (by simp; omega)).trans xH'
      have hO := hO'.set_s (p := ⟨w3.heap.size, 1, none⟩) 58 xX' rfl (.int .i64 co2)
      have hF := hF'.setCell (p := ⟨w3.heap.size, 1, none⟩) (.inl (by simp; omega)) (.int .i64 co2)
      have hR := hRb.setCell (p := ⟨w3.heap.size, 1, none⟩) (by simp; omega) (.int .i64 co2)
      simp at xX
      clear xX' xH' hO' hF' hRb hidx
      go_wp2_with fail
      refine (odd_any g _ bad _ hR (by omega) hb2 hb1).mono ?_
      rintro e wo2 ⟨b, rfl, hb, hRo, hFo⟩
      have xXo := blkR hFo xX (by omega)
      have xHo := blkR hFo xH (by omega)
      have hOo := hFo.ownS hO (by omega)
      have hFoo := hF.trans (hFo.mono hF.size)
      clear xX xH hO hF hR hFo hb
      have xX := xXo
      have xH := xHo
      have hO := hOo
      have hF := hFoo
      have hR := hRo
      clear xXo xHo hOo hFoo hRo
      cases b
      · obtain ⟨⟨c0, c1, c2⟩, z0, z1, z2⟩ := blkR3 xX
        obtain ⟨⟨d0, d1, d2⟩, y0, y1, y2⟩ := blkR3 xH
        go_wp2
        refine bodyPost_ret (v := .agg #[(.slice (some ⟨B, off, none⟩) L.length cap), .int .i64 co2, .int .i64 kd]) (by simp [results, Try.results101, go_sem, *]) rfl ⟨_, ⟨L, co2, kd⟩, rfl, ?_, ⟨hsm, hl1, by simp; omega, by simp; omega⟩, ?_, ?_⟩
        · exact (((hO.set_o (by simp) _).set_o (by simp) _).set_o (by simp) _).mono (by omega)
        · exact (((hR.setCell hgl _).setCell hgl _).setCell hgl _).mono (by omega)
        · exact ((hF.setCell (.inl (Nat.le_refl _)) _).setCell (.inl (Nat.le_refl _)) _).setCell (.inl (Nat.le_refl _)) _
      · have hs := hF.size
        have hRa := hR.below ((Below.refl _ _).alloc (Nat.le_refl _) (.cells #[.int .i64 0, .int .i64 4] 3))
        go_wp2_with fail
        refine (pick_any g _ 2 _ hRa (by omega) (by omega)).mono ?_
        rintro e wb ⟨rb, rfl, hrb, hRb, hFb⟩
        obtain ⟨k0, k1, k2⟩ := hFb.kept wo2.heap.size (by simp) (by have := hR.lt; omega) (by simp)
        have xX' := blkR hFb (blk_alloc xX _) (by omega)
        have xH' := blkR hFb (blk_alloc xH _) (by omega)
        have hO' := hFb.ownS (hO.alloc _) (by omega)
        have hF' := (hF.alloc hs _).trans (hFb.mono (by simp; omega))
        obtain ⟨kd2, hkd2, hidx⟩ : ∃ v : Int, (0 ≤ v ∧ v ≤ 4) ∧ wb.cell? ⟨wo2.heap.size, rb.toNat, none⟩ = some (.int .i64 v) := by
          have h3 : rb = 0 ∨ rb = 1 := by omega
          rcases h3 with rfl | rfl
          · exact ⟨0, by omega, by simp [k0]⟩
          · exact ⟨4, by omega, by simp [k0]⟩
        have hib : rb < 2 := by omega
        obtain ⟨⟨c0, c1, c2⟩, z0, z1, z2⟩ := blkR3 xX'
        obtain ⟨⟨a0, a1, a2⟩, b0, b1, b2⟩ := blkR3 xH'
        have n1 : w.heap.size ≠ w3.heap.size := by omega
        have n2 : w3.heap.size ≠ w.heap.size := by omega
        clear xX xH hO hR hRa hF hs hFb k0 k1 k2
        go_wp2_with fail
        have xX := blk_set1 xX' 2 (.int .i64 kd2)
        have xH : (wb.setCell ⟨w3.heap.size, 2, none⟩ (.int .i64 kd2)).heap[w.heap.size]? = some (.cells #[.slice none 0 0, .int .i64 0, .int .i64 0] 58 (0, 0)) := (Below.heap_setCell _ _ _ _ (by simp; omega)).trans xH'
        have hO := hO'.set_s (p := ⟨w3.heap.size, 2, none⟩) 58 xX' rfl (.int .i64 kd2)
        have hF := hF'.setCell (p := ⟨w3.heap.size, 2, none⟩) (.inl (by simp; omega)) (.int .i64 kd2)
        have hR := hRb.setCell (p := ⟨w3.heap.size, 2, none⟩) (by simp; omega) (.int .i64 kd2)
        simp at xX
        clear xX' xH' hO' hF' hRb hidx
        refine bodyPost_ret (v := .agg #[(.slice (some ⟨B, off, none⟩) L.length cap), .int .i64 co2, .int .i64 kd2]) (by simp [results, Try.results101, go_sem, *]) rfl ⟨_, ⟨L, co2, kd2⟩, rfl, ?_, ⟨hsm, hl1, by simp; omega, by simp; omega⟩, ?_, ?_⟩
        · exact (((hO.set_o (by simp) _).set_o (by simp) _).set_o (by simp) _).mono (by omega)
        · exact (((hR.setCell hgl _).setCell hgl _).setCell hgl _).mono (by omega)
        · exact ((hF.setCell (.inl (Nat.le_refl _)) _).setCell (.inl (Nat.le_refl _)) _).setCell (.inl (Nat.le_refl _)) _
end Go.Proofs.Ytoagnajljdbobaa
