/- The laws of RungValid and LadderValid: their walks. -/
import Derived.Test.YtlpoeijjlkdceaaDM
import Derived.Test.YtlpoeijjlkdceaaW
import Derived.Test.YtlpoeijjlkdceaaRI
namespace Go.Proofs.Ytlpoeijjlkdceaa
open Go.RowKit
attribute [local go_sem ↓] Go.wp_at_zero Go.wp_at_succ

theorem rv_more {r : Rg} {n : Int} (h : rvalid r n = true) : rvalid r (n + 1) = true := by
  obtain ⟨h1, h2, h3⟩ := rvalid_parts h
  exact rvalid_make (lvalid_mono h1 (by omega)) ⟨h2.1, by omega⟩ h3
theorem rv_coil (lg : List Nd) (ki n : Int) : rvalid ⟨lg, n, ki⟩ n = false := by unfold rvalid; simp
theorem rv_kind (lg : List Nd) (co n : Int) : rvalid ⟨lg, co, 4⟩ n = false := by unfold rvalid; simp
theorem FnRungValid_long (a : Option Addr) (n c : Nat) (w : World) (h : 1048576 < n) (_hn : n ≤ 9223372036854775807) : Calls Try.prog 3 #[.slice a n c] w (LawPost w) := by
  go_enter Try.func3, Try.ntmps3
  go_wp2
  go_ret
  exact ⟨rfl, Below.refl _ _⟩
set_option maxHeartbeats 1000000 in
theorem FnRungValid_core (v : Value) (bl : List Int) (w : World) (h : BytesR w w.heap.size v bl) (hl : bl.length ≤ 1048576) :
    Calls Try.prog 3 #[v] w (LawPost w) := by
  have HO := Lib.hid (drawRungValid_any v bl w h)
  have h2 := h.form
  obtain ⟨A0, c0, rfl, -⟩ := h
  clear h2
  go_enter Try.func3, Try.ntmps3
  go_wp2_with fail
  refine HO.out.mono ?_
  rintro e w1 ⟨vr, ⟨lg, co, ki⟩, n, rfl, ⟨u, eu, hN, hf⟩, hsm, hn, hb1⟩
  clear HO
  unfold rgV at eu ⊢
  simp only [Value.agg.injEq, Array.mk.injEq, List.cons.injEq, and_true] at eu hN hf ⊢
  obtain rfl := eu
  have HN := Lib.hid (fun (W : World) (hb : Below w1.heap.size w1 W) => hN.below hb)
  obtain ⟨A, c, rfl, -⟩ := hN
  have hfc := hf.1
  have hfk := hf.2
  have HR := Lib.hid (fun (W : World) (hb : Below w1.heap.size w1 W) => (⟨_, rfl, HN.out W hb, hf⟩ : RungR W W.heap.size (rgV (.slice A lg.length c) ⟨lg, co, ki⟩) ⟨lg, co, ki⟩))
  have HRa := Lib.hid (fun (W : World) (hb : Below w1.heap.size w1 W) => (⟨_, rfl, HN.out W hb, ⟨show fit64 n by unfold fit64; omega, hfk⟩⟩ : RungR W W.heap.size (rgV (.slice A lg.length c) ⟨lg, n, ki⟩) ⟨lg, n, ki⟩))
  have HRb := Lib.hid (fun (W : World) (hb : Below w1.heap.size w1 W) => (⟨_, rfl, HN.out W hb, ⟨hfc, show fit64 4 by unfold fit64; omega⟩⟩ : RungR W W.heap.size (rgV (.slice A lg.length c) ⟨lg, co, 4⟩) ⟨lg, co, 4⟩))
  unfold rgV at HR HRa HRb
  simp only at HR HRa HRb
  have B0 : Below w1.heap.size w1 (w1.alloc (.cells #[.slice A lg.length c, .int .i64 co, .int .i64 ki] 25)) := (Below.refl _ _).alloc (Nat.le_refl _) _
  have m0 := heap_alloc_new w1 (.cells #[.slice A lg.length c, .int .i64 co, .int .i64 ki] 25)
  clear hf hfc hfk hsm
  go_wp2_with fail
  refine (iRungValid_any _ ⟨lg, co, ki⟩ n _ (HR.out _ B0)).mono ?_
  rintro e w2 ⟨rfl, hb2⟩
  have B2 := B0.trans (hb2.mono B0.size)
  have m2 := (hb2.block _ (blk_lt m0)).trans m0
  obtain ⟨a0, a1, a2⟩ := blk3k m2
  clear hb2 m0 B0
  go_wp2_with fail
  refine (sRungValid_any _ ⟨lg, co, ki⟩ n _ (HR.out _ B2)).mono ?_
  rintro e w3 ⟨rfl, hb3⟩
  have B3 := B2.trans (hb3.mono B2.size)
  have m3 := (hb3.block _ (blk_lt m2)).trans m2
  have b3 := hb1.trans (B3.mono hb1.size)
  clear a0 a1 a2 hb3 m2 B2
  obtain ⟨a0, a1, a2⟩ := blk3k m3
  have l3 := blk_lt m3
  have l1 := hb1.size
  cases hv : rvalid ⟨lg, co, ki⟩ n
  · go_wp2_with fail
    refine (alive_any _).mono ?_
    rintro e w4 ⟨rfl, hb4⟩
    go_wp2
    go_ret
    exact ⟨rfl, b3.trans (hb4.mono b3.size)⟩
  · have e1 := Lib.hid (rv_more hv)
    clear hv
    have B4 := (B3.alloc B3.size (.cells #[.slice A lg.length c, .int .i64 n, .int .i64 ki] 25)).alloc (by have := B3.size; simp; omega) (.cells #[.slice A lg.length c, .int .i64 co, .int .i64 4] 25)
    have x4 := blk_alloc (heap_alloc_new w3 (.cells #[.slice A lg.length c, .int .i64 n, .int .i64 ki] 25)) (.cells #[.slice A lg.length c, .int .i64 co, .int .i64 4] 25)
    have y4 := heap_alloc_new (w3.alloc (.cells #[.slice A lg.length c, .int .i64 n, .int .i64 ki] 25)) (.cells #[.slice A lg.length c, .int .i64 co, .int .i64 4] 25)
    simp only [World.size_alloc] at y4
    go_wp2_with fail
    refine (iRungValid_any _ ⟨lg, co, ki⟩ (n + 1) _ (HR.out _ B4)).mono ?_
    rintro e w5 ⟨rfl, hb5⟩
    have B5 := B4.trans (hb5.mono B4.size)
    have x5 := (hb5.block _ (blk_lt x4)).trans x4
    have y5 := (hb5.block _ (blk_lt y4)).trans y4
    rw [e1.out]
    clear hb5 x4 y4 B4 a0 a1 a2 m3
    obtain ⟨a0, a1, a2⟩ := blk3k x5
    go_wp2_with fail
    refine (iRungValid_any _ ⟨lg, n, ki⟩ n _ (HRa.out _ B5)).mono ?_
    rintro e w6 ⟨rfl, hb6⟩
    have B6 := B5.trans (hb6.mono B5.size)
    have y6 := (hb6.block _ (blk_lt y5)).trans y5
    rw [rv_coil lg ki n]
    clear hb6 x5 y5 B5 a0 a1 a2
    obtain ⟨a0, a1, a2⟩ := blk3k y6
    go_wp2_with fail
    refine (iRungValid_any _ ⟨lg, co, 4⟩ n _ (HRb.out _ B6)).mono ?_
    rintro e w7 ⟨rfl, hb7⟩
    have B7 := B6.trans (hb7.mono B6.size)
    rw [rv_kind lg co n]
    go_wp2
    go_ret
    exact ⟨rfl, hb1.trans (B7.mono hb1.size)⟩
theorem ladvalid_take {l : List Rg} {n : Int} (h : ladvalid l n = true) (k : Nat) : ladvalid (l.take k) n = true := by
  unfold ladvalid at *
  simp only [Bool.and_eq_true, List.all_eq_true, decide_eq_true_eq] at *
  exact ⟨fun r hr => h.1 r (List.mem_of_mem_take hr), by rw [List.length_take]; omega⟩
theorem lads_takeN (ps : List (Value × Rg)) (k : Nat) : lads (ps.take k) = (lads ps).take k := by unfold lads; rw [List.map_take]
theorem FnLadderValid_long (a : Option Addr) (n c : Nat) (w : World) (h : 1048576 < n) (_hn : n ≤ 9223372036854775807) : Calls Try.prog 4 #[.slice a n c] w (LawPost w) := by
  go_enter Try.func4, Try.ntmps4
  go_wp2
  go_ret
  exact ⟨rfl, Below.refl _ _⟩
set_option maxHeartbeats 1000000 in
theorem FnLadderValid_core (v : Value) (bl : List Int) (w : World) (h : BytesR w w.heap.size v bl) (hl : bl.length ≤ 1048576) :
    Calls Try.prog 4 #[v] w (LawPost w) := by
  have HO := Lib.hid (drawLadderValid_any v bl w h)
  have h2 := h.form
  obtain ⟨A0, c0, rfl, -⟩ := h
  clear h2
  go_enter Try.func4, Try.ntmps4
  go_wp2_with fail
  refine HO.out.mono ?_
  rintro e w1 ⟨vr, ps, n, rfl, hL, hsm, hn, hb1⟩
  clear HO
  have h24 := hsm.1
  have HL := Lib.hid (fun (W : World) (hb : Below w1.heap.size w1 W) => hL.below hb)
  obtain ⟨A, c, rfl, -, hc, -⟩ := hL
  have hcl := hc.1
  clear hsm hc
  go_wp2_with fail
  refine (iLadderValid_any _ ps n _ (HL.out _ (Below.refl _ _))).mono ?_
  rintro e w2 ⟨rfl, hb2⟩
  go_wp2_with fail
  refine (sLadderValid_any _ ps n _ (HL.out _ hb2)).mono ?_
  rintro e w3 ⟨rfl, hb3⟩
  have B3 := hb2.trans (hb3.mono hb2.size)
  have b3 := hb1.trans (B3.mono hb1.size)
  clear hb2 hb3
  have e0 := Lib.hid (show ladvalid (lads []) n = true by rfl)
  cases hv : ladvalid (lads ps) n
  · go_wp2_with fail
    refine (iLadderValid_any _ [] n _ (LadR.nil _ _)).mono ?_
    rintro e w4 ⟨rfl, hb4⟩
    rw [e0.out]
    have b4 := b3.trans (hb4.mono b3.size)
    go_wp2_with fail
    refine (alive_any _).mono ?_
    rintro e w5 ⟨rfl, hb5⟩
    go_wp2
    go_ret
    exact ⟨rfl, b4.trans (hb5.mono b4.size)⟩
  · have e1 := Lib.hid (ladvalid_take hv (ps.length / 2))
    clear hv
    go_wp2_with fail
    refine (iLadderValid_any _ [] n _ (LadR.nil _ _)).mono ?_
    rintro e w4 ⟨rfl, hb4⟩
    rw [e0.out]
    have B4 := B3.trans (hb4.mono B3.size)
    have b4 := b3.trans (hb4.mono b3.size)
    have i1 : ¬ ((ps.length : Int) / 2 < 0) := by omega
    have i2 : (ps.length : Int) / 2 ≤ c := by omega
    go_wp2_with fail
    refine (iLadderValid_any _ (ps.take (ps.length / 2)) n _ ((HL.out _ B4).front (ps.length / 2) (by omega))).mono ?_
    rintro e w5 ⟨rfl, hb5⟩
    rw [lads_takeN, e1.out]
    have b5 := b4.trans (hb5.mono b4.size)
    go_wp2_with fail
    refine (alive_any _).mono ?_
    rintro e w6 ⟨rfl, hb6⟩
    go_wp2
    go_ret
    exact ⟨rfl, b5.trans (hb6.mono b5.size)⟩
end Go.Proofs.Ytlpoeijjlkdceaa
