/- Rungs: the program's RunLadder and RunRung. -/
import Derived.Test.YtlpoeijjlkdceaaRd
import Derived.Test.YtlpoeijjlkdceaaRq
namespace Go.Proofs.Ytlpoeijjlkdceaa
open Go.RowKit
attribute [local go_sem ↓] Go.wp_at_zero Go.wp_at_succ

theorem runLad_bits (m : Img) (ps : List (Value × Rg)) (h1 : imgOK m = true) (h2 : ladvalid (lads ps) m.bits.length = true) :
    runLadM m (lads ps) = ⟨boolsOf (runSL (setTo m.bits m.bits.length) (lads ps)) m.bits.length, m.words⟩ := by
  have h16 : m.bits.length ≤ 16 := by unfold imgOK at h1; simp at h1; exact h1.1
  have hv : ∀ r ∈ lads ps, rvalid r m.bits.length = true := by
    unfold ladvalid at h2; simp only [Bool.and_eq_true, List.all_eq_true] at h2; exact h2.1
  rw [runSL_bools _ _ _ (setTo_lt _ _) hv h16, boolsOf_setTo m.bits h16]
  unfold runLadM; simp [h1, h2]
set_option maxHeartbeats 2000000 in
theorem iRunLadder_any (vm vl : Value) (m : Img) (ps : List (Value × Rg)) (w : World) (hm : ImgR w w.heap.size vm m) (h : LadR w w.heap.size vl ps) :
    Calls Try.prog 33 #[vm, vl] w (RgRunP (runLadM m (lads ps)) w) := by
  have HM := Lib.hid (fun (w' : World) (hb : Below w.heap.size w w') => hm.below hb)
  have HL := Lib.hid (fun (w' : World) (hb : Below w.heap.size w w') => h.below hb)
  obtain ⟨v1, v2, rfl, hB, hW⟩ := hm
  have HB := Lib.hid (fun (w' : World) (hb : Below w.heap.size w w') => hB.below hb)
  have HW := Lib.hid (fun (w' : World) (hb : Below w.heap.size w w') => hW.below hb)
  obtain ⟨A1, c1, rfl, -, -⟩ := hB
  obtain ⟨A2, c2, rfl, -, -⟩ := hW
  obtain ⟨A, c, rfl, -, -, h3⟩ := h
  have H3 := Lib.hid (fun (w' : World) (hb : Below w.heap.size w w') (p : Value × Rg) (hp : p ∈ ps) => (h3 p hp).1.below hb)
  clear h3
  go_enter Try.func33, Try.ntmps33
  go_wp2_with fail
  refine (iImageValid_any _ m _ (HM.out _ (((Below.refl _ _).alloc (Nat.le_refl _) _).alloc (by simp) _))).mono ?_
  rintro e w1 ⟨rfl, hb1⟩
  have m0 := blk_alloc (heap_alloc_new w (.cells #[.slice A1 m.bits.length c1, .slice A2 m.words.length c2] 38)) (.cells #[.slice none 0 0, .slice none 0 0] 38)
  have r0 := heap_alloc_new (w.alloc (.cells #[.slice A1 m.bits.length c1, .slice A2 m.words.length c2] 38)) (.cells #[.slice none 0 0, .slice none 0 0] 38)
  simp only [World.size_alloc] at r0
  have m1 := (hb1.block _ (blk_lt m0)).trans m0
  have r1 := (hb1.block _ (blk_lt r0)).trans r0
  have b1 : Below w.heap.size w w1 := (((Below.refl _ _).alloc (Nat.le_refl _) _).alloc (by simp) _).trans (hb1.mono (by simp; omega))
  clear m0 r0 hb1
  obtain ⟨a0, a1, -, -⟩ := blk2 m1
  obtain ⟨e0, e1, f0, f1⟩ := blk2 r1
  have M1 := Lib.hid m1
  have R1 := Lib.hid r1
  clear m1 r1
  cases hi : imgOK m
  · have HZ := Lib.hid (show runLadM m (lads ps) = ⟨[], []⟩ by unfold runLadM; simp [hi])
    have lt1 := blk_lt R1.out
    go_wp2
    refine bodyPost_ret (v := .agg #[.slice none 0 0, .slice none 0 0]) (by simp [results, Try.results33, go_sem, *]) rfl ⟨_, rfl, by rw [HZ.out]; exact ⟨_, _, rfl, World.ownsRow_nil _ _ _ _, World.ownsRow_nil _ _ _ _⟩, ?_⟩
    exact (b1.setCell (by simp) _).setCell (by simp) _
  · have HI := Lib.hid hi
    have h16 : m.bits.length ≤ 16 ∧ m.words.length ≤ 8 := by unfold imgOK at hi; simp at hi; exact ⟨hi.1, hi.2.1⟩
    go_wp2_with fail
    refine (iLadderValid_any _ ps m.bits.length _ (HL.out _ b1)).mono ?_
    rintro e w2 ⟨rfl, hb2⟩
    have m2 := (hb2.block _ (blk_lt M1.out)).trans M1.out
    have r2 := (hb2.block _ (blk_lt R1.out)).trans R1.out
    have b2 := b1.trans (hb2.mono b1.size)
    clear a0 a1 e0 e1 f0 f1 hb2 M1 R1
    obtain ⟨a0, a1, -, -⟩ := blk2 m2
    obtain ⟨e0, e1, f0, f1⟩ := blk2 r2
    have M2 := Lib.hid m2
    have R2 := Lib.hid r2
    clear m2 r2
    cases hv : ladvalid (lads ps) m.bits.length
    · have HZ := Lib.hid (show runLadM m (lads ps) = ⟨[], []⟩ by unfold runLadM; simp [hv])
      have lt1 := blk_lt R2.out
      go_wp2
      refine bodyPost_ret (v := .agg #[.slice none 0 0, .slice none 0 0]) (by simp [results, Try.results33, go_sem, *]) rfl ⟨_, rfl, by rw [HZ.out]; exact ⟨_, _, rfl, World.ownsRow_nil _ _ _ _, World.ownsRow_nil _ _ _ _⟩, ?_⟩
      exact (b2.setCell (by simp) _).setCell (by simp) _
    · have HZ := Lib.hid (runLad_bits m ps hi hv)
      have hall : ∀ p ∈ ps, rvalid p.2 m.bits.length = true := by
        rw [ladvalid_eq] at hv; simp only [Bool.and_eq_true, List.all_eq_true] at hv; exact hv.1
      have h12 : ps.length ≤ 12 := by
        rw [ladvalid_eq] at hv; simp only [Bool.and_eq_true, decide_eq_true_eq] at hv; exact hv.2
      have HALL := Lib.hid hall
      have hlt := setTo_lt m.bits m.bits.length
      obtain ⟨S, hS⟩ : ∃ S, S = setTo m.bits m.bits.length := ⟨_, rfl⟩
      rw [← hS] at hlt
      have HS := Lib.hid hS
      clear hall hS
      go_wp2_with fail
      refine (bitSetOf_any _ m.bits _ (HB.out _ b2)).mono ?_
      rintro e w3 ⟨rfl, rfl⟩
      rw [← HS.out]
      go_wp2_with fail
      refine (rungSteps_any _ ps _ (HL.out _ b2) h12).mono ?_
      rintro e w3 ⟨vs, rfl, hO, hb3⟩
      obtain ⟨As, cs, rfl, -, -⟩ := own_form hO
      have m3 := (hb3.block _ (blk_lt M2.out)).trans M2.out
      have r3 := (hb3.block _ (blk_lt R2.out)).trans R2.out
      have b3 := b2.trans (hb3.mono b2.size)
      clear a0 a1 e0 e1 f0 f1 hb3 M2 R2 hi hv
      have M3 := Lib.hid m3
      have R3 := Lib.hid r3
      clear m3 r3
      go_wp2_with fail
      go_loopw [5, 26] (fun s i wr => ∃ k : Nat, k ≤ ps.length ∧ i = .int .i64 k ∧ s = .int .u16 (runSL S (lads (ps.take k))) ∧ Below w3.heap.size w3 wr) (fun _ i _ => ps.length - (intOf i).toNat)
      case atStart => exact ⟨0, by omega, rfl, rfl, Below.refl _ _⟩
      case round =>
        obtain ⟨k, hk, rfl, rfl, hbr⟩ := hrel
        have hrl := runSL_lt S (lads (ps.take k)) hlt
        by_cases hlk : k < ps.length
        · obtain ⟨g, rfl, hg1, hg2⟩ := own_addr hO (by omega)
          have hc := hO.cellAt k (by omega)
          rw [List.getElem?_map, List.getElem?_eq_getElem hlk] at hc
          simp only [Option.map_some] at hc
          have hR := HALL.out ps[k] (List.getElem_mem hlk)
          have hN := H3.out wr (b3.trans (hbr.mono b3.size)) ps[k] (List.getElem_mem hlk)
          have hT := Lib.hid (show runSL S (lads (ps.take (k + 1))) = runS (runSL S (lads (ps.take k))) ps[k].2 by rw [lads_take ps k hlk, runSL_snoc])
          generalize ps[k] = x at hc hR hN hT
          obtain ⟨u, r⟩ := x
          simp only [stepV] at hc hR hN hT
          have hc' := (hbr.cell (p := ⟨g, k, none⟩) hg2).trans hc
          have i1 : (k : Int) < (ps.length : Int) := by omega
          generalize runSL S (lads (ps.take k)) = T at *
          have HD := Lib.hid (drive_any u r T m.bits.length wr hrl hN hR h16.1)
          clear hc hR hN hO
          go_wp2_with fail
          refine HD.out.mono ?_
          rintro e w4 ⟨rfl, hb4⟩
          go_wp2
          go_roundw
          case rel => exact ⟨k + 1, by omega, by go_num, by rw [hT.out], hbr.trans (hb4.mono hbr.size)⟩
          case measure => simp [intOf]; omega
        · obtain rfl : k = ps.length := by omega
          rw [List.take_length] at hrl ⊢
          have b4 := b3.trans (hbr.mono b3.size)
          have m4 := (hbr.block _ (blk_lt M3.out)).trans M3.out
          have r4 := (hbr.block _ (blk_lt R3.out)).trans R3.out
          have l4 := blk_lt r4
          obtain ⟨a0, a1, -, -⟩ := blk2 m4
          have M4 := Lib.hid m4
          have R4 := Lib.hid r4
          obtain ⟨T, hT⟩ : ∃ T, T = runSL S (lads ps) := ⟨_, rfl⟩
          rw [← hT] at hrl ⊢
          have HT := Lib.hid hT
          have HWb := Lib.hid (fun (W : World) (hb : Below w.heap.size w W) => clone_any _ m.words W (HW.out _ hb))
          have hlen := h16.1
          clear m4 r4 hT hO hbr
          go_wp2_with fail
          go_region_held3 (fun w' => w'.cell? ⟨w.heap.size, 0, none⟩ = some (.slice A1 m.bits.length c1) ∧ w'.cell? ⟨w.heap.size, 1, none⟩ = some (.slice A2 m.words.length c2)) (first | go_keep)
            (first
              | (go_at_call 84; refine (bools_any _ m.bits.length _ hrl (by omega)).mono ?_; rintro e w5 ⟨v', rfl, hown, hb5⟩; obtain ⟨A', c', rfl, -, -⟩ := own_form hown; have m5 := (hb5.block _ (blk_lt M4.out)).trans M4.out; have r5 := (hb5.block _ (blk_lt R4.out)).trans R4.out; have l5 := blk_lt r5; obtain ⟨c20, c21, -, -⟩ := blk2 m5; have B5 := (b4.drew).trans (hb5.mono b4.size))
              | (go_at_call 85; refine (HWb.out _ B5).mono ?_; rintro e w6 ⟨v3, rfl, hown3, hb6⟩; obtain ⟨A3, c3, rfl, -, -⟩ := own_form hown3; have m6 := (hb6.block _ (blk_lt m5)).trans m5; have r6 := (hb6.block _ (blk_lt r5)).trans r5; have l6 := blk_lt r6; obtain ⟨c30, c31, -, -⟩ := blk2 m6; obtain ⟨e0, e1, f0, f1⟩ := blk2 r6))
          go_wp2
          refine bodyPost_ret (v := .agg #[.slice A' (boolsOf T m.bits.length).length c', .slice A3 m.words.length c3]) (by simp [results, Try.results33, go_sem, *]) rfl ⟨_, rfl, ?_, ?_⟩
          · rw [HZ.out, ← HS.out, ← HT.out]
            refine ⟨_, _, rfl, ?_, ?_⟩
            · exact mono_own (ownsRow_setCell_below (a := ⟨w.heap.size + 1, 1, none⟩) (ownsRow_setCell_below (a := ⟨w.heap.size + 1, 0, none⟩) (own_below hown hb6) l4 _) l4 _) (by simp; omega)
            · exact mono_own (ownsRow_setCell_below (a := ⟨w.heap.size + 1, 1, none⟩) (ownsRow_setCell_below (a := ⟨w.heap.size + 1, 0, none⟩) hown3 l5 _) l5 _) (by omega)
          · exact ((B5.trans (hb6.mono B5.size)).setCell (by simp) _).setCell (by simp) _
theorem Rd.new3 (w : World) (u : Value) (r : Rg) (t : TypeId) : Rd (w.alloc (.cells #[u, .int .i64 r.coil, .int .i64 r.kind] t)) (w.heap.size + 1) 3 (some ⟨w.heap.size, 0, none⟩) 1 (cellsR [(u, r)]) := by
  refine ⟨rfl, fun _ => ⟨_, rfl, Nat.lt_succ_self _, fun j v hj => ?_⟩⟩
  match j, hj with
  | 0, hj => simp [cellsR] at hj; subst hj; simp [Addr.add]
  | 1, hj => simp [cellsR] at hj; subst hj; simp [Addr.add]
  | 2, hj => simp [cellsR] at hj; subst hj; simp [Addr.add]
theorem LadR.single {w : World} {B B' : Nat} {A : Option Addr} {u : Value} {r : Rg} (h : Rd w B 3 A 1 (cellsR [(u, r)])) (hn : NodesR w B' u r.logic) (hf : rgFit r) (e : B = B') : LadR w B' (.slice A 1 1) [(u, r)] := by
  subst e; exact ⟨A, 1, rfl, h, by simp, fun p hp => by simp at hp; subst hp; exact ⟨hn, hf⟩⟩
set_option maxHeartbeats 1000000 in
theorem iRunRung_any (vm vr : Value) (m : Img) (r : Rg) (w : World) (hm : ImgR w w.heap.size vm m) (h : RungR w w.heap.size vr r) :
    Calls Try.prog 26 #[vm, vr] w (RgRunP (runRungM m r) w) := by
  have HM := Lib.hid (fun (w' : World) (hb : Below w.heap.size w w') => hm.below hb)
  have HR := Lib.hid (fun (w' : World) (hb : Below w.heap.size w w') => h.below hb)
  obtain ⟨v1, v2, rfl, ⟨A1, c1, rfl, -, -⟩, ⟨A2, c2, rfl, -, -⟩⟩ := hm
  obtain ⟨u, rfl, hn, -⟩ := h
  obtain ⟨A, c, rfl, -⟩ := hn
  have HZ := Lib.hid (show runLadM m [r] = runRungM m r by unfold runLadM runRungM ladvalid runL; simp)
  obtain ⟨lg, co, ki⟩ := r
  unfold rgV at *
  simp only at HR ⊢
  go_enter Try.func26, Try.ntmps26
  go_wp2_with fail
  have B0 := ((((Below.refl w.heap.size w).alloc (Nat.le_refl _) (.cells #[.slice A1 m.bits.length c1, .slice A2 m.words.length c2] 38)).alloc (by simp) (.cells #[.slice A lg.length c, .int .i64 co, .int .i64 ki] 25)).alloc (by simp; omega) (.cells #[.slice none 0 0, .slice none 0 0] 38)).alloc (by simp; omega) (.cells #[.slice A lg.length c, .int .i64 co, .int .i64 ki] 25)
  have r0 := blk_alloc (heap_alloc_new ((w.alloc (.cells #[.slice A1 m.bits.length c1, .slice A2 m.words.length c2] 38)).alloc (.cells #[.slice A lg.length c, .int .i64 co, .int .i64 ki] 25)) (.cells #[.slice none 0 0, .slice none 0 0] 38)) (.cells #[.slice A lg.length c, .int .i64 co, .int .i64 ki] 25)
  have hRd := Rd.new3 (((w.alloc (.cells #[.slice A1 m.bits.length c1, .slice A2 m.words.length c2] 38)).alloc (.cells #[.slice A lg.length c, .int .i64 co, .int .i64 ki] 25)).alloc (.cells #[.slice none 0 0, .slice none 0 0] 38)) (.slice A lg.length c) ⟨lg, co, ki⟩ 25
  obtain ⟨u0, e0, hnn, hff⟩ := HR.out _ B0
  unfold rgV at e0
  simp only [Value.agg.injEq, Array.mk.injEq, List.cons.injEq, and_true] at e0
  obtain rfl := e0
  have hL := LadR.single hRd hnn hff (by simp)
  simp only [World.size_alloc] at hL
  have HC := Lib.hid (iRunLadder_any _ _ m [(.slice A lg.length c, (⟨lg, co, ki⟩ : Rg))] _ (HM.out _ B0) (by simpa only [World.size_alloc] using hL))
  simp only [World.size_alloc] at r0
  clear hRd hnn hff hL
  refine HC.out.mono ?_
  rintro e w1 ⟨u1, rfl, hO, hb1⟩
  rw [show lads [(.slice A lg.length c, (⟨lg, co, ki⟩ : Rg))] = [⟨lg, co, ki⟩] from rfl, HZ.out] at hO
  obtain ⟨U1, d1, U2, d2, rfl, hO1, hO2⟩ := hO.form
  have r1 := (hb1.block _ (blk_lt r0)).trans r0
  have l1 := blk_lt r1
  have b1 := B0.trans (hb1.mono (by simp; omega))
  obtain ⟨e0, e1, f0, f1⟩ := blk2 r1
  clear r0 r1 B0 hO
  go_wp2
  refine bodyPost_ret (v := .agg #[.slice U1 (runRungM m ⟨lg, co, ki⟩).bits.length d1, .slice U2 (runRungM m ⟨lg, co, ki⟩).words.length d2]) (by simp [results, Try.results26, go_sem, *]) rfl ⟨_, rfl, ⟨_, _, rfl, ?_, ?_⟩, ?_⟩
  · exact mono_own (ownsRow_setCell_below (a := ⟨w.heap.size + 1 + 1, 1, none⟩) (ownsRow_setCell_below (a := ⟨w.heap.size + 1 + 1, 0, none⟩) hO1 (by simp) _) (by simp) _) (by simp; omega)
  · exact mono_own (ownsRow_setCell_below (a := ⟨w.heap.size + 1 + 1, 1, none⟩) (ownsRow_setCell_below (a := ⟨w.heap.size + 1 + 1, 0, none⟩) hO2 (by simp) _) (by simp) _) (by simp; omega)
  · exact (b1.setCell (by simp; omega) _).setCell (by simp; omega) _
end Go.Proofs.Ytlpoeijjlkdceaa
