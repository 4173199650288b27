/- The law of RunLadder: plain facts, the parts of a ladder. -/
import Derived.Test.YtoagnajljdbobaaWc
namespace Go.Proofs.Ytoagnajljdbobaa
open Go.RowKit
attribute [local go_sem ↓] Go.wp_at_zero Go.wp_at_succ

theorem runL_other (bs : List Bool) (l : List Rg) (k : Nat) (h : ∀ r ∈ l, r.coil.toNat ≠ k) : (runL bs l)[k]? = bs[k]? := by
  unfold runL
  induction l generalizing bs with
  | nil => rfl
  | cons r l ih =>
    rw [List.foldl_cons, ih _ (fun x hx => h x (List.mem_cons_of_mem _ hx)), runB_other _ _ _ (h r List.mem_cons_self)]
theorem coils_mem (l : List Rg) (x : Int) : x ∈ coilsL l ↔ (0 ≤ x ∧ x < 16) ∧ ∃ r ∈ l, r.coil = x := by
  rw [← coilsL_set, numsTo_mem]
  constructor
  · rintro ⟨h0, h1, h2⟩
    rw [coilsS_bit l _ (by omega), List.any_eq_true] at h2
    obtain ⟨r, hr, hp⟩ := h2
    exact ⟨⟨h0, h1⟩, r, hr, by simp at hp; omega⟩
  · rintro ⟨⟨h0, h1⟩, r, hr, he⟩
    refine ⟨h0, by omega, ?_⟩
    rw [coilsS_bit l _ (by omega), List.any_eq_true]
    exact ⟨r, hr, by simp; omega⟩
theorem runLad_parts (m : Img) (l : List Rg) (h1 : imgOK m = true) (h2 : ladvalid l m.bits.length = true) : runLadM m l = ⟨runL m.bits l, m.words⟩ := by
  unfold runLadM; simp [h1, h2]
theorem ladvalid_drop {l : List Rg} {n : Int} (h : ladvalid l n = true) (k : Nat) : ladvalid (l.drop k) n = true := by
  unfold ladvalid at *
  simp only [Bool.and_eq_true, List.all_eq_true, decide_eq_true_eq] at *
  exact ⟨fun r hr => h.1 r (List.mem_of_mem_drop hr), by rw [List.length_drop]; omega⟩
theorem imgOK_of (bs : List Bool) (m : Img) (h : imgOK m = true) (hb : bs.length = m.bits.length) : imgOK ⟨bs, m.words⟩ = true := by
  unfold imgOK at *; simpa [hb] using h
/-- Executing a ladder is executing its first part and then its second part. -/
theorem runLad_two (m : Img) (l : List Rg) (k : Nat) (h1 : imgOK m = true) (h2 : ladvalid l m.bits.length = true) : runLadM (runLadM m (l.take k)) (l.drop k) = runLadM m l := by
  rw [runLad_parts m l h1 h2, runLad_parts m _ h1 (ladvalid_take h2 k),
    runLad_parts ⟨runL m.bits (l.take k), m.words⟩ _ (imgOK_of _ m h1 (runL_length _ _)) (by show ladvalid _ ((runL m.bits (l.take k)).length : Int) = true; rw [runL_length]; exact ladvalid_drop h2 k)]
  show (⟨runL (runL m.bits (l.take k)) (l.drop k), m.words⟩ : Img) = _
  rw [← runL_append, List.take_append_drop]
theorem small_runLad {m : Img} {a b : Nat} (l : List Rg) (h : smallM m a b) : smallM (runLadM m l) a b := by
  unfold runLadM
  split
  · exact ⟨by show (runL m.bits l).length ≤ a; rw [runL_length]; exact h.1, h.2.1, h.2.2⟩
  · exact ⟨by simp, by simp, by simp⟩
theorem LadR.empty (w : World) (B : Nat) (A : Option Addr) (c : Nat) : LadR w B (.slice A 0 c) [] := ⟨A, c, rfl, ⟨rfl, fun h => absurd h (by simp)⟩, by simp, by simp⟩
theorem lads_dropN (ps : List (Value × Rg)) (k : Nat) : lads (ps.drop k) = (lads ps).drop k := by unfold lads; rw [List.map_drop]
/-- The second part of a ladder, as a slice: list[k:]. -/
theorem rest_run (w0 : World) (B0 : Nat) (A : Option Addr) (c : Nat) (ps : List (Value × Rg)) (k : Nat) (hk : k ≤ ps.length) (x : Int) (hx : x = (k : Int)) (h : LadR w0 B0 (.slice A ps.length c) ps) :
    ∃ A', (∀ w, (Instr.slice 64 (.slice A ps.length c) (some (.int .i64 x)) none none).run Try.prog w = .ok (.slice A' (ps.length - k) (c - k)) w) ∧
      ∀ w B, LadR w B (.slice A ps.length c) ps → LadR w B (.slice A' (ps.length - k) (c - k)) (ps.drop k) := by
  subst hx
  have hsz : ∀ w, (sizeOf (Try.prog.elem 64)).run Try.prog w = .ok 3 w := fun _ => by kernel_rfl
  have hrun : ∀ w, (Instr.slice 64 (.slice A ps.length c) (some (.int .i64 (k : Int))) none none).run Try.prog w = .ok (sliced A k ps.length c 3) w := by
    intro w
    rw [run_slice_l _ _ _ _ _ (by kernel_rfl) .i64 (k : Int) (by omega) (by omega), hsz]
    rfl
  refine ⟨if c = k then A else A.map (·.add (k * 3)), fun w => by rw [hrun]; rfl, fun w B hw => ?_⟩
  rcases Nat.eq_zero_or_pos ps.length with h0 | h0
  · obtain rfl : ps = [] := List.eq_nil_of_length_eq_zero h0
    simp only [List.length_nil, Nat.zero_sub, List.drop_nil]
    exact LadR.empty _ _ _ _
  · obtain ⟨p, rfl⟩ : ∃ p, A = some p := by
      obtain ⟨_, _, e, hr, -⟩ := hw
      injection e with e1 _ _
      subst e1
      obtain ⟨p, hp, -⟩ := hr.at_ h0
      exact ⟨p, hp⟩
    have hc : ps.length ≤ c := by
      obtain ⟨_, _, e, _, hl, -⟩ := hw
      injection e with _ _ e3
      subst e3
      exact hl.1
    have hq := LadR.rest hw k hk (if c = k then p else p.add (k * 3)) (fun hlt => by rw [if_neg (by omega)])
    by_cases hck : c = k
    · rw [if_pos hck] at hq ⊢; exact hq
    · rw [if_neg hck] at hq ⊢; exact hq
theorem FnRunLadder_long (a : Option Addr) (n c : Nat) (w : World) (h : 1048576 < n) (_hn : n ≤ 9223372036854775807) : Calls Try.prog 13 #[.slice a n c] w (LawPost w) := by
  go_enter Try.func13, Try.ntmps13
  go_wp2
  go_ret
  exact ⟨rfl, Below.refl _ _⟩
set_option maxRecDepth 100000 in
set_option maxHeartbeats 4000000 in
theorem FnRunLadder_core (v : Value) (bl : List Int) (w : World) (h : BytesR w w.heap.size v bl) (hl : bl.length ≤ 1048576) :
    Calls Try.prog 13 #[v] w (LawPost w) := by
  have HO := Lib.hid (drawRunLadder_any v bl w h)
  have h2 := h.form
  obtain ⟨A0, c0, rfl, -⟩ := h
  clear h2
  go_enter Try.func13, Try.ntmps13
  go_wp2_with fail
  refine HO.out.mono ?_
  rintro e w1 ⟨vm, vl, m, ps, rfl, hOm, hS, hL, hsm, hb1⟩
  clear HO
  obtain ⟨A1, c1, A2, c2, rfl, -, -⟩ := hOm.form
  have HL := Lib.hid (fun (W : World) (hb : Below w1.heap.size w1 W) => hL.below hb)
  obtain ⟨A, c, rfl, -, hcl, -⟩ := id hL
  obtain ⟨A', hrun, hrest⟩ := rest_run w1 w1.heap.size A c ps (ps.length / 2) (by omega) ((ps.length : Int) / 2) (by omega) hL
  have HRUN := Lib.hid hrun
  have HREST := Lib.hid hrest
  have hbl := hS.1
  have hwl := hS.2.1
  have h24 := hsm.1
  have hll : ∀ p ∈ ps, p.2.logic.length ≤ 2000000 := fun p hp => by have := (hsm.2 p hp).2.1; omega
  have HLL := Lib.hid hll
  have hc := hcl.1
  have hS2 := small_runLad (lads ps) hS
  have HY := Lib.hid (fun l => small_runLad (m := m) l hS)
  have HM := Lib.hid (fun (W : World) (hb : Below w1.heap.size w1 W) => (hOm.keep_ hb).readF (by omega) hS.fit)
  have m0 := heap_alloc_new w1 (.cells #[.slice A1 m.bits.length c1, .slice A2 m.words.length c2] 26)
  have B0 := (Below.refl w1.heap.size w1).alloc (Nat.le_refl _) (.cells #[.slice A1 m.bits.length c1, .slice A2 m.words.length c2] 26)
  have HSF := Lib.hid hS.fit
  have HSF2 := Lib.hid hS2.fit
  clear hsm hOm hS hL hll hcl hrun hrest
  go_wp2_with fail
  refine (iRunLadder_any _ _ m ps _ (HM.out _ B0) (HL.out _ B0)).mono ?_
  rintro e w2 ⟨xv, rfl, hOx, hb2⟩
  obtain ⟨X1, d1, X2, d2, rfl, -, -⟩ := hOx.form
  have m2 := (hb2.block _ (blk_lt m0)).trans m0
  have B2 := B0.trans (hb2.mono B0.size)
  have hx2 := hS2.1
  have hx3 := hS2.2.1
  have HX := Lib.hid (fun (W : World) (hb : Below w2.heap.size w2 W) => (hOx.keep_ hb).readF (by omega) HSF2.out)
  clear hb2 m0 B0 hOx hS2
  obtain ⟨X, hX⟩ : ∃ X, X = runLadM m (lads ps) := ⟨_, rfl⟩
  rw [← hX] at HX hx2 hx3 HSF2 ⊢
  have HXE := Lib.hid hX
  clear hX
  have x3 := heap_alloc_new w2 (.cells #[.slice X1 X.bits.length d1, .slice X2 X.words.length d2] 26)
  have B3' : Below w2.heap.size w2 (w2.alloc (.cells #[.slice X1 X.bits.length d1, .slice X2 X.words.length d2] 26)) := (Below.refl _ _).alloc (Nat.le_refl _) _
  have m3 := (B3'.block _ (blk_lt m2)).trans m2
  have hbs := hb1.trans ((B2.trans (B3'.mono B2.size)).mono hb1.size)
  go_wp2_with fail
  generalize hw3 : w2.alloc (.cells #[.slice X1 X.bits.length d1, .slice X2 X.words.length d2] 26) = w3 at x3 B3' m3 hbs ⊢
  have B3 := B2.trans (B3'.mono B2.size)
  have GM := Lib.hid (fun (W : World) (hb : Below w3.heap.size w3 W) => HM.out W (B3.trans (hb.mono B3.size)))
  have GL := Lib.hid (fun (W : World) (hb : Below w3.heap.size w3 W) => (show LadR W W.heap.size (.slice A ps.length c) ps from HL.out W (B3.trans (hb.mono B3.size))))
  have GX := Lib.hid (fun (W : World) (hb : Below w3.heap.size w3 W) => HX.out W (B3'.trans (hb.mono B3'.size)))
  have Cm := Lib.hid (fun (W : World) (hb : Below w3.heap.size w3 W) => let h := blk2 ((hb.block _ (blk_lt m3)).trans m3); And.intro h.1 h.2.1)
  have Cx := Lib.hid (fun (W : World) (hb : Below w3.heap.size w3 W) => let h := blk2 ((hb.block _ (blk_lt x3)).trans x3); And.intro h.1 h.2.1)
  have Bb := Lib.hid (fun (W : World) (hb : Below w3.heap.size w3 W) => hbs.trans (hb.mono hbs.size))
  clear hw3 HM HL HX m3 x3 B3 B3' B2 m2 hbs hb1
  have bR : Below w3.heap.size w3 w3 := Below.refl _ _
  have bD : Below w3.heap.size w3 w3.drew := bR.drew
  obtain ⟨a0, a1⟩ := Cm.out w3 bR
  obtain ⟨a5, a6⟩ := Cx.out w3 bR
  go_wp2_with fail
  go_region_held3 (fun w' => (w'.cell? ⟨w1.heap.size, 0, none⟩ = some (.slice A1 m.bits.length c1) ∧ w'.cell? ⟨w1.heap.size, 1, none⟩ = some (.slice A2 m.words.length c2)) ∧ w'.cell? ⟨w2.heap.size, 0, none⟩ = some (.slice X1 X.bits.length d1) ∧ w'.cell? ⟨w2.heap.size, 1, none⟩ = some (.slice X2 X.words.length d2)) (first | go_keep)
    (first
      | (go_at_call 26; (with_reducible refine (sameM_one _ _ X _ (GX.out _ b4) hr4).mono ?_); rintro e w5 ⟨rfl, hb5⟩; have b5 := b4.trans (hb5.mono b4.size); obtain ⟨p0, p1⟩ := Cm.out w5 b5; obtain ⟨p5, p6⟩ := Cx.out w5 b5)
      | (go_at_call 56; (with_reducible refine (sRunLadder_any _ _ m ps _ (GM.out _ bD) (GL.out _ bD) ⟨by omega, by omega, HLL.out⟩).mono ?_); rintro e w4 ⟨yv, rfl, hO4, hb4⟩; rw [← HXE.out] at hO4; obtain ⟨Y1, e1, Y2, e2, rfl, -, -⟩ := hO4.form; have hr4 := hO4.readF (by omega) HSF2.out; have b4 := bD.trans (hb4.mono bD.size); obtain ⟨g0, g1⟩ := Cm.out w4 b4; obtain ⟨g5, g6⟩ := Cx.out w4 b4))
  clear b4 bD bR hr4 hO4 hb4 hb5 g0 g1 g5 g6 a0 a1 a5 a6
  go_wp2_with fail
  refine (sImageValid_any _ m _ (GM.out _ b5)).mono ?_
  rintro e w6 ⟨rfl, hb6⟩
  have b6 := b5.trans (hb6.mono b5.size)
  clear b5 hb6 p0 p1 p5 p6
  obtain ⟨p0, p1⟩ := Cm.out w6 b6
  obtain ⟨p5, p6⟩ := Cx.out w6 b6
  cases hok : imgOK m
  · obtain rfl : X = ⟨[], []⟩ := by rw [HXE.out]; unfold runLadM; simp [hok]
    simp only [List.length_nil] at p5 p6
    go_wp2_with fail
    refine (alive_any _).mono ?_
    rintro e w7 ⟨rfl, hb7⟩
    go_wp2
    go_ret
    exact ⟨rfl, (Bb.out _ b6).trans (hb7.mono (Bb.out _ b6).size)⟩
  · have HOK := Lib.hid hok
    have h16 := (imgOK_len hok).1
    have h8 := (imgOK_len hok).2
    go_wp2_with fail
    refine (sLadderValid_any _ ps m.bits.length _ (GL.out _ b6)).mono ?_
    rintro e w7 ⟨rfl, hb7⟩
    have b7 := b6.trans (hb7.mono b6.size)
    clear b6 hb7 p0 p1 p5 p6 hok
    obtain ⟨p0, p1⟩ := Cm.out w7 b7
    obtain ⟨p5, p6⟩ := Cx.out w7 b7
    cases hv : ladvalid (lads ps) m.bits.length
    · obtain rfl : X = ⟨[], []⟩ := by rw [HXE.out]; unfold runLadM; simp [hv]
      simp only [List.length_nil] at p5 p6
      go_wp2_with fail
      refine (alive_any _).mono ?_
      rintro e w8 ⟨rfl, hb8⟩
      go_wp2
      go_ret
      exact ⟨rfl, (Bb.out _ b7).trans (hb8.mono (Bb.out _ b7).size)⟩
    · obtain rfl : X = ⟨runL m.bits (lads ps), m.words⟩ := by rw [HXE.out]; exact runLad_parts m _ HOK.out hv
      have HV := Lib.hid hv
      have HCV := Lib.hid (show ∀ r ∈ lads ps, 0 ≤ r.coil ∧ r.coil < m.bits.length by
        unfold ladvalid at hv; simp only [Bool.and_eq_true, List.all_eq_true] at hv
        exact fun r hr => (rvalid_parts (hv.1 r hr)).2.1)
      simp only [runL_length] at p5 p6 GX hx2 hx3 Cx
      obtain ⟨z1, z2, ez, hBm, hIm⟩ := GM.out w7 b7
      simp only [Value.agg.injEq, Array.mk.injEq, List.cons.injEq, and_true] at ez
      obtain ⟨rfl, rfl⟩ := ez
      obtain ⟨z1, z2, ez, hBx, hIx⟩ := GX.out w7 b7
      simp only [Value.agg.injEq, Array.mk.injEq, List.cons.injEq, and_true] at ez
      obtain ⟨rfl, rfl⟩ := ez
      obtain ⟨_, _, ez, rm, -⟩ := hBm
      injection ez with ez1 ez2 ez3
      subst ez1; subst ez3
      clear ez2
      obtain ⟨_, _, ez, rx, -⟩ := hBx
      injection ez with ez1 ez2 ez3
      subst ez1; subst ez3
      clear ez2 hv hIm hIx
      rw [runL_length] at rx
      have RM := Lib.hid rm
      have RX := Lib.hid rx
      clear rm rx
      go_wp2_with (at_make; refine wpl_make rfl _ _ 23 rfl elB 16 rfl rfl (by omega) (by omega) ?_)
      intro w8 hO8 hb8
      have hO8' := own_of_madeB hO8
      have b8 := b7.trans (hb8.mono b7.size)
      have l8 : w7.heap.size < w8.heap.size := (hO8.lt _ rfl).2
      have HCo := Lib.hid (fun (x : Int) => coils_mem (lads ps) x)
      clear p0 p1 p5 p6 hO8
      go_wp2_with fail
      refine (iLadderCoils_any _ ps _ (GL.out _ b8)).mono ?_
      rintro e w9 ⟨v9, rfl, hO9, hb9⟩
      obtain ⟨Ac, cc, rfl, -, -⟩ := own_form hO9
      obtain ⟨U, hU, hUr, hU16⟩ : ∃ U, U = coilsL (lads ps) ∧ (∀ (k : Nat) (h : k < U.length), 0 ≤ U[k] ∧ U[k] < 16) ∧ U.length ≤ 16 :=
        ⟨_, rfl, by rw [← coilsL_set]; exact nums_range _, by rw [← coilsL_set]; exact numsTo_length _ _⟩
      have HU := Lib.hid hUr
      rw [← hU] at hO9 HCo ⊢
      have b79 := hb8.trans (hb9.mono hb8.size)
      have hO9' : OwnB w9 w7.heap.size (.slice (some ⟨w7.heap.size, 0, none⟩) 16 16) (List.replicate 16 false) := own_below hO8' hb9
      rw [← markU_zero U] at hO9'
      unfold OwnB at hO9'
      rw [markU_len] at hO9'
      clear hU hUr hb8 hb9 hO8' b8
      go_wp2_with fail
      go_loopw [8] (fun i wr => ∃ k : Nat, k ≤ U.length ∧ i = .int .i64 k ∧ wr.ownsRow w7.heap.size 4 1 (.slice (some ⟨w7.heap.size, 0, none⟩) 16 16) 16 ((markU U k).map .bool) ∧ OwnI wr w8.heap.size (.slice Ac U.length cc) U ∧ Below w7.heap.size w7 wr) (fun i _ => U.length - (intOf i).toNat)
      case atStart => exact ⟨0, by omega, rfl, hO9', hO9, b79⟩
      case round =>
        obtain ⟨k, hk, rfl, hown, hOU, hbr⟩ := hrel
        clear hO9 hO9' b79
        by_cases hlt : k < U.length
        · obtain ⟨g, rfl, hg1, hg2⟩ := own_addr hOU (by omega)
          have hc1 := World.ownsRow.cellAt hOU k (by omega)
          have hr := HU.out k hlt
          have hms := Lib.hid (markU_succ U k hlt hr)
          rw [List.getElem?_map, List.getElem?_eq_getElem hlt] at hc1
          simp only [Option.map_some] at hc1
          obtain ⟨b, hb⟩ : ∃ b : Nat, U[k] = b := ⟨U[k].toNat, by omega⟩
          rw [hb] at hc1 hr hms
          have hb16 : b < 16 := by omega
          have hcb := hown.cellAt b (by omega)
          have hz := hown.frozenAt b
          have hst := (hown.stored b (.bool true)).1
          have hOU2 : OwnI (wr.setCell ⟨w7.heap.size, b, none⟩ (.bool true)) w8.heap.size (.slice (some ⟨g, 0, none⟩) U.length cc) U := ownsRow_setCell_below hOU l8 _
          obtain ⟨y, hy⟩ : ∃ y, ((markU U k).map Value.bool)[b]? = some y := ⟨_, List.getElem?_eq_getElem (by rw [List.length_map, markU_len]; exact hb16)⟩
          rw [hy] at hcb
          have hmm : ((markU U k).map Value.bool).set b (.bool true) = (markU U (k + 1)).map Value.bool := by
            rw [← List.map_set]; have := hms.out; rw [Int.toNat_natCast] at this; rw [this]
          rw [hmm] at hst
          have HST := Lib.hid hst
          have HOU := Lib.hid hOU2
          have i1 : (k : Int) < (U.length : Int) := by omega
          have i2 : (b : Int) < 16 := by omega
          clear hy hown hOU hOU2 hst hms hb hmm
          go_wp2
          exact ⟨⟨k + 1, by omega, by go_num, HST.out, HOU.out, hbr.setCell (Nat.le_refl _) _⟩, by simp [intOf]; omega⟩
        · obtain rfl : k = U.length := by omega
          obtain ⟨wo, rfl⟩ : ∃ wo : World, wo = wr := ⟨_, rfl⟩
          have HOW := Lib.hid hown
          have HMU := Lib.hid (fun (k : Nat) (hk : k < 16) => markU_get U k hk)
          have hbr0 : Below wo.heap.size wo wo := Below.refl _ _
          clear hown hOU hlt hk
          have bwr := b7.trans (hbr.mono b7.size)
          obtain ⟨p0, p1⟩ := Cm.out wo bwr
          obtain ⟨p5, p6⟩ := Cx.out wo bwr
          go_wp2_with fail
          go_loopw [9] (fun i wx => ∃ k : Nat, k ≤ m.bits.length ∧ i = .int .i64 k ∧ Below wo.heap.size wo wx) (fun i _ => m.bits.length - (intOf i).toNat)
          case atStart => exact ⟨0, by omega, rfl, hbr0⟩
          case round =>
            obtain ⟨k, hk, rfl, hbx⟩ := hrel
            clear hbr0 p0 p1 p5 p6
            have b7x := hbr.trans (hbx.mono hbr.size)
            have bx := b7.trans (b7x.mono b7.size)
            obtain ⟨p0, p1⟩ := Cm.out wr bx
            obtain ⟨p5, p6⟩ := Cx.out wr bx
            by_cases hlt : k < m.bits.length
            · have i1 : (k : Int) < (m.bits.length : Int) := by omega
              have i2 : (k : Int) < 16 := by omega
              have hck := World.ownsRow.cellAt (own_below HOW.out hbx) k (by omega)
              rw [List.getElem?_map, HMU.out k (by omega)] at hck
              simp only [Option.map_some] at hck
              by_cases hin : (k : Int) ∈ U
              · simp only [hin, decide_true] at hck
                clear hin
                go_wp2
                go_quiet (fail)
                go_wp2
                exact ⟨⟨k + 1, by omega, by go_num, below_drN hbx _⟩, by simp [intOf]; omega⟩
              · have hot := runL_other m.bits (lads ps) k (fun r hr e => hin ((HCo.out _).2 ⟨⟨by omega, by omega⟩, r, hr, by have := HCV.out r hr; omega⟩))
                simp only [hin, decide_false] at hck
                obtain ⟨pm, um, rfl, hpm, hum, hcm⟩ := RM.out.one hlt
                obtain ⟨px, ux, rfl, hpx, hux, hcx⟩ := RX.out.one hlt
                have hxx : ux = .bool m.bits[k] := by
                  rw [List.getElem?_map, hot, List.getElem?_eq_getElem hlt] at hux; simpa using hux.symm
                have hmm : um = .bool m.bits[k] := by
                  rw [List.getElem?_map, List.getElem?_eq_getElem hlt] at hum; simpa using hum.symm
                subst hxx; subst hmm
                have gm := (b7x.cell (p := pm.add k) (by rw [add_block]; exact hpm)).trans hcm
                have gx := (b7x.cell (p := px.add k) (by rw [add_block]; exact hpx)).trans hcx
                generalize m.bits[k] = y at gm gx
                have e2 : (y != y) = false := by simp
                clear hum hux hcm hcx hin hot
                go_wp2
                go_quiet (fail)
                go_wp2
                exact ⟨⟨k + 1, by omega, by go_num, below_drN hbx _⟩, by simp [intOf]; omega⟩
            · obtain rfl : k = m.bits.length := by omega
              have hrun := HRUN.out
              have HT := Lib.hid (runLad_two m (lads ps) (ps.length / 2) HOK.out HV.out)
              have i1 : ¬ ((ps.length : Int) / 2 < 0) := by omega
              have i2 : (ps.length : Int) / 2 ≤ c := by omega
              have i3 : (ps.length : Int) / 2 ≤ (ps.length : Int) := by omega
              have i4 : ((ps.length : Int) / 2).toNat = ps.length / 2 := by omega
              clear hlt hk
              have bD := bx.drew
              have hY := HY.out (lads (ps.take (ps.length / 2)))
              have hyl := hY.1
              have hyw := hY.2.1
              have HYF := Lib.hid hY.fit
              have HT2 := Lib.hid (show runLadM (runLadM m (lads (ps.take (ps.length / 2)))) (lads (ps.drop (ps.length / 2))) = ⟨runL m.bits (lads ps), m.words⟩ by rw [lads_takeN, lads_dropN, HT.out, runLad_parts m _ HOK.out HV.out])
              have hXl : (runL m.bits (lads ps)).length ≤ 17 := by rw [runL_length]; exact hbl
              clear hY HT
              go_wp2_with fail
              go_region_held3 (fun w' => (w'.cell? ⟨w1.heap.size, 0, none⟩ = some (.slice A1 m.bits.length c1) ∧ w'.cell? ⟨w1.heap.size, 1, none⟩ = some (.slice A2 m.words.length c2)) ∧ w'.cell? ⟨w2.heap.size, 0, none⟩ = some (.slice X1 m.bits.length d1) ∧ w'.cell? ⟨w2.heap.size, 1, none⟩ = some (.slice X2 m.words.length d2)) (first | go_keep)
                (first
                  | (go_at_call 26; have tell := hr2; (with_reducible refine (sameM_one _ _ ⟨runL m.bits (lads ps), m.words⟩ _ (GX.out _ y2) hr2).mono ?_); rintro e u3 ⟨rfl, hb3⟩; have y3 := y2.trans (hb3.mono y2.size); obtain ⟨s0, s1⟩ := Cm.out u3 y3; obtain ⟨s5, s6⟩ := Cx.out u3 y3)
                  | (go_at_call 55; have tell := hr1; (with_reducible refine (iRunLadder_any _ _ _ (ps.drop (ps.length / 2)) _ hr1 (HREST.out _ _ (GL.out _ y1))).mono ?_); rintro e u2 ⟨zv, rfl, hOz, hb2⟩; rw [HT2.out] at hOz; obtain ⟨Z1, k1, Z2, k2, rfl, -, -⟩ := hOz.form; have hr2 := hOz.readF ⟨by show (runL m.bits (lads ps)).length ≤ _; omega, by show m.words.length ≤ _; omega⟩ HSF.out; have y2 := y1.trans (hb2.mono y1.size); obtain ⟨t0, t1⟩ := Cm.out u2 y2; obtain ⟨t5, t6⟩ := Cx.out u2 y2)
                  | (go_at_call 55; (with_reducible refine (iRunLadder_any _ _ m (ps.take (ps.length / 2)) _ (GM.out _ bD) ((GL.out _ bD).front (ps.length / 2) (by omega))).mono ?_); rintro e u1 ⟨yv, rfl, hOy, hb1⟩; obtain ⟨Y1, e1, Y2, e2, rfl, -, -⟩ := hOy.form; have hr1 := hOy.readF (by omega) HYF.out; have y1 := bD.trans (hb1.mono bD.size); obtain ⟨g0, g1⟩ := Cm.out u1 y1; obtain ⟨g5, g6⟩ := Cx.out u1 y1))
              go_wp2
              go_ret
              exact ⟨rfl, Bb.out _ y3⟩
end Go.Proofs.Ytoagnajljdbobaa
