/- The law that ladders without feedback settle: its walk. -/
import Derived.Test.YtoagnajljdbobaaWf
namespace Go.Proofs.Ytoagnajljdbobaa
open Go.RowKit
attribute [local go_sem ↓] Go.wp_at_zero Go.wp_at_succ

/-- No rung uses its own coil or a later one's, and no bit has two coils. -/
def Calm : List Rg → Prop
  | [] => True
  | r :: l => (∀ x ∈ r.logic, x.op = 1 → ∀ r' ∈ r :: l, x.bit.toNat ≠ r'.coil.toNat) ∧ (∀ r' ∈ l, r'.coil.toNat ≠ r.coil.toNat) ∧ Calm l
theorem calm_runB (bs F : List Bool) (r : Rg) (hl : F.length = bs.length) (he : evL F r.logic = evL bs r.logic) (hc : F[r.coil.toNat]? = (runB bs r)[r.coil.toNat]?) (hin : r.coil.toNat < bs.length) : runB F r = F := by
  have key : ∀ (bs : List Bool) (r : Rg), runB bs r = if r.kind = 1 then bs.set r.coil.toNat (evL bs r.logic) else if evL bs r.logic then bs.set r.coil.toNat (decide (r.kind = 2)) else bs := fun _ _ => rfl
  rw [key bs r] at hc
  rw [key F r, he]
  have hset : ∀ b, F[r.coil.toNat]? = some b → F.set r.coil.toNat b = F := by
    intro b hb
    apply List.ext_getElem?
    intro i
    by_cases e : r.coil.toNat = i
    · subst e; rw [List.getElem?_set_self (by omega), hb]
    · rw [List.getElem?_set_ne e]
  by_cases h1 : r.kind = 1
  · rw [if_pos h1] at hc ⊢
    exact hset _ (by rw [hc, List.getElem?_set_self hin])
  · rw [if_neg h1] at hc ⊢
    by_cases h2 : evL bs r.logic = true
    · rw [if_pos h2] at hc ⊢
      exact hset _ (by rw [hc, List.getElem?_set_self hin])
    · rw [if_neg h2]
theorem runL_len' (bs : List Bool) (l : List Rg) : (runL bs l).length = bs.length := runL_length bs l
/-- A calm ladder settles in one scan. -/
theorem calm_settles (l : List Rg) (bs : List Bool) (hc : Calm l) (hin : ∀ r ∈ l, r.coil.toNat < bs.length) : runL (runL bs l) l = runL bs l := by
  induction l generalizing bs with
  | nil => rfl
  | cons r l ih =>
    obtain ⟨h1, h2, h3⟩ := hc
    have hF : runL bs (r :: l) = runL (runB bs r) l := rfl
    have hr : runB (runL bs (r :: l)) r = runL bs (r :: l) := by
      refine calm_runB bs _ r (runL_length _ _) ?_ ?_ (hin r List.mem_cons_self)
      · unfold evL
        refine evb_congr _ _ fun x hx hop => ?_
        rw [List.getD_eq_getElem?_getD, List.getD_eq_getElem?_getD, runL_other _ _ _ (fun r' hr' => Ne.symm (h1 x hx hop r' hr'))]
      · rw [hF, runL_other _ _ _ (fun r' hr' => h2 r' hr')]
    have : runL (runL bs (r :: l)) (r :: l) = runL (runB (runL bs (r :: l)) r) l := rfl
    rw [this, hr, hF]
    exact ih (runB bs r) h3 (fun r' hr' => by rw [runB_length]; exact hin r' (List.mem_cons_of_mem _ hr'))
/-- What the law has looked at, for rungs k and j. -/
def Part (ps : List (Value × Rg)) (k j : Nat) : Prop := ∀ (hk : k < ps.length) (hj : j < ps.length), (k ≤ j → ps[j].2.coil ∉ usedL ps[k].2.logic) ∧ (j ≠ k → ps[j].2.coil ≠ ps[k].2.coil)
theorem calm_of (ps : List (Value × Rg)) (n : Nat) (hn : n ≤ 16) (hv : ∀ p ∈ ps, rvalid p.2 n = true) (h : ∀ k j, k < ps.length → j < ps.length → Part ps k j) : Calm (lads ps) := by
  induction ps with
  | nil => trivial
  | cons p ps ih =>
    refine ⟨fun x hx hop r' hr' => ?_, fun r' hr' => ?_, ih (fun q hq => hv q (List.mem_cons_of_mem _ hq)) fun k j hk hj => ?_⟩
    · obtain ⟨hl, hc, -⟩ := rvalid_parts (hv p List.mem_cons_self)
      obtain ⟨q, hq, rfl⟩ : ∃ q ∈ p :: ps, q.2 = r' := by
        rw [List.mem_cons] at hr'
        rcases hr' with rfl | hr'
        · exact ⟨p, List.mem_cons_self, rfl⟩
        · obtain ⟨q, hq, e⟩ := List.mem_map.1 hr'
          exact ⟨q, List.mem_cons_of_mem _ hq, e⟩
      obtain ⟨j, hj, e⟩ := List.mem_iff_getElem.1 hq
      have hq2 := (rvalid_parts (hv q hq)).2.1
      have hp := (h 0 j (by simp) hj (by simp) hj).1 (by omega)
      rw [e] at hp
      exact unused_of hn hl hq2.1 hp x hx hop
    · obtain ⟨q, hq, rfl⟩ := List.mem_map.1 hr'
      obtain ⟨j, hj, e⟩ := List.mem_iff_getElem.1 hq
      have hq2 := (rvalid_parts (hv q (List.mem_cons_of_mem _ hq))).2.1
      have hp2 := (rvalid_parts (hv p List.mem_cons_self)).2.1
      have hp := (h 0 (j + 1) (by simp) (by simpa using hj) (by simp) (by simpa using hj)).2 (by omega)
      simp only [List.getElem_cons_succ, List.getElem_cons_zero, e] at hp
      show q.2.coil.toNat ≠ p.2.coil.toNat
      omega
    · intro hk' hj'
      have := h (k + 1) (j + 1) (by simpa using hk) (by simpa using hj) (by simpa using hk) (by simpa using hj)
      simp only [List.getElem_cons_succ] at this
      exact ⟨fun hkj => this.1 (by omega), fun hne => this.2 (by omega)⟩
theorem calm_lad (m : Img) (ps : List (Value × Rg)) (h1 : imgOK m = true) (h2 : ladvalid (lads ps) m.bits.length = true) (h : ∀ k j, k < ps.length → j < ps.length → Part ps k j) : runLadM (runLadM m (lads ps)) (lads ps) = runLadM m (lads ps) := by
  have h16 := (imgOK_len h1).1
  have hv : ∀ p ∈ ps, rvalid p.2 m.bits.length = true := by
    rw [ladvalid_eq] at h2; simp only [Bool.and_eq_true, List.all_eq_true] at h2; exact h2.1
  rw [runLad_parts m _ h1 h2, runLad_parts ⟨runL m.bits (lads ps), m.words⟩ _ (imgOK_of _ m h1 (runL_length _ _)) (by show ladvalid _ ((runL m.bits (lads ps)).length : Int) = true; rw [runL_length]; exact h2)]
  show (⟨runL (runL m.bits (lads ps)) (lads ps), m.words⟩ : Img) = _
  rw [calm_settles (lads ps) m.bits (calm_of ps m.bits.length h16 hv h) (fun r hr => by
    obtain ⟨q, hq, rfl⟩ := List.mem_map.1 hr
    have := (rvalid_parts (hv q hq)).2.1; omega)]
theorem FnLadderSettles_long (a : Option Addr) (n c : Nat) (w : World) (h : 1048576 < n) (_hn : n ≤ 9223372036854775807) : Calls Try.prog 16 #[.slice a n c] w (LawPost w) := by
  go_enter Try.func16, Try.ntmps16
  go_wp2
  go_ret
  exact ⟨rfl, Below.refl _ _⟩
set_option maxRecDepth 100000 in
set_option maxHeartbeats 4000000 in
theorem FnLadderSettles_core (v : Value) (bl : List Int) (w : World) (h : BytesR w w.heap.size v bl) (hl : bl.length ≤ 1048576) :
    Calls Try.prog 16 #[v] w (LawPost w) := by
  have HO := Lib.hid (drawRunLadder_any v bl w h)
  have h2 := h.form
  obtain ⟨A0, c0, rfl, -⟩ := h
  clear h2
  go_enter Try.func16, Try.ntmps16
  go_wp2_with fail
  refine HO.out.mono ?_
  rintro e w1 ⟨vm, vl, m, ps, rfl, hOm, hS, hL, hsm, hb1⟩
  clear HO
  obtain ⟨A1, c1, A2, c2, rfl, -, -⟩ := hOm.form
  have HL := Lib.hid (fun (W : World) (hb : Below w1.heap.size w1 W) => hL.below hb)
  obtain ⟨A, c, rfl, hrd, hcl, h3⟩ := id hL
  have HRD1 := Lib.hid hrd
  have HLN1 := Lib.hid (fun (p : Value × Rg) (hp : p ∈ ps) => (h3 p hp).1)
  clear hrd h3
  have hbl := hS.1
  have hwl := hS.2.1
  have h24 := hsm.1
  have hll : ∀ p ∈ ps, p.2.logic.length ≤ 2000000 := fun p hp => by have := (hsm.2 p hp).2.1; omega
  have HLL := Lib.hid hll
  have hc := hcl.1
  have hS2 := small_runLad (lads ps) hS
  have HM := Lib.hid (fun (W : World) (hb : Below w1.heap.size w1 W) => (hOm.keep_ hb).readF (by omega) hS.fit)
  have m0 := heap_alloc_new w1 (.cells #[.slice A1 m.bits.length c1, .slice A2 m.words.length c2] 26)
  have B0 := (Below.refl w1.heap.size w1).alloc (Nat.le_refl _) (.cells #[.slice A1 m.bits.length c1, .slice A2 m.words.length c2] 26)
  have HSF := Lib.hid hS.fit
  have HSF2 := Lib.hid hS2.fit
  clear hsm hOm hS hL hll hcl
  go_wp2_with fail
  refine (iRunLadder_any _ _ m ps _ (HM.out _ B0) (HL.out _ B0)).mono ?_
  rintro e w2 ⟨xv, rfl, hOx, hb2⟩
  obtain ⟨X1, d1, X2, d2, rfl, -, -⟩ := hOx.form
  have m2 := (hb2.block _ (blk_lt m0)).trans m0
  have B2 := B0.trans (hb2.mono B0.size)
  have hx2 := hS2.1
  have hx3 := hS2.2.1
  have HX := Lib.hid (fun (W : World) (hb : Below w2.heap.size w2 W) => (hOx.keep_ hb).readF (by omega) HSF2.out)
  clear hb2 m0 B0 hOx hS2
  obtain ⟨X, hX⟩ : ∃ X, X = runLadM m (lads ps) := ⟨_, rfl⟩
  rw [← hX] at HX hx2 hx3 HSF2 ⊢
  have HXE := Lib.hid hX
  clear hX
  have x3 := heap_alloc_new w2 (.cells #[.slice X1 X.bits.length d1, .slice X2 X.words.length d2] 26)
  have B3' : Below w2.heap.size w2 (w2.alloc (.cells #[.slice X1 X.bits.length d1, .slice X2 X.words.length d2] 26)) := (Below.refl _ _).alloc (Nat.le_refl _) _
  have m3 := (B3'.block _ (blk_lt m2)).trans m2
  have hbs := hb1.trans ((B2.trans (B3'.mono B2.size)).mono hb1.size)
  go_wp2_with fail
  generalize hw3 : w2.alloc (.cells #[.slice X1 X.bits.length d1, .slice X2 X.words.length d2] 26) = w3 at x3 B3' m3 hbs ⊢
  have B3 := B2.trans (B3'.mono B2.size)
  have GM := Lib.hid (fun (W : World) (hb : Below w3.heap.size w3 W) => HM.out W (B3.trans (hb.mono B3.size)))
  have GL := Lib.hid (fun (W : World) (hb : Below w3.heap.size w3 W) => (show LadR W W.heap.size (.slice A ps.length c) ps from HL.out W (B3.trans (hb.mono B3.size))))
  have GX := Lib.hid (fun (W : World) (hb : Below w3.heap.size w3 W) => HX.out W (B3'.trans (hb.mono B3'.size)))
  have Cm := Lib.hid (fun (W : World) (hb : Below w3.heap.size w3 W) => let h := blk2 ((hb.block _ (blk_lt m3)).trans m3); And.intro h.1 h.2.1)
  have Cx := Lib.hid (fun (W : World) (hb : Below w3.heap.size w3 W) => let h := blk2 ((hb.block _ (blk_lt x3)).trans x3); And.intro h.1 h.2.1)
  have HRD := Lib.hid (HRD1.out.keep (fun _ hp => B3.cell hp) B3.size)
  have HLN := Lib.hid (fun (W : World) (hb : Below w3.heap.size w3 W) (p : Value × Rg) (hp : p ∈ ps) => (HLN1.out p hp).below (B3.trans (hb.mono B3.size)))
  have Bb := Lib.hid (fun (W : World) (hb : Below w3.heap.size w3 W) => hbs.trans (hb.mono hbs.size))
  clear hw3 HRD1 HLN1 HM HL HX m3 x3 B3 B3' B2 m2 hbs hb1
  have bR : Below w3.heap.size w3 w3 := Below.refl _ _
  have bD : Below w3.heap.size w3 w3.drew := bR.drew
  obtain ⟨a0, a1⟩ := Cm.out w3 bR
  obtain ⟨a5, a6⟩ := Cx.out w3 bR
  go_wp2_with fail
  go_region_held3 (fun w' => (w'.cell? ⟨w1.heap.size, 0, none⟩ = some (.slice A1 m.bits.length c1) ∧ w'.cell? ⟨w1.heap.size, 1, none⟩ = some (.slice A2 m.words.length c2)) ∧ w'.cell? ⟨w2.heap.size, 0, none⟩ = some (.slice X1 X.bits.length d1) ∧ w'.cell? ⟨w2.heap.size, 1, none⟩ = some (.slice X2 X.words.length d2)) (first | go_keep)
    (first
      | (go_at_call 26; (with_reducible refine (sameM_one _ _ X _ (GX.out _ b4) hr4).mono ?_); rintro e w5 ⟨rfl, hb5⟩; have b5 := b4.trans (hb5.mono b4.size); obtain ⟨p0, p1⟩ := Cm.out w5 b5; obtain ⟨p5, p6⟩ := Cx.out w5 b5)
      | (go_at_call 56; (with_reducible refine (sRunLadder_any _ _ m ps _ (GM.out _ bD) (GL.out _ bD) ⟨by omega, by omega, HLL.out⟩).mono ?_); rintro e w4 ⟨yv, rfl, hO4, hb4⟩; rw [← HXE.out] at hO4; obtain ⟨Y1, e1, Y2, e2, rfl, -, -⟩ := hO4.form; have hr4 := hO4.readF (by omega) HSF2.out; have b4 := bD.trans (hb4.mono bD.size); obtain ⟨g0, g1⟩ := Cm.out w4 b4; obtain ⟨g5, g6⟩ := Cx.out w4 b4))
  clear b4 bD bR hr4 hO4 hb4 hb5 g0 g1 g5 g6 a0 a1 a5 a6
  go_wp2_with fail
  refine (sImageValid_any _ m _ (GM.out _ b5)).mono ?_
  rintro e w6 ⟨rfl, hb6⟩
  have b6 := b5.trans (hb6.mono b5.size)
  clear b5 hb6 p0 p1 p5 p6
  obtain ⟨p0, p1⟩ := Cm.out w6 b6
  obtain ⟨p5, p6⟩ := Cx.out w6 b6
  cases hok : imgOK m
  · go_wp2_with fail
    refine (alive_fin (Bb.out _ b6)).mono ?_
    rintro e w7 ⟨rfl, hb7⟩
    go_wp2
    go_ret
    exact ⟨rfl, hb7⟩
  · have HOK := Lib.hid hok
    have h16 := (imgOK_len hok).1
    have h8 := (imgOK_len hok).2
    go_wp2_with fail
    refine (sLadderValid_any _ ps m.bits.length _ (GL.out _ b6)).mono ?_
    rintro e w7 ⟨rfl, hb7⟩
    have b7 := b6.trans (hb7.mono b6.size)
    clear b6 hb7 p0 p1 p5 p6 hok
    cases hv : ladvalid (lads ps) m.bits.length
    · go_wp2_with fail
      refine (alive_fin (Bb.out _ b7)).mono ?_
      rintro e w8 ⟨rfl, hb8⟩
      go_wp2
      go_ret
      exact ⟨rfl, hb8⟩
    · have HV := Lib.hid hv
      clear hv
      go_wp2_with fail
      go_loopw [6] (fun i wr => ∃ k : Nat, k ≤ ps.length ∧ i = .int .i64 k ∧ (∀ k' j, k' < k → j < ps.length → Part ps k' j) ∧ Below w3.heap.size w3 wr) (fun i _ => ps.length - (intOf i).toNat)
      case atStart => exact ⟨0, by omega, rfl, fun _ _ h => absurd h (by omega), b7⟩
      case round =>
        clear b7
        obtain ⟨k, hk, rfl, hall, hbr⟩ := hrel
        have HALL := Lib.hid hall
        clear hall
        by_cases hlt : k < ps.length
        · obtain ⟨p, rfl, hpb, c0, c1, c2⟩ := HRD.out.three hlt
          have hn := HLN.out wr hbr ps[k] (List.getElem_mem hlt)
          obtain ⟨RK, hRK⟩ : ∃ x, x = ps[k] := ⟨_, rfl⟩
          rw [← hRK] at c0 c1 c2 hn
          obtain ⟨uk, lgk, cok, kik⟩ := RK
          simp only at c0 c1 c2 hn
          obtain ⟨Ak, ck, rfl, -⟩ := id hn
          have HRK := Lib.hid hRK
          have g0 := (hbr.cell (p := p.add (k * 3)) (by rw [add_block]; exact hpb)).trans c0
          have i1 : (k : Int) < (ps.length : Int) := by omega
          have HC1 := Lib.hid c1
          have HN := Lib.hid hn
          clear c0 c1 c2 hn hRK
          go_wp2_with fail
          refine (iUsedBits_any _ lgk _ HN.out).mono ?_
          rintro e w8 ⟨uv, rfl, hOu, hb8⟩
          obtain ⟨Au, cu, rfl, -, -⟩ := own_form hOu
          have b8 := hbr.trans (hb8.mono hbr.size)
          have G0 := Lib.hid (OwnI.rdR hOu rfl)
          obtain ⟨U, hU, hU16⟩ : ∃ U, U = usedL lgk ∧ U.length ≤ 16 := ⟨_, rfl, numsTo_length _ _⟩
          rw [← hU] at G0 ⊢
          have HU := Lib.hid hU
          have hb88 : Below w8.heap.size w8 w8 := Below.refl _ _
          clear g0 hOu hb8 hU
          obtain ⟨wo, rfl⟩ : ∃ wo : World, wo = wr := ⟨_, rfl⟩
          go_wp2_with fail
          go_loopw [8] (fun jv wr => ∃ j : Nat, j ≤ ps.length ∧ jv = .int .i64 j ∧ (∀ j', j' < j → Part ps k j') ∧ Below w8.heap.size w8 wr) (fun jv _ => ps.length - (intOf jv).toNat)
          case atStart => exact ⟨0, by omega, rfl, fun _ h => absurd h (by omega), hb88⟩
          case round =>
            clear hb88
            obtain ⟨j, hj, rfl, hallj, hbr2⟩ := hrel
            have HALLJ := Lib.hid hallj
            clear hallj
            by_cases hjl : j < ps.length
            · obtain ⟨p', e', hpb', c0, c1, c2⟩ := HRD.out.three hjl
              injection e' with e'
              subst e'
              obtain ⟨RJ, hRJ⟩ : ∃ x, x = ps[j] := ⟨_, rfl⟩
              rw [← hRJ] at c0 c1 c2
              obtain ⟨uj, lgj, coj, kij⟩ := RJ
              simp only at c0 c1 c2
              have HRJ := Lib.hid hRJ
              have HCJ := Lib.hid c1
              have i2 : (j : Int) < (ps.length : Int) := by omega
              have hb22 : Below w8.heap.size w8 wr := hbr2
              obtain ⟨wq, rfl⟩ : ∃ wq : World, wq = wr := ⟨_, rfl⟩
              clear c0 c1 c2 hRJ
              go_wp2_with fail
              go_loopw [9] (fun iv wr => ∃ i : Nat, i ≤ U.length ∧ iv = .int .i64 i ∧ (k ≤ j → coj ∉ U.take i) ∧ Below w8.heap.size w8 wr) (fun iv _ => U.length - (intOf iv).toNat)
              case atStart => exact ⟨0, by omega, rfl, by simp, hb22⟩
              case round =>
                clear hb22 hbr2
                obtain ⟨i, hi, rfl, hno, hbr3⟩ := hrel
                have HNO := Lib.hid hno
                clear hno
                have b3 := b8.trans (hbr3.mono b8.size)
                have gj := (b3.cell (p := ⟨(p.add (j * 3)).block, (p.add (j * 3)).off + 1, none⟩) (by show (p.add (j * 3)).block < _; rw [add_block]; exact hpb)).trans HCJ.out
                by_cases hil : i < U.length
                · have i3 : (i : Int) < (U.length : Int) := by omega
                  by_cases hkj : k ≤ j
                  · have d1 : decide (k ≤ j) = true := by simpa using hkj
                    obtain ⟨q, u, rfl, hqb, hu, hc⟩ := G0.out.one hil
                    have hx : u = .int .i64 U[i] := by rw [List.getElem?_map, List.getElem?_eq_getElem hil] at hu; simpa using hu.symm
                    subst hx
                    have gu := (hbr3.cell (p := q.add i) (by rw [add_block]; exact hqb)).trans hc
                    obtain ⟨x, hx⟩ : ∃ x, x = U[i] := ⟨_, rfl⟩
                    rw [← hx] at gu
                    have HX := Lib.hid hx
                    have HKJ := Lib.hid hkj
                    have HIL := Lib.hid hil
                    clear hu hc hx hkj
                    by_cases hxe : x = coj
                    · have e1 : (x == coj) = true := by simpa using hxe
                      clear hxe
                      go_wp2
                      go_quiet (fail)
                      go_wp2
                      go_ret
                      exact ⟨rfl, below_drN (Bb.out _ b3) _⟩
                    · have e1 : (x == coj) = false := by simpa using hxe
                      have HXE := Lib.hid hxe
                      clear hxe
                      go_wp2
                      go_quiet (fail)
                      go_wp2
                      exact ⟨⟨i + 1, by omega, by go_num, fun hkj hm => by
                        rw [List.take_succ_eq_append_getElem HIL.out, List.mem_append] at hm
                        rcases hm with hm | hm
                        · exact HNO.out hkj hm
                        · rw [List.mem_singleton, ← HX.out] at hm; exact HXE.out hm.symm, below_drN hbr3 _⟩, by simp [intOf]; omega⟩
                  · have d1 : decide (k ≤ j) = false := by simpa using hkj
                    have HKJ := Lib.hid hkj
                    clear hkj
                    go_wp2
                    go_quiet (fail)
                    go_wp2
                    exact ⟨⟨i + 1, by omega, by go_num, fun hkj => absurd hkj HKJ.out, below_drN hbr3 _⟩, by simp [intOf]; omega⟩
                · obtain rfl : i = U.length := by omega
                  have HNO2 := Lib.hid (show k ≤ j → coj ∉ U by have := HNO.out; rwa [List.take_length] at this)
                  have gk := (b3.cell (p := ⟨(p.add (k * 3)).block, (p.add (k * 3)).off + 1, none⟩) (by show (p.add (k * 3)).block < _; rw [add_block]; exact hpb)).trans HC1.out
                  have HJL := Lib.hid hjl
                  have HKL := Lib.hid hlt
                  have fin : ∀ (hne : j ≠ k → coj ≠ cok), ∀ j', j' < j + 1 → Part ps k j' := by
                    intro hne j' hj'
                    by_cases e : j' = j
                    · subst e
                      intro a b
                      rw [← HRJ.out, ← HRK.out]
                      exact ⟨fun h => by have := HNO2.out h; rw [HU.out] at this; exact this, hne⟩
                    · exact HALLJ.out j' (by omega)
                  have FIN := Lib.hid fin
                  clear hil hi fin
                  by_cases hjk : j = k
                  · have n1 : (j != k) = false := by simpa using hjk
                    have n2 : ((j : Int) != (k : Int)) = false := by simp; omega
                    have HJK := Lib.hid hjk
                    clear hjk
                    go_wp2
                    go_quiet (fail)
                    go_wp2
                    exact ⟨⟨j + 1, by omega, by go_num, FIN.out (fun h => absurd HJK.out h), below_drN hbr3 _⟩, by simp [intOf]; omega⟩
                  · have n1 : (j != k) = true := by simpa using hjk
                    have n2 : ((j : Int) != (k : Int)) = true := by simp; omega
                    have n3 : (j == k) = false := by simpa using hjk
                    have n4 : ((j : Int) == (k : Int)) = false := by simp; omega
                    clear hjk
                    by_cases hco : coj = cok
                    · have e1 : (coj == cok) = true := by simpa using hco
                      clear hco
                      go_wp2
                      go_quiet (fail)
                      go_wp2
                      go_ret
                      exact ⟨rfl, below_drN (Bb.out _ b3) _⟩
                    · have e1 : (coj == cok) = false := by simpa using hco
                      have HCO := Lib.hid hco
                      clear hco
                      go_wp2
                      go_quiet (fail)
                      go_wp2
                      exact ⟨⟨j + 1, by omega, by go_num, FIN.out (fun _ => HCO.out), below_drN hbr3 _⟩, by simp [intOf]; omega⟩
            · obtain rfl : j = ps.length := by omega
              have b3 := b8.trans (hbr2.mono b8.size)
              have fin : ∀ k' j, k' < k + 1 → j < ps.length → Part ps k' j := by
                intro k' j hk' hj'
                by_cases e : k' = k
                · subst e; exact HALLJ.out j hj'
                · exact HALL.out k' j (by omega) hj'
              have FIN := Lib.hid fin
              clear fin hjl hj
              go_wp2
              exact ⟨⟨k + 1, by omega, by go_num, FIN.out, b3⟩, by simp [intOf]; omega⟩
        · obtain rfl : k = ps.length := by omega
          have HT := Lib.hid (calm_lad m ps HOK.out HV.out HALL.out)
          have bD := hbr.drew
          obtain ⟨x0, x1⟩ := Cx.out wr hbr
          have HRL := Lib.hid (show X.bits.length ≤ 2000000 ∧ X.words.length ≤ 2000000 by omega)
          have HXT := Lib.hid (show runLadM X (lads ps) = X by have := HT.out; rw [← HXE.out] at this; exact this)
          clear hlt hk
          go_wp2_with fail
          go_region_held3 (fun w' => w'.cell? ⟨w2.heap.size, 0, none⟩ = some (.slice X1 X.bits.length d1) ∧ w'.cell? ⟨w2.heap.size, 1, none⟩ = some (.slice X2 X.words.length d2)) (first | go_keep)
            (first
              | (go_at_call 26; have tell := hr1; (with_reducible refine (sameM_one _ _ X _ hr1 (GX.out _ y1)).mono ?_); rintro e u2 ⟨rfl, hu2⟩; have y2 := y1.trans (hu2.mono y1.size); obtain ⟨s0, s1⟩ := Cx.out u2 y2)
              | (go_at_call 55; (with_reducible refine (iRunLadder_any _ _ X ps _ (GX.out _ bD) (GL.out _ bD)).mono ?_); rintro e u1 ⟨yv, rfl, hOy, hu1⟩; rw [HXT.out] at hOy; obtain ⟨Y1, e1, Y2, e2, rfl, -, -⟩ := hOy.form; have hr1 := hOy.readF HRL.out HSF2.out; have y1 := bD.trans (hu1.mono bD.size); obtain ⟨t0, t1⟩ := Cx.out u1 y1))
          all_goals
            go_wp2
            go_ret
            exact ⟨rfl, Bb.out _ y2⟩
end Go.Proofs.Ytoagnajljdbobaa
