/- The law of TimerTrace: its walk. -/
import Derived.Test.YtikebldmbabmiaaTa
import Derived.Test.YtikebldmbabmiaaLE
import Derived.StillTailTactics
namespace Go.Proofs.Ytikebldmbabmiaa
open Go.RowKit
attribute [local go_sem ↓] Go.wp_at_zero Go.wp_at_succ

/-- The rest of a slice of booleans: l[k:]. -/
theorem rest_b (A : Option Addr) (c : Nat) (l : List Bool) (k : Nat) (hk : k ≤ l.length) (hc : l.length ≤ c) (x : Int) (hx : x = (k : Int)) :
    ∃ A', (∀ w, (Instr.slice 35 (.slice A l.length c) (some (.int .i64 x)) none none).run Try.prog w = .ok (.slice A' (l.length - k) (c - k)) w) ∧
      ∀ w B, BoolsR w B (.slice A l.length c) l → BoolsR w B (.slice A' (l.length - k) (c - k)) (l.drop k) := by
  subst hx
  have hsz : ∀ w, (sizeOf (Try.prog.elem 35)).run Try.prog w = .ok 1 w := fun _ => by kernel_rfl
  have hrun : ∀ w, (Instr.slice 35 (.slice A l.length c) (some (.int .i64 (k : Int))) none none).run Try.prog w = .ok (sliced A k l.length c 1) w := by
    intro w
    rw [run_slice_l _ _ _ _ _ (by kernel_rfl) .i64 (k : Int) (by omega) (by omega), hsz]
    rfl
  refine ⟨if c = k then A else A.map (·.add (k * 1)), fun w => by rw [hrun]; rfl, fun w B hw => ?_⟩
  obtain ⟨A0, c0, e, hr, hl⟩ := hw
  injection e with e1 _ e3
  subst e1; subst e3
  refine ⟨_, _, by rw [List.length_drop], ⟨by simp, fun hn => ?_⟩, by rw [List.length_drop]; omega⟩
  have hn2 : 0 < l.length - k := by rw [List.length_drop] at hn; exact hn
  obtain ⟨p, rfl, hpb, hcc⟩ := hr.at_ (by omega)
  rw [if_neg (by omega)]
  refine ⟨p.add k, by simp, by rw [add_block]; exact hpb, fun j u hu => ?_⟩
  rw [add_add]
  refine hcc _ _ ?_
  rw [List.map_drop, List.getElem?_drop] at hu
  exact hu
theorem tAt_add (t : Tm) (l : List Bool) (dt : Int) (n k : Nat) : tAt t l dt (n + k) = tAt (tAt t l dt n) (l.drop n) dt k := by
  induction k with
  | zero => rfl
  | succ k ih =>
    show tstep (tAt t l dt (n + k)) (l.getD (n + k) false) dt = tstep _ ((l.drop n).getD k false) dt
    rw [ih]
    simp [List.getD, List.getElem?_drop]
theorem traceTo_drop (t : Tm) (l : List Bool) (dt : Int) (n : Nat) (_hn : n ≤ l.length) : traceTo (tAt t l dt n) (l.drop n) dt (l.drop n).length = (traceTo t l dt l.length).drop n := by
  apply List.ext_getElem
  · simp [traceTo]
  · intro i h1 h2
    simp only [traceTo, List.getElem_map, List.getElem_range, List.getElem_drop]
    rw [show n + i + 1 = n + (i + 1) by omega, tAt_add t l dt n (i + 1)]
theorem traceOK_parts {t : Tm} {l : List Bool} {dt : Int} (h : traceOK t l dt = true) : tvalid t = true ∧ (0 ≤ dt ∧ dt ≤ 1000) ∧ l.length ≤ 200 := by
  unfold traceOK inB at h; simp at h; exact ⟨h.1, h.2.1, h.2.2⟩
theorem traceOK_make {t : Tm} {l : List Bool} {dt : Int} (h : tvalid t = true) (hd : 0 ≤ dt ∧ dt ≤ 1000) (hl : l.length ≤ 200) : traceOK t l dt = true := by
  unfold traceOK inB; simp [h, hd, hl]
theorem traceL_drop {t : Tm} {l : List Bool} {dt : Int} (h : traceOK t l dt = true) (n : Nat) (hn : n ≤ l.length) : traceL (tAt t l dt n) (l.drop n) dt = (traceL t l dt).drop n := by
  obtain ⟨h1, h2, h3⟩ := traceOK_parts h
  unfold traceL
  rw [h, if_pos rfl, traceOK_make (tAt_valid l h1 h2.1 n) h2 (by rw [List.length_drop]; omega), if_pos rfl]
  exact traceTo_drop t l dt n hn
theorem traceL_ok_len {t : Tm} {l : List Bool} {dt : Int} (h : traceOK t l dt = true) : (traceL t l dt).length = l.length := by
  unfold traceL; rw [h, if_pos rfl, traceTo_len]
theorem tvalid_fit {t : Tm} (h : tvalid t = true) : fitT t := by
  have := tvalid_parts h; unfold fitT; omega
theorem tstepF_ok {t : Tm} {x : Bool} {dt : Int} (h : tvalid t = true) (hd : 0 ≤ dt ∧ dt ≤ 1000) : tstepF t x dt = tstep t x dt := by
  unfold tstepF inB; simp [h, hd]
theorem FnTimerTrace_long (a : Option Addr) (n c : Nat) (w : World) (h : 1048576 < n) (_hn : n ≤ 9223372036854775807) : Calls Try.prog 6 #[.slice a n c] w (LawPost w) := by
  go_enter Try.func6, Try.ntmps6
  go_wp2
  go_ret
  exact ⟨rfl, Below.refl _ _⟩
set_option maxHeartbeats 4000000 in
theorem FnTimerTrace_core (v : Value) (bl : List Int) (w : World) (h : BytesR w w.heap.size v bl) (hl : bl.length ≤ 1048576) :
    Calls Try.prog 6 #[v] w (LawPost w) := by
  have HO := Lib.hid (drawTimerTrace_any v bl w h)
  obtain ⟨A0, c0, rfl, -⟩ := h
  go_enter Try.func6, Try.ntmps6
  go_wp2_with fail
  refine HO.out.mono ?_
  rintro e w1 ⟨t, A, c, l, dt, rfl, hs, hO, h201, hd, hb1⟩
  clear HO
  have hfit := hs.fit
  have hcl : l.length ≤ c := by
    obtain ⟨_, _, ez, hq, -⟩ := own_form hO
    injection ez with _ _ e3
    subst e3
    exact hq
  have HR := Lib.hid (fun (W : World) (hb : Below w1.heap.size w1 W) => OwnB.read (own_below hO hb) (by omega))
  have HI := Lib.hid (fun (W : World) (vv : Value) (hv : BoolsR W W.heap.size vv l) => iTimerTrace_any t vv l dt W hfit hv (by omega))
  have HS := Lib.hid (fun (W : World) (vv : Value) (hv : BoolsR W W.heap.size vv l) => sTimerTrace_any t vv l dt W hfit hv (by omega))
  have HV := Lib.hid (fun W : World => sTimerValid_any t W)
  obtain ⟨E, hE⟩ : ∃ E, E = traceL t l dt := ⟨_, rfl⟩
  have hE2 : E.length ≤ 200 := by rw [hE]; exact traceL_len t l dt
  rw [← hE] at HI HS
  have HE := Lib.hid hE
  clear hE hO
  unfold tmV at HI HS HV ⊢
  have hx1 := boxT w1 t
  have hB1 := (Below.refl w1.heap.size w1).alloc (Nat.le_refl _) (.cells #[.int .i64 t.kind, .int .i64 t.pre, .int .i64 t.el, .bool t.bef, .bool t.out] 24)
  go_wp2_with fail
  refine (HI.out _ _ (HR.out _ hB1)).mono ?_
  rintro e w2 ⟨v2, rfl, hO2, hb2⟩
  obtain ⟨A2, c2, rfl, hc2, -⟩ := own_form hO2
  have HR2 := Lib.hid (fun (W : World) (hb : Below w2.heap.size w2 W) => OwnB.read (own_below hO2 hb) (by omega))
  have hx2 := blk_up hx1 hb2
  have hB2 := hB1.trans (hb2.mono hB1.size)
  clear hx1 hB1 hb2 hO2
  obtain ⟨a0, a1, a2, a3, a4, -⟩ := blk5 hx2
  go_wp2_with fail
  refine (HS.out _ _ (HR.out _ hB2)).mono ?_
  rintro e w3 ⟨v3, rfl, hO3, hb3⟩
  have hr3 := OwnB.read hO3 (by omega)
  obtain ⟨A3, c3, rfl, -, -⟩ := own_form hO3
  have hx3 := blk_up hx2 hb3
  have hB3 := hB2.trans (hb3.mono hB2.size)
  clear a0 a1 a2 a3 a4 hx2 hO3
  go_wp2_with fail
  refine (bools_same _ _ E _ (HR2.out _ hb3) hr3).mono ?_
  rintro e w4 ⟨rfl, hb4⟩
  have hx4 := blk_up hx3 hb4
  have hB4 := hB3.trans (hb4.mono hB3.size)
  have hb24 := hb3.trans (hb4.mono hb3.size)
  clear hx3 hB3 hb3 hb4 hr3 HS
  obtain ⟨a0, a1, a2, a3, a4, -⟩ := blk5 hx4
  go_wp2_with fail
  refine (HV.out _).mono ?_
  rintro e w5 ⟨rfl, hb5⟩
  have hx5 := blk_up hx4 hb5
  have hB5 := hB4.trans (hb5.mono hB4.size)
  have hb25 := hb24.trans (hb5.mono hb24.size)
  clear hx4 hB4 hb24 hb5 HV a0 a1 a2 a3 a4
  cases hok : traceOK t l dt
  · obtain rfl : E = [] := by rw [HE.out]; unfold traceL; rw [hok]; rfl
    have hcase : tvalid t = false ∨ (tvalid t = true ∧ (200 < l.length ∨ (¬ 200 < l.length ∧ (dt = -1 ∨ dt = 1001)))) := by
      cases h1 : tvalid t
      · exact .inl rfl
      · refine .inr ⟨rfl, ?_⟩
        by_cases h2 : 200 < l.length
        · exact .inl h2
        · refine .inr ⟨h2, ?_⟩
          by_cases h3 : 0 ≤ dt ∧ dt ≤ 1000
          · rw [traceOK_make h1 h3 (by omega)] at hok; exact absurd hok (by decide)
          · omega
    clear hok HE HI HR HR2
    rcases hcase with h1 | ⟨h1, h2 | ⟨h2, rfl | rfl⟩⟩
    all_goals
      rw [h1]
      clear h1
      go_wp2_with fail
      refine (alive_any _).mono ?_
      rintro e w6 ⟨rfl, hb6⟩
      go_wp2
      go_ret
      exact ⟨rfl, hb1.trans ((hB5.trans (hb6.mono hB5.size)).mono hb1.size)⟩
  · obtain ⟨k1, k2, k3⟩ := traceOK_parts hok
    have hEl : E.length = l.length := by rw [HE.out]; exact traceL_ok_len hok
    rw [k1]
    have h2 : ¬ 200 < l.length := by omega
    have h3 : ¬ dt < 0 := by omega
    have h4 : ¬ 1000 < dt := by omega
    obtain ⟨n, hn⟩ : ∃ n, n = l.length / 2 := ⟨_, rfl⟩
    have hni : (l.length : Int) / 2 = (n : Int) := by omega
    have hnl : n ≤ l.length := by omega
    obtain ⟨S1, run1, read1⟩ := rest_b A c l n hnl hcl n rfl
    obtain ⟨S2, run2, read2⟩ := rest_b A2 c2 E n (by omega) hc2 n rfl
    have hdr := traceL_drop hok n hnl
    rw [← HE.out] at hdr
    have HT := Lib.hid (fun (W : World) (T : Tm) (x : Bool) (h1 : tvalid T = true) => iTimerStep_any T x dt W (tvalid_fit h1) (by omega))
    have HTV := Lib.hid (fun k => tAt_valid l k1 k2.1 k)
    have HTS := Lib.hid (fun (T : Tm) (x : Bool) (h1 : tvalid T = true) => tstepF_ok (x := x) h1 k2)
    have HF := Lib.hid (fun (W : World) (vv : Value) (hv : BoolsR W W.heap.size vv (l.drop n)) => iTimerTrace_any (tAt t l dt n) vv (l.drop n) dt W (tvalid_fit (tAt_valid l k1 k2.1 n)) hv (by omega))
    rw [hdr] at HF
    have HN := Lib.hid hn
    have HEL := Lib.hid hEl
    have R1 := Lib.hid run1
    have R2 := Lib.hid run2
    have D1 := Lib.hid read1
    have D2 := Lib.hid read2
    have HDT := Lib.hid hd
    have HK1 := Lib.hid k1
    have HK2 := Lib.hid k2
    clear hok HI hdr k1 hn hEl run1 run2 read1 read2 k3 k2
    obtain ⟨a0, a1, a2, a3, a4, -⟩ := blk5 hx5
    have hy := boxT w5 t
    have hB6 := hB5.alloc hB5.size (.cells #[.int .i64 t.kind, .int .i64 t.pre, .int .i64 t.el, .bool t.bef, .bool t.out] 24)
    have hb26 := hb25.alloc hb25.size (.cells #[.int .i64 t.kind, .int .i64 t.pre, .int .i64 t.el, .bool t.bef, .bool t.out] 24)
    have hs5 := hb25.size
    have hs1 := hB5.size
    go_wp2_with fail
    go_loopw [9] (fun iv wr => ∃ k : Nat, k ≤ n ∧ iv = .int .i64 k ∧ wr.heap[w5.heap.size]? = some (.cells (tmC (tAt t l dt k)) 24 (0, 0)) ∧ Below w5.heap.size w5 wr) (fun iv _ => n - (intOf iv).toNat)
    case atStart => exact ⟨0, by omega, rfl, hy, (Below.refl _ _).alloc (Nat.le_refl _) _⟩
    case round =>
      clear hy hB6 hb26 a0 a1 a2 a3 a4 hx5
      obtain ⟨k, hk, rfl, hbk, hbr⟩ := hrel
      have hBr := hB5.trans (hbr.mono hB5.size)
      by_cases hlt : k < n
      · have hkl : k < l.length := by omega
        obtain ⟨_, _, ez, rd, -⟩ := HR.out _ hBr
        injection ez with ez1 _ ez3
        subst ez1; subst ez3
        obtain ⟨p, rfl, hpb, g1⟩ := cell_bool rd hkl
        have HTv := Lib.hid (HTV.out k)
        have HSu := Lib.hid (tAt_succ t l dt k hkl)
        obtain ⟨T, hT⟩ : ∃ T, T = tAt t l dt k := ⟨_, rfl⟩
        rw [← hT] at hbk HTv HSu
        clear hT rd hpb
        obtain ⟨c0, c1', c2, c3, c4, z0, z1, z2, z3, z4⟩ := blkT hbk
        have i1 : (k : Int) < (n : Int) := by omega
        have i2 : (k : Int) < (l.length : Int) := by omega
        go_wp2_with fail
        go_still_tail 6, (by kernel_rfl)
        go_wp2_with fail
        have hbkd : wr.drew.heap[w5.heap.size]? = some (.cells (tmC T) 24 (0, 0)) := hbk
        have hbd : Below w5.heap.size w5 wr.drew := hbr.drew
        clear c0 c1' c2 c3 c4 z0 z1 z2 z3 z4 hbk hbr g1 hBr
        generalize wr.drew = wd at hbkd hbd ⊢
        have hltd := blk_lt hbkd
        have HTT := HT.out wd T l[k] HTv.out
        rw [HTS.out T l[k] HTv.out, ← HSu.out] at HTT
        refine HTT.mono ?_
        obtain ⟨T2, hT2⟩ : ∃ T2, T2 = tAt t l dt (k + 1) := ⟨_, rfl⟩
        rw [← hT2]
        have HT2 := Lib.hid hT2
        clear hT2 HTT
        rintro e w6 ⟨rfl, hb6⟩
        have hbk3 := (hb6.block _ hltd).trans hbkd
        have hbr3 : Below w5.heap.size w5 w6 := hbd.trans (hb6.mono hbd.size)
        clear hbkd hbd hb6 hltd
        obtain ⟨c0, c1', c2, c3, c4, z0, z1, z2, z3, z4⟩ := blkT hbk3
        have HX := Lib.hid (five_set (u := T2) hbk3)
        have HB := Lib.hid (five_below (u := T2) hbr3 (Nat.le_refl w5.heap.size))
        have hs3 := hbr3.size
        unfold tmV
        clear hbk3 hbr3
        go_wp2
        go_roundw
        case rel => exact ⟨k + 1, by omega, by go_num, by rw [← HT2.out]; exact HX.out, HB.out⟩
        case measure => simp [intOf]; omega
      · obtain rfl : k = n := by omega
        have hqq : ((E.length : Int) == (l.length : Int)) = true := by rw [beq_iff_eq]; have := HEL.out; omega
        have hb2r := hb25.trans (hbr.mono hb25.size)
        have run1 := R1.out
        have run2 := R2.out
        have tok1 : True := trivial
        have hl1 := blk_lt hbk
        obtain ⟨T, hT⟩ : ∃ T, T = tAt t l dt k := ⟨_, rfl⟩
        rw [← hT] at hbk HF
        clear hT hbr
        obtain ⟨c0, c1', c2, c3, c4, -⟩ := blkT hbk
        unfold tmV at HF
        go_upto_region 15 with fail
        have HA := Lib.hid (HF.out wr.drew _ (D1.out _ _ (HR.out wr.drew hBr.drew)))
        have HC := Lib.hid (fun (W : World) (hb : Below w2.heap.size w2 W) => D2.out _ _ (HR2.out W hb))
        have hb2d := hb2r.drew
        have hBd := hBr.drew
        clear HF HR HR2 D1 D2 R1 R2 hb2r hBr
        go_region_held3 (fun w' => w'.cell? ⟨w5.heap.size, 0, none⟩ = some (.int .i64 T.kind) ∧ w'.cell? ⟨w5.heap.size, 1, none⟩ = some (.int .i64 T.pre) ∧ w'.cell? ⟨w5.heap.size, 2, none⟩ = some (.int .i64 T.el) ∧ w'.cell? ⟨w5.heap.size, 3, none⟩ = some (.bool T.bef) ∧ w'.cell? ⟨w5.heap.size, 4, none⟩ = some (.bool T.out)) (first | go_keep)
          (first
            | (go_at_call 25; have tok := tok1; (with_reducible refine HA.out.mono ?_); rintro e w6 ⟨v6, rfl, hO6, hb6⟩; have hr6 := OwnB.read hO6 (by rw [List.length_drop]; omega); obtain ⟨A6, c6, rfl, -, -⟩ := own_form hO6; rw [List.length_drop] at hr6; have hb26' := hb2d.trans (hb6.mono hb2d.size); have hx6 := blk_up (w := wr.drew) hbk hb6; obtain ⟨m0, m1, m2, m3, m4, -⟩ := blkT hx6; have hB6' := hBd.trans (hb6.mono hBd.size); clear tok tok1)
            | (go_at_call 26; (with_reducible refine (bools_same _ _ (E.drop k) _ (HC.out _ hb26') hr6).mono ?_); rintro e w7 ⟨rfl, hb7⟩; have hB7 := hB6'.trans (hb7.mono hB6'.size); have hx7 := blk_up hx6 hb7; obtain ⟨o0, o1, o2, o3, o4, -⟩ := blkT hx7))
        go_wp2
        go_ret
        exact ⟨rfl, hb1.trans (hB7.mono hb1.size)⟩
end Go.Proofs.Ytikebldmbabmiaa
