/- The law of off-delays: its walk. -/
import Derived.Test.YtikebldmbabmiaaTc
namespace Go.Proofs.Ytikebldmbabmiaa
open Go.RowKit
attribute [local go_sem ↓] Go.wp_at_zero Go.wp_at_succ

theorem FnTimerOff_long (a : Option Addr) (n c : Nat) (a1 : Option Addr) (n1 c1 : Nat) (w : World) (h : 1048576 < n ∨ 1048576 < n1) (_hn : n ≤ 9223372036854775807) (_hn1 : n1 ≤ 9223372036854775807) : Calls Try.prog 9 #[.slice a n c, .slice a1 n1 c1] w (LawPost w) := by
  by_cases h0 : 1048576 < n
  · go_enter Try.func9, Try.ntmps9
    go_wp2
    go_ret
    exact ⟨rfl, Below.refl _ _⟩
  · have h1 : 1048576 < n1 := by omega
    go_enter Try.func9, Try.ntmps9
    go_wp2
    go_ret
    exact ⟨rfl, Below.refl _ _⟩
set_option maxHeartbeats 4000000 in
theorem FnTimerOff_core (v v2 : Value) (bl bl2 : List Int) (w : World) (h : BytesR w w.heap.size v bl) (h2 : BytesR w w.heap.size v2 bl2) (hl : bl.length ≤ 1048576) (hl2 : bl2.length ≤ 1048576) :
    Calls Try.prog 9 #[v, v2] w (LawPost w) := by
  have HO := Lib.hid (drawNewTimer_any v bl w h)
  obtain ⟨A0, c0, rfl, -⟩ := h
  obtain ⟨A1, c1, rfl, -⟩ := h2
  go_enter Try.func9, Try.ntmps9
  go_wp2_with fail
  refine HO.out.mono ?_
  rintro e w1 ⟨k0, p, rfl, hk0, hp0, hb1⟩
  clear HO
  go_upto_region 4 with fail
  go_cut [7] from 25 to 28 (fun a wx => ∃ d : Int, a = .int .i64 d ∧ (1 ≤ d ∧ d ≤ 50) ∧ wx = w1)
  case first =>
    go_wp2_with fail
    go_meet
    exact ⟨_, rfl, by omega, rfl⟩
  case rest =>
  obtain ⟨d, rfl, hd, rfl⟩ := hcut
  go_upto_region 5 with fail
  go_cut [8] from 29 to 32 (fun a wx => ∃ n : Nat, a = .int .i64 n ∧ (1 ≤ n ∧ n ≤ 40) ∧ wx = wc)
  case first =>
    go_wp2_with fail
    all_goals
      go_meet
      first
        | exact ⟨1, rfl, by omega, rfl⟩
        | exact ⟨(1 + p % 40).toNat, by congr 1; omega, by omega, rfl⟩
  case rest =>
  obtain ⟨n, rfl, hn, rfl⟩ := hcut
  have hP0 : 0 ≤ (n : Int) * d := Int.mul_nonneg (by omega) (by omega)
  have hP1 : (n : Int) * d ≤ 3000 := Int.le_trans (Int.mul_le_mul_of_nonneg_left hd.2 (by omega)) (by omega)
  have hw : wrap64 ((n : Int) * d) = (n : Int) * d := by unfold wrap64; omega
  have HI := Lib.hid (fun W : World => iNewTimer_any 2 ((n : Int) * d) W (by omega) (by omega))
  have HJ := Lib.hid (fun W : World => sNewTimer_any 2 ((n : Int) * d) W (by omega) (by omega))
  rw [tnew_off (.inl rfl) (by omega)] at HI HJ
  unfold TmPost tmV at HI HJ
  obtain ⟨N, hN⟩ : ∃ N, N = n + 3 := ⟨_, rfl⟩
  have i5 : (n : Int) + 4 = ((N + 1 : Nat) : Int) := by omega
  obtain ⟨M, hM⟩ : ∃ M, M = N + 1 := ⟨_, rfl⟩
  rw [← hM] at i5
  have hNb : M ≤ 64 := by omega
  have HNN := Lib.hid hN
  have HMM := Lib.hid hM
  clear hN hM
  go_upto_region 6 with fail
  go_wp2_with (at_make; refine wpl_make rfl _ _ 35 rfl elB M rfl rfl ?c1 ?c2 ?_)
  case c1 => omega
  case c2 => omega
  intro w4 hown hb4
  rw [madeB M (fun _ => true)] at hown
  have hM0 : 0 < M := by have := HMM.out; omega
  have hc := hown.cellAt 0 (by omega)
  have hz := hown.frozenAt 0
  have hst := hown.stored 0 (.bool true)
  rw [map_set_step M 0 (fun _ => true) hM0] at hst
  obtain ⟨u, hu⟩ : ∃ u, (((List.range M).map fun j => decide (j < 0) && true).map Value.bool)[0]? = some u := ⟨_, List.getElem?_eq_getElem (by simp; omega)⟩
  rw [hu] at hc
  have H := Lib.hid hst
  have hs4 := hb4.size
  have i0 : (0 : Int) < (M : Int) := by omega
  clear hu hown hst
  have hl5 : (true :: List.replicate N false).length = M := by rw [HMM.out]; simp
  have hO : OwnB (w4.setCell ⟨wc.heap.size, 0, none⟩ (.bool true)) wc.heap.size (.slice (some ⟨wc.heap.size, 0, none⟩) M M) (true :: List.replicate N false) := by
    unfold OwnB
    have e : ((List.range M).map fun j => decide (j < 0 + 1) && true) = true :: List.replicate N false := by
      apply List.ext_getElem
      · simp [HMM.out]
      · intro i h1 h2
        cases i with
        | zero => simp
        | succ i => simp
    rw [← e]
    have := H.out.1
    simpa using this
  have hB5 := hb1.trans ((hb4.setCell (p := ⟨wc.heap.size, 0, none⟩) (Nat.le_refl _) (.bool true)).mono hb1.size)
  have hs1 := hb1.size
  go_upto_region 8 with fail
  generalize w4.setCell ⟨wc.heap.size, 0, none⟩ (.bool true) = w5 at hO hB5 ⊢
  clear hc hz H hb4 hs4
  have HR := Lib.hid (fun (W : World) (hb : Below w5.heap.size w5 W) => OwnB.read (own_below hO hb) (by rw [hl5]; omega))
  have hok : traceOK ⟨2, (n : Int) * d, (n : Int) * d, false, false⟩ (true :: List.replicate N false) d = true := traceOK_make (tvalid_make ⟨by simp, by simp⟩ (by simp only; omega) (by simp only; omega)) (by omega) (by rw [hl5]; omega)
  have HT := Lib.hid (fun (W : World) (vv : Value) (hv : BoolsR W W.heap.size vv (true :: List.replicate N false)) => iTimerTrace_any ⟨2, (n : Int) * d, (n : Int) * d, false, false⟩ vv _ d W (tvalid_fit (traceOK_parts hok).1) hv (by omega))
  have HS := Lib.hid (fun (W : World) (vv : Value) (hv : BoolsR W W.heap.size vv (true :: List.replicate N false)) => sTimerTrace_any ⟨2, (n : Int) * d, (n : Int) * d, false, false⟩ vv _ d W (tvalid_fit (traceOK_parts hok).1) hv (by omega))
  have HG := Lib.hid (fun j hj => (traceL_get hok j hj))
  have hEl := traceL_ok_len hok
  have HOFF := Lib.hid (fun (j : Nat) => off_at n N d hd.1 hn.1 j)
  obtain ⟨E, hE⟩ : ∃ E, E = traceL ⟨2, (n : Int) * d, (n : Int) * d, false, false⟩ (true :: List.replicate N false) d := ⟨_, rfl⟩
  rw [hl5, ← hE] at hEl
  rw [← hE] at HT HS
  have HGE := Lib.hid (show ∀ j (hj : j < E.length), E[j] = decide (j < n) by
    subst hE
    intro j hj
    rw [HG.out j hj, HOFF.out j])
  have HEL := Lib.hid hEl
  have hn1 := hn.1
  have hn2 := hn.2
  clear hE HG HOFF hok hO hEl
  unfold tmV at HT HS
  go_wp2_with fail
  refine (HI.out _).mono ?_
  rintro e w6 ⟨rfl, hb6⟩
  have hB6 := hB5.trans (hb6.mono hB5.size)
  go_wp2_with fail
  refine (HT.out _ _ (HR.out _ hb6)).mono ?_
  rintro e w7 ⟨v7, rfl, hO7, hb7⟩
  obtain ⟨A7, c7, rfl, -, -⟩ := own_form hO7
  have HR7 := Lib.hid (fun (W : World) (hb : Below w7.heap.size w7 W) => OwnB.read (own_below hO7 hb) (by have := HEL.out; omega))
  have hB7 := hB6.trans (hb7.mono hB6.size)
  have hb57 := hb6.trans (hb7.mono hb6.size)
  clear hO7 hb6 hb7 hB6 hB5
  have h64 : E.length ≤ 64 := by have := HEL.out; omega
  go_wp2_with fail
  go_loopw [11] (fun iv wx => ∃ j : Nat, j ≤ E.length ∧ iv = .int .i64 j ∧ Below w7.heap.size w7 wx) (fun iv _ => E.length - (intOf iv).toNat)
  case atStart => exact ⟨0, by omega, rfl, Below.refl _ _⟩
  case round =>
    obtain ⟨j, hj, rfl, hbx⟩ := hrel
    by_cases hjl : j < E.length
    · obtain ⟨_, _, ez, rd, -⟩ := HR7.out _ hbx
      injection ez with ez1 _ ez3
      subst ez1; subst ez3
      obtain ⟨p5, rfl, hpb, g1⟩ := cell_bool rd hjl
      rw [HGE.out j hjl, show decide (j < n) = decide ((j : Int) < (n : Int)) from by simp] at g1
      have i7 : (j : Int) < (E.length : Int) := by omega
      clear rd
      go_wp2
      go_roundw
      case rel => exact ⟨j + 1, by omega, by go_num, hbx⟩
      case measure => simp [intOf]; omega
    · obtain rfl : j = E.length := by omega
      have hqq : ((E.length : Int) == (M : Int)) = true := by rw [beq_iff_eq]; have := HEL.out; omega
      have hBx := hB7.trans (hbx.mono hB7.size)
      have hbx2 := hb57.trans (hbx.mono hb57.size)
      go_wp2_with fail
      refine (HJ.out _).mono ?_
      rintro e w8 ⟨rfl, hb8⟩
      have hB8 := hBx.trans (hb8.mono hBx.size)
      have hb58 := hbx2.trans (hb8.mono hbx2.size)
      have hb78 := hbx.trans (hb8.mono hbx.size)
      clear hb8 hBx hbx2
      go_wp2_with fail
      refine (HS.out _ _ (HR.out _ hb58)).mono ?_
      rintro e w9 ⟨v9, rfl, hO9, hb9⟩
      have hr9 := OwnB.read hO9 (by omega)
      obtain ⟨A9, c9, rfl, -, -⟩ := own_form hO9
      have hb79 := hb78.trans (hb9.mono hb78.size)
      have hB9 := hB8.trans (hb9.mono hB8.size)
      clear hO9 hb9
      go_wp2_with fail
      refine (bools_same _ _ E _ (HR7.out _ hb79) hr9).mono ?_
      rintro e w10 ⟨rfl, hb10⟩
      go_wp2
      go_ret
      exact ⟨rfl, hB9.trans (hb10.mono hB9.size)⟩
end Go.Proofs.Ytikebldmbabmiaa
