/- The laws of on-delays and off-delays: plain facts, their walks. -/
import Derived.Test.YtikebldmbabmiaaTb
import Derived.Deep.CutRange
namespace Go.Proofs.Ytikebldmbabmiaa
open Go.RowKit
attribute [local go_sem ↓] Go.wp_at_zero Go.wp_at_succ

theorem mul_step (k : Nat) (d : Int) : ((k + 1 : Nat) : Int) * d = (k : Int) * d + d := by push_cast; rw [Int.add_mul]; omega
theorem mul_lt {k n : Nat} {d : Int} (hd : 1 ≤ d) (h : k < n) : (k : Int) * d + d ≤ (n : Int) * d := by
  rw [← mul_step]; exact Int.mul_le_mul_of_nonneg_right (by omega) (by omega)
theorem mul_pos {n : Nat} {d : Int} (hd : 1 ≤ d) (h : 1 ≤ n) : 1 ≤ (n : Int) * d := by
  have := mul_lt (k := 0) hd h; simp at this; omega
theorem tnew_on {p : Int} (hp : 0 ≤ p ∧ p ≤ 10000) : tnew 1 p = ⟨1, p, 0, false, false⟩ := by
  unfold tnew; rw [if_pos (tvalid_make ⟨by simp, by simp⟩ hp ⟨by simp, hp.1⟩)]; rfl
theorem tnew_off {k p : Int} (hk : k = 2 ∨ k = 3) (hp : 0 ≤ p ∧ p ≤ 10000) : tnew k p = ⟨k, p, p, false, false⟩ := by
  unfold tnew; rw [if_pos (tvalid_make (by simp only; omega) hp ⟨by simp, hp.1⟩), if_neg (by omega)]
def trues (N : Nat) : List Bool := List.replicate N true
theorem trues_get (N k : Nat) (h : k < N) : (trues N).getD k false = true := by simp [trues, List.getD, h]
/-- An on-delay with a true input. -/
theorem on_at (n N : Nat) (d : Int) (hd : 1 ≤ d) (k : Nat) (h : k < N) :
    tAt ⟨1, (n : Int) * d, 0, false, false⟩ (trues N) d (k + 1) = ⟨1, (n : Int) * d, if k < n then (k : Int) * d else (n : Int) * d, true, decide (n ≤ k)⟩ := by
  induction k with
  | zero =>
    show tstep ⟨1, (n : Int) * d, 0, false, false⟩ ((trues N).getD 0 false) d = _
    rw [trues_get N 0 h]
    unfold tstep
    rcases Nat.eq_zero_or_pos n with rfl | hn
    · simp
    · have := mul_pos hd hn
      have e : ¬ (0 : Int) = (n : Int) * d := by omega
      have e2 : ¬ n ≤ 0 := by omega
      simp [e, hn]
      omega
  | succ k ih =>
    show tstep (tAt _ _ d (k + 1)) ((trues N).getD (k + 1) false) d = _
    rw [ih (by omega), trues_get N (k + 1) h]
    unfold tstep tmore
    have e0 := mul_step k d
    by_cases h1 : k < n
    · by_cases h2 : k + 1 < n
      · have := mul_lt hd h2
        have e1 : (k : Int) * d + d < (n : Int) * d := by omega
        have e2 : ¬ (k : Int) * d + d = (n : Int) * d := by omega
        simp only [if_pos h1, if_pos h2, e0]
        simp [e1, e2]
        omega
      · obtain rfl : n = k + 1 := by omega
        rw [e0]
        simp
    · have := mul_lt (d := d) hd (show k < k + 1 by omega)
      have e1 : ¬ ((n : Int) * d + d < (n : Int) * d) := by omega
      have h3 : ¬ k + 1 < n := by omega
      have h4 : n ≤ k + 1 := by omega
      simp only [if_neg h1, if_neg h3]
      simp [e1, h4]
/-- An off-delay after a true input. -/
theorem off_at (n N : Nat) (d : Int) (hd : 1 ≤ d) (hn : 1 ≤ n) (k : Nat) :
    tAt ⟨2, (n : Int) * d, (n : Int) * d, false, false⟩ (true :: List.replicate N false) d (k + 1) = ⟨2, (n : Int) * d, if k < n then (k : Int) * d else (n : Int) * d, decide (k = 0), decide (k < n)⟩ := by
  induction k with
  | zero =>
    show tstep ⟨2, (n : Int) * d, (n : Int) * d, false, false⟩ _ d = _
    unfold tstep
    have h0 : 0 < n := by omega
    simp [h0, List.getD]
  | succ k ih =>
    show tstep (tAt _ _ d (k + 1)) ((true :: List.replicate N false).getD (k + 1) false) d = _
    have eg : (true :: List.replicate N false).getD (k + 1) false = false := by
      simp only [List.getD, List.getElem?_cons_succ]
      by_cases hk : k < N
      · simp [hk]
      · rw [List.getElem?_eq_none (by simp; omega)]; rfl
    rw [ih, eg]
    unfold tstep tmore
    have e0 := mul_step k d
    by_cases h1 : k < n
    · by_cases h2 : k + 1 < n
      · have := mul_lt hd h2
        have e1 : (k : Int) * d + d < (n : Int) * d := by omega
        simp only [if_pos h1, if_pos h2, e0]
        simp [e1, h1, h2]
      · obtain rfl : n = k + 1 := by omega
        rw [e0]
        simp
    · have e1 : ¬ ((n : Int) * d + d < (n : Int) * d) := by omega
      have h3 : ¬ k + 1 < n := by omega
      simp only [if_neg h1, if_neg h3]
      simp [e1, h1, h3]
/-- A pulse timer after a rising edge, whatever the input does meanwhile. -/
theorem pulse_at (n : Nat) (l : List Bool) (d : Int) (hd : 1 ≤ d) (h0 : l.getD 0 false = true) (k : Nat) (hk : k < n) :
    tAt ⟨3, (n : Int) * d, (n : Int) * d, false, false⟩ l d (k + 1) = ⟨3, (n : Int) * d, (k : Int) * d, l.getD k false, true⟩ := by
  induction k with
  | zero =>
    show tstep ⟨3, (n : Int) * d, (n : Int) * d, false, false⟩ (l.getD 0 false) d = _
    rw [h0]
    have := mul_pos hd hk
    have e : 0 < (n : Int) * d := by omega
    unfold tstep
    simp [e]
  | succ k ih =>
    show tstep (tAt _ _ d (k + 1)) (l.getD (k + 1) false) d = _
    rw [ih (by omega)]
    generalize l.getD (k + 1) false = x
    generalize l.getD k false = y
    have e0 := mul_step k d
    have h1 := mul_lt hd hk
    have h2 := mul_lt hd (show k < n by omega)
    have e1 : (k : Int) * d < (n : Int) * d := by omega
    have e2 : (k : Int) * d + d < (n : Int) * d := by omega
    unfold tstep tmore
    rw [e0]
    simp [e1, e2]
theorem pulse_hold (n N : Nat) (d : Int) (hd : 1 ≤ d) (hn : 1 ≤ n) (k : Nat) (hk : k < N) :
    tAt ⟨3, (n : Int) * d, (n : Int) * d, false, false⟩ (trues N) d (k + 1) = ⟨3, (n : Int) * d, if k < n then (k : Int) * d else (n : Int) * d, true, decide (k < n)⟩ := by
  by_cases h : k < n
  · rw [pulse_at n _ d hd (trues_get N 0 (by omega)) k h, trues_get N k hk, if_pos h]
    simp [h]
  · induction k with
    | zero => omega
    | succ k ih =>
      show tstep (tAt _ _ d (k + 1)) ((trues N).getD (k + 1) false) d = _
      rw [trues_get N (k + 1) hk]
      have e1 : ¬ ((n : Int) * d + d < (n : Int) * d) := by omega
      by_cases h1 : k < n
      · obtain rfl : n = k + 1 := by omega
        rw [pulse_at (k + 1) _ d hd (trues_get N 0 (by omega)) k (by omega), trues_get N k (by omega)]
        have e0 := mul_step k d
        unfold tstep tmore
        rw [e0]
        simp
      · rw [ih (by omega) h1]
        unfold tstep tmore
        simp [e1, h, h1]
theorem traceL_get {t : Tm} {l : List Bool} {dt : Int} (h : traceOK t l dt = true) (k : Nat) (hk : k < (traceL t l dt).length) : (traceL t l dt)[k] = (tAt t l dt (k + 1)).out := by
  have e : traceL t l dt = traceTo t l dt l.length := by unfold traceL; rw [h, if_pos rfl]
  simp only [e, traceTo, List.getElem_map, List.getElem_range]
theorem FnTimerOn_long (a : Option Addr) (n c : Nat) (a1 : Option Addr) (n1 c1 : Nat) (w : World) (h : 1048576 < n ∨ 1048576 < n1) (_hn : n ≤ 9223372036854775807) (_hn1 : n1 ≤ 9223372036854775807) : Calls Try.prog 7 #[.slice a n c, .slice a1 n1 c1] w (LawPost w) := by
  by_cases h0 : 1048576 < n
  · go_enter Try.func7, Try.ntmps7
    go_wp2
    go_ret
    exact ⟨rfl, Below.refl _ _⟩
  · have h1 : 1048576 < n1 := by omega
    go_enter Try.func7, Try.ntmps7
    go_wp2
    go_ret
    exact ⟨rfl, Below.refl _ _⟩
set_option maxHeartbeats 4000000 in
theorem FnTimerOn_core (v v2 : Value) (bl bl2 : List Int) (w : World) (h : BytesR w w.heap.size v bl) (h2 : BytesR w w.heap.size v2 bl2) (hl : bl.length ≤ 1048576) (hl2 : bl2.length ≤ 1048576) :
    Calls Try.prog 7 #[v, v2] w (LawPost w) := by
  have HO := Lib.hid (drawNewTimer_any v bl w h)
  obtain ⟨A0, c0, rfl, -⟩ := h
  obtain ⟨A1, c1, rfl, -⟩ := h2
  go_enter Try.func7, Try.ntmps7
  go_wp2_with fail
  refine HO.out.mono ?_
  rintro e w1 ⟨k0, p, rfl, hk0, hp0, hb1⟩
  clear HO
  go_upto_region 4 with fail
  go_cut [7] from 27 to 30 (fun a wx => ∃ d : Int, a = .int .i64 d ∧ (1 ≤ d ∧ d ≤ 50) ∧ wx = w1)
  case first =>
    go_wp2_with fail
    go_meet
    exact ⟨_, rfl, by omega, rfl⟩
  case rest =>
  obtain ⟨d, rfl, hd, rfl⟩ := hcut
  go_upto_region 5 with fail
  go_cut [8] from 31 to 33 (fun a wx => ∃ n : Nat, a = .int .i64 n ∧ n < 60 ∧ wx = wc)
  case first =>
    go_wp2_with fail
    all_goals
      go_meet
      first
        | exact ⟨0, rfl, by omega, rfl⟩
        | exact ⟨(p % 60).toNat, by congr 1; omega, by omega, rfl⟩
  case rest =>
  obtain ⟨n, rfl, hn, rfl⟩ := hcut
  have hP0 : 0 ≤ (n : Int) * d := Int.mul_nonneg (by omega) (by omega)
  have hP1 : (n : Int) * d ≤ 3000 := Int.le_trans (Int.mul_le_mul_of_nonneg_left hd.2 (by omega)) (by omega)
  have hw : wrap64 ((n : Int) * d) = (n : Int) * d := by unfold wrap64; omega
  have HI := Lib.hid (fun W : World => iNewTimer_any 1 ((n : Int) * d) W (by omega) (by omega))
  rw [tnew_on (by omega)] at HI
  unfold TmPost tmV at HI
  go_wp2_with fail
  refine (HI.out _).mono ?_
  rintro e w2 ⟨rfl, hb2⟩
  have hB2 := hb1.trans (hb2.mono hb1.size)
  have hx2 := boxT w2 ⟨1, (n : Int) * d, 0, false, false⟩
  have hB3 := hB2.alloc hB2.size (.cells #[.int .i64 1, .int .i64 ((n : Int) * d), .int .i64 0, .bool false, .bool false] 24)
  clear HI hb1 hb2 hB2
  obtain ⟨q, hq⟩ : ∃ q, q = w2.heap.size := ⟨_, rfl⟩
  go_upto_region 7 with fail
  rw [← hq] at hx2 ⊢
  generalize w2.alloc (.cells #[.int .i64 1, .int .i64 ((n : Int) * d), .int .i64 0, .bool false, .bool false] 24) = w3 at hx2 hB3 ⊢
  clear hq
  obtain ⟨N, hN⟩ : ∃ N, N = n + 5 := ⟨_, rfl⟩
  have i5 : (n : Int) + 5 = (N : Int) := by omega
  have hNb : N ≤ 64 := by omega
  have HNN := Lib.hid hN
  clear hN
  go_wp2_with (at_make; refine wpl_make rfl _ _ 35 rfl elB N rfl rfl ?c1 ?c2 ?_)
  case c1 => omega
  case c2 => omega
  intro w4 hown hb4
  rw [madeB N (fun _ => true)] at hown
  have hs3 := hB3.size
  have hq3 := blk_lt hx2
  go_wp2_with fail
  go_loopw [11] (fun i wr => ∃ k : Nat, k ≤ N ∧ i = .int .i64 k ∧ wr.ownsRow w3.heap.size 4 1 (.slice (some ⟨w3.heap.size, 0, none⟩) N N) N (((List.range N).map fun j => decide (j < k) && true).map Value.bool) ∧ Below w3.heap.size w3 wr) (fun i _ => N - (intOf i).toNat)
  case atStart => exact ⟨0, by omega, rfl, hown, hb4⟩
  case round =>
    clear hb4
    obtain ⟨k, hk, rfl, hown', hbr⟩ := hrel
    by_cases hlt : k < N
    · have hc := hown'.cellAt k (by omega)
      have hz := hown'.frozenAt k
      have hst := hown'.stored k (.bool true)
      rw [map_set_step N k (fun _ => true) hlt] at hst
      obtain ⟨u, hu⟩ : ∃ u, (((List.range N).map fun j => decide (j < k) && true).map Value.bool)[k]? = some u := ⟨_, List.getElem?_eq_getElem (by simp; omega)⟩
      rw [hu] at hc
      have H := Lib.hid hst
      clear hst hu hown' hown
      go_wp2
      go_roundw
      case rel => exact ⟨k + 1, by omega, by go_num, H.out.1, hbr.setCell (by simp) _⟩
      case measure => simp [intOf]; omega
    · obtain rfl : k = N := by omega
      clear hown
      have hO : OwnB wr w3.heap.size (.slice (some ⟨w3.heap.size, 0, none⟩) (trues k).length k) (trues k) := by
        unfold OwnB
        have e : ((List.range k).map fun j => decide (j < k) && true) = trues k := by
          apply List.ext_getElem
          · simp [trues]
          · intro i h1 h2
            have : i < k := by simp at h1; exact h1
            simp [trues, this]
        have e2 : (trues k).length = k := by simp [trues]
        rw [e2]
        rw [e] at hown'
        exact hown'
      have e2 : (trues k).length = k := by simp [trues]
      rw [e2] at hO
      have hBr := hB3.trans (hbr.mono hs3)
      have hxr := blk_up hx2 hbr
      have HR := Lib.hid (fun (W : World) (hb : Below wr.heap.size wr W) => OwnB.read (own_below hO hb) (by rw [e2]; omega))
      have hok : traceOK ⟨1, (n : Int) * d, 0, false, false⟩ (trues k) d = true := traceOK_make (tvalid_make ⟨by simp, by simp⟩ (by simp only; omega) (by simp only; omega)) (by omega) (by rw [e2]; omega)
      have HI := Lib.hid (fun (W : World) (vv : Value) (hv : BoolsR W W.heap.size vv (trues k)) => iTimerTrace_any ⟨1, (n : Int) * d, 0, false, false⟩ vv (trues k) d W (tvalid_fit (traceOK_parts hok).1) hv (by omega))
      have HS := Lib.hid (fun (W : World) (vv : Value) (hv : BoolsR W W.heap.size vv (trues k)) => sTimerTrace_any ⟨1, (n : Int) * d, 0, false, false⟩ vv (trues k) d W (tvalid_fit (traceOK_parts hok).1) hv (by omega))
      have HG := Lib.hid (fun j hj => (traceL_get hok j hj))
      have hEl := traceL_ok_len hok
      have HON := Lib.hid (fun j (hj : j < k) => on_at n k d hd.1 j hj)
      obtain ⟨E, hE⟩ : ∃ E, E = traceL ⟨1, (n : Int) * d, 0, false, false⟩ (trues k) d := ⟨_, rfl⟩
      rw [e2, ← hE] at hEl
      rw [← hE] at HI HS
      have HGE := Lib.hid (show ∀ j (hj : j < E.length), E[j] = decide (n ≤ j) by
        subst hE
        intro j hj
        rw [HG.out j hj, HON.out j (by omega)])
      have HEL := Lib.hid hEl
      clear hE HG HON hok hown' hO hx2 hB3 hbr e2 hEl
      unfold tmV at HI HS
      simp only at HI HS
      obtain ⟨a0, a1, a2, a3, a4, -⟩ := blk5 hxr
      go_wp2_with fail
      refine (HI.out _ _ (HR.out _ (Below.refl _ _))).mono ?_
      rintro e w5 ⟨v5, rfl, hO5, hb5⟩
      obtain ⟨A5, c5, rfl, -, -⟩ := own_form hO5
      have HR5 := Lib.hid (fun (W : World) (hb : Below w5.heap.size w5 W) => OwnB.read (own_below hO5 hb) (by have := HEL.out; omega))
      have hx5 := blk_up hxr hb5
      have hB5 := hBr.trans (hb5.mono hBr.size)
      clear hO5 hxr hBr a0 a1 a2 a3 a4
      have h64 : E.length ≤ 64 := by have := HEL.out; omega
      go_wp2_with fail
      go_loopw [13] (fun iv wx => ∃ j : Nat, j ≤ E.length ∧ iv = .int .i64 j ∧ Below w5.heap.size w5 wx) (fun iv _ => E.length - (intOf iv).toNat)
      case atStart => exact ⟨0, by omega, rfl, Below.refl _ _⟩
      case round =>
        obtain ⟨j, hj, rfl, hbx⟩ := hrel
        by_cases hjl : j < E.length
        · obtain ⟨_, _, ez, rd, -⟩ := HR5.out _ hbx
          injection ez with ez1 _ ez3
          subst ez1; subst ez3
          obtain ⟨p5, rfl, hpb, g1⟩ := cell_bool rd hjl
          rw [HGE.out j hjl, show decide (n ≤ j) = decide ((n : Int) ≤ (j : Int)) from by simp] at g1
          have i7 : (j : Int) < (E.length : Int) := by omega
          clear rd
          go_wp2
          go_roundw
          case rel => exact ⟨j + 1, by omega, by go_num, hbx⟩
          case measure => simp [intOf]; omega
        · obtain rfl : j = E.length := by omega
          have hqq : ((E.length : Int) == (k : Int)) = true := by rw [beq_iff_eq]; have := HEL.out; omega
          have hxx := blk_up hx5 hbx
          have hBx := hB5.trans (hbx.mono hB5.size)
          have hbx2 := hb5.trans (hbx.mono hb5.size)
          obtain ⟨a0, a1, a2, a3, a4, -⟩ := blk5 hxx
          go_wp2_with fail
          refine (HS.out _ _ (HR.out _ hbx2)).mono ?_
          rintro e w6 ⟨v6, rfl, hO6, hb6⟩
          have hr6 := OwnB.read hO6 (by omega)
          obtain ⟨A6, c6, rfl, -, -⟩ := own_form hO6
          have hbx6 := hbx.trans (hb6.mono hbx.size)
          have hB6 := hBx.trans (hb6.mono hBx.size)
          clear hO6 hb6 hxx a0 a1 a2 a3 a4 hx5
          go_wp2_with fail
          refine (bools_same _ _ E _ (HR5.out _ hbx6) hr6).mono ?_
          rintro e w7 ⟨rfl, hb7⟩
          go_wp2
          go_ret
          exact ⟨rfl, hB6.trans (hb7.mono hB6.size)⟩
end Go.Proofs.Ytikebldmbabmiaa
