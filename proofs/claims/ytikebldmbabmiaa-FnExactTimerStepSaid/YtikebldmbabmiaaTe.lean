/- The law of pulse timers: its walk. -/
import Derived.Test.YtikebldmbabmiaaTd
namespace Go.Proofs.Ytikebldmbabmiaa
open Go.RowKit
attribute [local go_sem ↓] Go.wp_at_zero Go.wp_at_succ

theorem FnTimerPulse_long (a : Option Addr) (n c : Nat) (a1 : Option Addr) (n1 c1 : Nat) (w : World) (h : 1048576 < n ∨ 1048576 < n1) (_hn : n ≤ 9223372036854775807) (_hn1 : n1 ≤ 9223372036854775807) : Calls Try.prog 8 #[.slice a n c, .slice a1 n1 c1] w (LawPost w) := by
  by_cases h0 : 1048576 < n
  · go_enter Try.func8, Try.ntmps8
    go_wp2
    go_ret
    exact ⟨rfl, Below.refl _ _⟩
  · have h1 : 1048576 < n1 := by omega
    go_enter Try.func8, Try.ntmps8
    go_wp2
    go_ret
    exact ⟨rfl, Below.refl _ _⟩
set_option maxHeartbeats 4000000 in
theorem FnTimerPulse_core (v v2 : Value) (bl bl2 : List Int) (w : World) (h : BytesR w w.heap.size v bl) (h2 : BytesR w w.heap.size v2 bl2) (hl : bl.length ≤ 1048576) (hl2 : bl2.length ≤ 1048576) :
    Calls Try.prog 8 #[v, v2] w (LawPost w) := by
  have HO := Lib.hid (drawNewTimer_any v bl w h)
  obtain ⟨A0, c0, rfl, -⟩ := h
  obtain ⟨A1, c1, rfl, -, hr2, -, -, hby⟩ := h2
  have HM := Lib.hid (show ∀ k (hk : k < bl2.length), ∃ p : Addr, A1 = some p ∧ p.block < w.heap.size ∧ w.cell? (p.add k) = some (.int .u8 bl2[k]) ∧ 0 ≤ bl2[k] ∧ bl2[k] ≤ 255 by
    intro k hk
    obtain ⟨p, u, e, hpb, hu, hc⟩ := hr2.one hk
    obtain rfl := byte_at hk hu
    exact ⟨p, e, hpb, hc, hby _ (List.getElem_mem hk)⟩)
  clear hr2 hby
  go_enter Try.func8, Try.ntmps8
  go_wp2_with fail
  refine HO.out.mono ?_
  rintro e w1 ⟨k0, p, rfl, hk0, hp0, hb1⟩
  clear HO
  go_upto_region 4 with fail
  go_cut [7] from 31 to 34 (fun a wx => ∃ d : Int, a = .int .i64 d ∧ (1 ≤ d ∧ d ≤ 50) ∧ wx = w1)
  case first =>
    go_wp2_with fail
    go_meet
    exact ⟨_, rfl, by omega, rfl⟩
  case rest =>
  obtain ⟨d, rfl, hd, rfl⟩ := hcut
  go_upto_region 5 with fail
  go_cut [8] from 35 to 38 (fun a wx => ∃ n : Nat, a = .int .i64 n ∧ (1 ≤ n ∧ n ≤ 40) ∧ wx = wc)
  case first =>
    go_wp2_with fail
    all_goals
      go_meet
      first
        | exact ⟨1, rfl, by omega, rfl⟩
        | exact ⟨(1 + p % 40).toNat, by congr 1; omega, by omega, rfl⟩
  case rest =>
  obtain ⟨n, rfl, hn, rfl⟩ := hcut
  have hP0 : 0 ≤ (n : Int) * d := Int.mul_nonneg (by omega) (by omega)
  have hP1 : (n : Int) * d ≤ 3000 := Int.le_trans (Int.mul_le_mul_of_nonneg_left hd.2 (by omega)) (by omega)
  have hw : wrap64 ((n : Int) * d) = (n : Int) * d := by unfold wrap64; omega
  have HI := Lib.hid (fun W : World => iNewTimer_any 3 ((n : Int) * d) W (by omega) (by omega))
  rw [tnew_off (.inr rfl) (by omega)] at HI
  unfold TmPost tmV at HI
  go_wp2_with fail
  refine (HI.out _).mono ?_
  rintro e w2 ⟨rfl, hb2⟩
  have hB2 := hb1.trans (hb2.mono hb1.size)
  have hx2 := boxT w2 ⟨3, (n : Int) * d, (n : Int) * d, false, false⟩
  have hB3 := hB2.alloc hB2.size (.cells #[.int .i64 3, .int .i64 ((n : Int) * d), .int .i64 ((n : Int) * d), .bool false, .bool false] 24)
  clear HI hb1 hb2 hB2
  obtain ⟨q, hq⟩ : ∃ q, q = w2.heap.size := ⟨_, rfl⟩
  go_upto_region 7 with fail
  rw [← hq] at hx2 ⊢
  generalize w2.alloc (.cells #[.int .i64 3, .int .i64 ((n : Int) * d), .int .i64 ((n : Int) * d), .bool false, .bool false] 24) = w3 at hx2 hB3 ⊢
  clear hq
  have hs3 := hB3.size
  have hq3 := blk_lt hx2
  have hOl : OwnB (w3.alloc (.cells #[.bool true] 4)) w3.heap.size (.slice (some ⟨w3.heap.size, 0, none⟩) 1 1) [true] := by
    have := World.ownsRow_lit (e := 4) (size := 1) w3 #[.bool true] 1 (Nat.le_refl _) (by simp [maxLen]) (by simp)
    unfold OwnB
    simpa using this
  go_wp2_with fail
  go_loopw [10, 11] (fun v i wr => ∃ (k : Nat) (L : List Bool), 1 ≤ k ∧ k ≤ n ∧ i = .int .i64 k ∧ L.length = k ∧ L.getD 0 false = true ∧ OwnB wr w3.heap.size v L ∧ Below w3.heap.size w3 wr) (fun _ i _ => n - (intOf i).toNat)
  case atStart => exact ⟨1, [true], by omega, by omega, rfl, rfl, rfl, hOl, (Below.refl _ _).alloc (Nat.le_refl _) _⟩
  case round =>
    clear hOl
    obtain ⟨k, L, hk1, hk, rfl, hL, hL0, hO, hbr⟩ := hrel
    obtain ⟨A4, c4, rfl, -, -⟩ := own_form hO
    by_cases hlt : k < n
    · have hLl := Lib.hid hL
      have hLh := Lib.hid hL0
      have hsr := hbr.size
      by_cases hkm : k < bl2.length
      · obtain ⟨pp, rfl, hpb, g0, y0, y1⟩ := HM.out k hkm
        have g1 := ((hB3.trans (hbr.mono hs3)).cell (p := pp.add k) (by rw [add_block]; exact hpb)).trans g0
        have i1 : (k : Int) < (bl2.length : Int) := by omega
        obtain ⟨b, hb⟩ : ∃ b, b = bl2[k] := ⟨_, rfl⟩
        rw [← hb] at g1 y0 y1
        clear hL hL0 g0 hb
        go_wp2_with (at_builtin; refine wpl_append rfl _ _ 35 rfl elB rfl (World.ownsRow.alloc hO _) rfl (Rd.new1 _ _ _) ?c1 ?c2 ?c3 ?c4 ?_)
        case c1 => first | rfl | (simp; rfl)
        case c2 => have := hLl.out; omega
        case c3 => have := hLl.out; omega
        case c4 => first | omega | (simp; omega)
        intro v' w5 hO5 hg5 _
        have R : OwnB w5 w3.heap.size v' (L ++ [b % 2 == 1]) := by unfold OwnB; simpa using hO5
        have hb5 : Below w3.heap.size w3 w5 := (hbr.alloc hsr _).grown hg5 (by simp; omega) (fun j hj => by have := (hO.lt j hj).1; omega)
        clear hO5 hg5 hO hbr
        go_wp2
        go_roundw
        case rel => exact ⟨k + 1, L ++ [b % 2 == 1], by omega, by omega, by go_num, by have := hLl.out; simp [this], by
          have h1 := hLl.out
          have h2 := hLh.out
          cases L with
          | nil => simp at h1; omega
          | cons x l => simpa using h2, R, hb5⟩
        case measure => simp [intOf]; omega
      · have i1 : ¬ (k : Int) < (bl2.length : Int) := by omega
        clear hL hL0
        go_wp2_with (at_builtin; refine wpl_append rfl _ _ 35 rfl elB rfl (World.ownsRow.alloc hO _) rfl (Rd.new1 _ _ _) ?c1 ?c2 ?c3 ?c4 ?_)
        case c1 => first | rfl | (simp; rfl)
        case c2 => have := hLl.out; omega
        case c3 => have := hLl.out; omega
        case c4 => first | omega | (simp; omega)
        intro v' w5 hO5 hg5 _
        have R : OwnB w5 w3.heap.size v' (L ++ [false]) := by unfold OwnB; simpa using hO5
        have hb5 : Below w3.heap.size w3 w5 := (hbr.alloc hsr _).grown hg5 (by simp; omega) (fun j hj => by have := (hO.lt j hj).1; omega)
        clear hO5 hg5 hO hbr
        go_wp2
        go_roundw
        case rel => exact ⟨k + 1, L ++ [false], by omega, by omega, by go_num, by have := hLl.out; simp [this], by
          have h1 := hLl.out
          have h2 := hLh.out
          cases L with
          | nil => simp at h1; omega
          | cons x l => simpa using h2, R, hb5⟩
        case measure => simp [intOf]; omega
    · obtain rfl : k = n := by omega
      have hBr := hB3.trans (hbr.mono hs3)
      have hxr := blk_up hx2 hbr
      have HR := Lib.hid (fun (W : World) (hb : Below wr.heap.size wr W) => OwnB.read (own_below hO hb) (by omega))
      have hok : traceOK ⟨3, (k : Int) * d, (k : Int) * d, false, false⟩ L d = true := traceOK_make (tvalid_make ⟨by simp, by simp⟩ (by simp only; omega) (by simp only; omega)) (by omega) (by omega)
      have HI := Lib.hid (fun (W : World) (vv : Value) (hv : BoolsR W W.heap.size vv L) => iTimerTrace_any ⟨3, (k : Int) * d, (k : Int) * d, false, false⟩ vv L d W (tvalid_fit (traceOK_parts hok).1) hv (by omega))
      have HS := Lib.hid (fun (W : World) (vv : Value) (hv : BoolsR W W.heap.size vv L) => sTimerTrace_any ⟨3, (k : Int) * d, (k : Int) * d, false, false⟩ vv L d W (tvalid_fit (traceOK_parts hok).1) hv (by omega))
      have HG := Lib.hid (fun j hj => (traceL_get hok j hj))
      have hEl := traceL_ok_len hok
      have HP := Lib.hid (fun j (hj : j < k) => pulse_at k L d hd.1 hL0 j hj)
      obtain ⟨E, hE⟩ : ∃ E, E = traceL ⟨3, (k : Int) * d, (k : Int) * d, false, false⟩ L d := ⟨_, rfl⟩
      rw [hL, ← hE] at hEl
      rw [← hE] at HI HS
      have HGE := Lib.hid (show ∀ j (hj : j < E.length), E[j] = true by
        subst hE
        intro j hj
        rw [HG.out j hj, HP.out j (by omega)])
      have HEL := Lib.hid hEl
      have HLL := Lib.hid hL
      clear hE HG HP hok hO hx2 hB3 hbr hEl hL hL0
      unfold tmV at HI HS
      simp only at HI HS
      obtain ⟨a0, a1, a2, a3, a4, -⟩ := blk5 hxr
      go_wp2_with fail
      refine (HI.out _ _ (HR.out _ (Below.refl _ _))).mono ?_
      rintro e w5 ⟨v5, rfl, hO5, hb5⟩
      obtain ⟨A5, c5, rfl, -, -⟩ := own_form hO5
      have HR5 := Lib.hid (fun (W : World) (hb : Below w5.heap.size w5 W) => OwnB.read (own_below hO5 hb) (by have := HEL.out; omega))
      have hx5 := blk_up hxr hb5
      have hB5 := hBr.trans (hb5.mono hBr.size)
      clear hO5 hxr hBr a0 a1 a2 a3 a4
      have h64 : E.length ≤ 40 := by have := HEL.out; omega
      go_wp2_with fail
      go_loopw [13] (fun iv wx => ∃ j : Nat, j ≤ E.length ∧ iv = .int .i64 j ∧ Below w5.heap.size w5 wx) (fun iv _ => E.length - (intOf iv).toNat)
      case atStart => exact ⟨0, by omega, rfl, Below.refl _ _⟩
      case round =>
        obtain ⟨j, hj, rfl, hbx⟩ := hrel
        by_cases hjl : j < E.length
        · obtain ⟨_, _, ez, rd, -⟩ := HR5.out _ hbx
          injection ez with ez1 _ ez3
          subst ez1; subst ez3
          obtain ⟨p5, rfl, hpb, g1⟩ := cell_bool rd hjl
          rw [HGE.out j hjl] at g1
          have i7 : (j : Int) < (E.length : Int) := by omega
          clear rd
          go_wp2
          go_roundw
          case rel => exact ⟨j + 1, by omega, by go_num, hbx⟩
          case measure => simp [intOf]; omega
        · obtain rfl : j = E.length := by omega
          obtain ⟨wx, rfl⟩ : ∃ w', w' = wr := ⟨_, rfl⟩
          have hxx := blk_up hx5 hbx
          have hBx := hB5.trans (hbx.mono hB5.size)
          have hbx2 := hb5.trans (hbx.mono hb5.size)
          have hsx := hBx.size
          have hqx := blk_lt hxx
          clear hx5 hB5 hb5
          obtain ⟨N, hN⟩ : ∃ N, N = k + 3 := ⟨_, rfl⟩
          have i5 : (k : Int) + 3 = (N : Int) := by omega
          have hNb : N ≤ 64 := by omega
          have HNN := Lib.hid hN
          clear hN
          go_wp2_with (at_make; refine wpl_make rfl _ _ 35 rfl elB N rfl rfl ?c1 ?c2 ?_)
          case c1 => omega
          case c2 => omega
          intro w6 hown hb6
          rw [madeB N (fun _ => true)] at hown
          go_wp2_with fail
          go_loopw [15] (fun i wr => ∃ m : Nat, m ≤ N ∧ i = .int .i64 m ∧ wr.ownsRow wx.heap.size 4 1 (.slice (some ⟨wx.heap.size, 0, none⟩) N N) N (((List.range N).map fun j => decide (j < m) && true).map Value.bool) ∧ Below wx.heap.size wx wr) (fun i _ => N - (intOf i).toNat)
          case atStart => exact ⟨0, by omega, rfl, hown, hb6⟩
          case round =>
            clear hb6
            obtain ⟨m, hm, rfl, hown', hbr⟩ := hrel
            by_cases hlt : m < N
            · have hc := hown'.cellAt m (by omega)
              have hz := hown'.frozenAt m
              have hst := hown'.stored m (.bool true)
              rw [map_set_step N m (fun _ => true) hlt] at hst
              obtain ⟨u, hu⟩ : ∃ u, (((List.range N).map fun j => decide (j < m) && true).map Value.bool)[m]? = some u := ⟨_, List.getElem?_eq_getElem (by simp; omega)⟩
              rw [hu] at hc
              have H := Lib.hid hst
              clear hst hu hown' hown
              go_wp2
              go_roundw
              case rel => exact ⟨m + 1, by omega, by go_num, H.out.1, hbr.setCell (by simp) _⟩
              case measure => simp [intOf]; omega
            · obtain rfl : m = N := by omega
              clear hown
              obtain ⟨wy, rfl⟩ : ∃ w', w' = wr := ⟨_, rfl⟩
              have e2 : (trues m).length = m := by simp [trues]
              have hO : OwnB wy wx.heap.size (.slice (some ⟨wx.heap.size, 0, none⟩) m m) (trues m) := by
                unfold OwnB
                have e : ((List.range m).map fun j => decide (j < m) && true) = trues m := by
                  apply List.ext_getElem
                  · simp [trues]
                  · intro i h1 h2
                    have : i < m := by simp at h1; exact h1
                    simp [trues, this]
                rw [e2]
                rw [e] at hown'
                exact hown'
              have hBy := hBx.trans (hbr.mono hsx)
              have hxy := blk_up hxx hbr
              have hby2 := hbx2.trans (hbr.mono hbx2.size)
              have hby5 := hbx.trans (hbr.mono hbx.size)
              have HRy := Lib.hid (OwnB.read hO (by rw [e2]; omega))
              have hok : traceOK ⟨3, (k : Int) * d, (k : Int) * d, false, false⟩ (trues m) d = true := traceOK_make (tvalid_make ⟨by simp, by simp⟩ (by simp only; omega) (by simp only; omega)) (by omega) (by rw [e2]; omega)
              have HI2 := Lib.hid (iTimerTrace_any ⟨3, (k : Int) * d, (k : Int) * d, false, false⟩ _ (trues m) d wy (tvalid_fit (traceOK_parts hok).1) HRy.out (by omega))
              have HG := Lib.hid (fun j hj => (traceL_get hok j hj))
              have hEl := traceL_ok_len hok
              have HP := Lib.hid (fun j (hj : j < m) => pulse_hold k m d hd.1 hn.1 j hj)
              obtain ⟨F, hF⟩ : ∃ F, F = traceL ⟨3, (k : Int) * d, (k : Int) * d, false, false⟩ (trues m) d := ⟨_, rfl⟩
              rw [e2, ← hF] at hEl
              rw [← hF] at HI2
              have HGF := Lib.hid (show ∀ j (hj : j < F.length), F[j] = decide (j < k) by
                subst hF
                intro j hj
                rw [HG.out j hj, HP.out j (by omega)])
              have HFL := Lib.hid hEl
              clear hF HG HP hok hO hxx hBx hbr hbx hbx2 hEl hown' HRy e2
              unfold tmV at HI2
              simp only at HI2
              obtain ⟨a0, a1, a2, a3, a4, -⟩ := blk5 hxy
              go_wp2_with fail
              refine HI2.out.mono ?_
              rintro e w8 ⟨v8, rfl, hO8, hb8⟩
              obtain ⟨A8, c8, rfl, -, -⟩ := own_form hO8
              have HR8 := Lib.hid (fun (W : World) (hb : Below w8.heap.size w8 W) => OwnB.read (own_below hO8 hb) (by have := HFL.out; omega))
              have hx8 := blk_up hxy hb8
              have hB8 := hBy.trans (hb8.mono hBy.size)
              have hb28 := hby2.trans (hb8.mono hby2.size)
              have hb58 := hby5.trans (hb8.mono hby5.size)
              clear hO8 hxy hBy hb8 hby2 hby5 a0 a1 a2 a3 a4 HI2
              have h65 : F.length ≤ 64 := by have := HFL.out; omega
              go_wp2_with fail
              go_loopw [17] (fun iv wz => ∃ j : Nat, j ≤ F.length ∧ iv = .int .i64 j ∧ Below w8.heap.size w8 wz) (fun iv _ => F.length - (intOf iv).toNat)
              case atStart => exact ⟨0, by omega, rfl, Below.refl _ _⟩
              case round =>
                obtain ⟨j, hj, rfl, hbz⟩ := hrel
                by_cases hjl : j < F.length
                · obtain ⟨_, _, ez, rd, -⟩ := HR8.out _ hbz
                  injection ez with ez1 _ ez3
                  subst ez1; subst ez3
                  obtain ⟨p8, rfl, hpb, g1⟩ := cell_bool rd hjl
                  rw [HGF.out j hjl, show decide (j < k) = decide ((j : Int) < (k : Int)) from by simp] at g1
                  have i7 : (j : Int) < (F.length : Int) := by omega
                  clear rd
                  go_wp2
                  go_roundw
                  case rel => exact ⟨j + 1, by omega, by go_num, hbz⟩
                  case measure => simp [intOf]; omega
                · obtain rfl : j = F.length := by omega
                  have hqq : ((E.length : Int) == (k : Int)) = true := by rw [beq_iff_eq]; have := HEL.out; omega
                  have hxz := blk_up hx8 hbz
                  have hBz := hB8.trans (hbz.mono hB8.size)
                  have hbz2 := hb28.trans (hbz.mono hb28.size)
                  have hbz5 := hb58.trans (hbz.mono hb58.size)
                  obtain ⟨a0, a1, a2, a3, a4, -⟩ := blk5 hxz
                  go_wp2_with fail
                  refine (HS.out _ _ (HR.out _ hbz2)).mono ?_
                  rintro e w9 ⟨v9, rfl, hO9, hb9⟩
                  have hr9 := OwnB.read hO9 (by omega)
                  obtain ⟨A9, c9, rfl, -, -⟩ := own_form hO9
                  have hb59 := hbz5.trans (hb9.mono hbz5.size)
                  have hB9 := hBz.trans (hb9.mono hBz.size)
                  clear hO9 hb9 hxz a0 a1 a2 a3 a4 hx8
                  go_wp2_with fail
                  refine (bools_same _ _ E _ (HR5.out _ hb59) hr9).mono ?_
                  rintro e w10 ⟨rfl, hb10⟩
                  go_wp2
                  go_ret
                  exact ⟨rfl, hB9.trans (hb10.mono hB9.size)⟩
end Go.Proofs.Ytikebldmbabmiaa
