/- The law of CountEdges: its walk. -/
import Derived.Test.YtldlfailmmmdmaaCa
import Derived.Test.YtldlfailmmmdmaaLE
namespace Go.Proofs.Ytldlfailmmmdmaa
open Go.RowKit
attribute [local go_sem ↓] Go.wp_at_zero Go.wp_at_succ

def rises (f : Bool) (l : List Bool) : Nat → Nat
  | 0 => 0
  | k + 1 => rises f l k + (if edgeAt f l k then 1 else 0)
theorem rises_le (f : Bool) (l : List Bool) (k : Nat) : rises f l k ≤ k := by
  induction k with
  | zero => exact Nat.le_refl _
  | succ k ih => show rises f l k + _ ≤ _; split <;> omega
theorem cAt_edges {c : Cn} (l : List Bool) (h : cvalid c = true) (k : Nat) : (cAt c l k).pre = c.pre ∧ (cAt c l k).val = min 9999 (c.val + (rises c.up l k : Int)) ∧ (cAt c l k).up = befAt c.up l k := by
  have hp := cvalid_parts h
  induction k with
  | zero => exact ⟨rfl, by show c.val = min 9999 (c.val + ((0 : Nat) : Int)); omega, rfl⟩
  | succ k ih =>
    obtain ⟨h1, h2, h3⟩ := ih
    refine ⟨h1, ?_, by show l.getD k false = befAt c.up l (k + 1); simp [befAt]⟩
    show cval (cAt c l k) (l.getD k false) false false false = min 9999 (c.val + ((rises c.up l k + (if edgeAt c.up l k then 1 else 0) : Nat) : Int))
    unfold cval edgeAt riseB
    rw [h2, h3]
    generalize l.getD k false = x
    generalize befAt c.up l k = y
    cases x <;> cases y <;> simp <;> omega
theorem edgesC_parts {c : Cn} {l : List Bool} (h : cvalid c = true) (hl : l.length ≤ 200) : (edgesC c l).pre = c.pre ∧ (edgesC c l).val = min 9999 (c.val + (rises c.up l l.length : Int)) := by
  unfold edgesC; rw [if_pos ⟨h, hl⟩]
  exact ⟨(cAt_edges l h _).1, (cAt_edges l h _).2.1⟩
theorem FnCountEdges_long (a : Option Addr) (n c : Nat) (w : World) (h : 1048576 < n) (_hn : n ≤ 9223372036854775807) : Calls Try.prog 7 #[.slice a n c] w (LawPost w) := by
  go_enter Try.func7, Try.ntmps7
  go_wp2
  go_ret
  exact ⟨rfl, Below.refl _ _⟩
set_option maxHeartbeats 4000000 in
theorem FnCountEdges_core (v : Value) (bl : List Int) (w : World) (h : BytesR w w.heap.size v bl) (hl : bl.length ≤ 1048576) :
    Calls Try.prog 7 #[v] w (LawPost w) := by
  have HO := Lib.hid (drawCountEdges_any v bl w h)
  obtain ⟨A0, c0, rfl, -⟩ := h
  have tok1 : True := trivial
  go_enter Try.func7, Try.ntmps7
  go_wp2_with fail
  refine HO.out.mono ?_
  rintro e w1 ⟨c, A, cc, l, rfl, hs, hO, h201, hb1⟩
  clear HO
  have hfit := hs.fit
  have HL := Lib.hid (fun (W : World) (hb : Below w1.heap.size w1 W) => OwnB.read (own_below hO hb) (by omega))
  have HN := Lib.hid (fun (W : World) (vv : Value) (hv : BoolsR W W.heap.size vv l) => iCountEdges_any c vv l W hfit hv)
  have HS := Lib.hid (fun (W : World) (vv : Value) (hv : BoolsR W W.heap.size vv l) => sCountEdges_any c vv l W hfit hv)
  have HV := Lib.hid (fun W : World => sCounterValid_any c W)
  obtain ⟨R, hR⟩ : ∃ R, R = edgesC c l := ⟨_, rfl⟩
  rw [← hR] at HN HS
  have HR := Lib.hid hR
  clear hR hO
  unfold CnPost cnV at HN HS
  unfold cnV at HV ⊢
  have hx1 := boxC w1 c
  have hB1 := (Below.refl w1.heap.size w1).alloc (Nat.le_refl _) (.cells #[.int .i64 c.pre, .int .i64 c.val, .bool c.up, .bool c.dn] 24)
  obtain ⟨q, hq⟩ : ∃ q, q = w1.heap.size := ⟨_, rfl⟩
  go_upto_region 4 with fail
  rw [← hq] at hx1 ⊢
  generalize w1.alloc (.cells #[.int .i64 c.pre, .int .i64 c.val, .bool c.up, .bool c.dn] 24) = W1 at hx1 hB1 ⊢
  clear hq
  obtain ⟨a0, a1, a2, a3, -⟩ := blk4 hx1
  go_wp2_with fail
  refine (HN.out _ _ (HL.out _ hB1)).mono ?_
  rintro e w2 ⟨rfl, hb2⟩
  have hy := boxC w2 R
  have hx := blk_alloc (blk_up hx1 hb2) (.cells #[.int .i64 R.pre, .int .i64 R.val, .bool R.up, .bool R.dn] 24)
  have hB2 := hB1.trans (hb2.mono hB1.size)
  have hB := hB2.alloc hB2.size (.cells #[.int .i64 R.pre, .int .i64 R.val, .bool R.up, .bool R.dn] 24)
  have hqr := blk_lt (blk_up hx1 hb2)
  obtain ⟨s, hr⟩ : ∃ s, s = w2.heap.size := ⟨_, rfl⟩
  clear a0 a1 a2 a3 hB2 hb2 hx1 hB1
  go_upto_region 5 with fail
  rw [← hr] at hy hqr ⊢
  generalize w2.alloc (.cells #[.int .i64 R.pre, .int .i64 R.val, .bool R.up, .bool R.dn] 24) = W at hx hy hB ⊢
  clear hr
  obtain ⟨a0, a1, a2, a3, -⟩ := blk4 hx
  obtain ⟨c0, c1, c2, c3, -⟩ := blk4 hy
  have HSa := Lib.hid (HS.out W.drew _ (HL.out W.drew hB.drew))
  have hBd := hB.drew
  go_region_held3 (fun w' => (w'.cell? ⟨q, 0, none⟩ = some (.int .i64 c.pre) ∧ w'.cell? ⟨q, 1, none⟩ = some (.int .i64 c.val) ∧ w'.cell? ⟨q, 2, none⟩ = some (.bool c.up) ∧ w'.cell? ⟨q, 3, none⟩ = some (.bool c.dn)) ∧ w'.cell? ⟨s, 0, none⟩ = some (.int .i64 R.pre) ∧ w'.cell? ⟨s, 1, none⟩ = some (.int .i64 R.val) ∧ w'.cell? ⟨s, 2, none⟩ = some (.bool R.up) ∧ w'.cell? ⟨s, 3, none⟩ = some (.bool R.dn)) (first | go_keep)
    (first
      | (go_at_call 29; have tok := tok1; (with_reducible refine HSa.out.mono ?_); rintro e w3 ⟨rfl, hb3⟩; have hx3 := blk_up (w := W.drew) hx hb3; have hy3 := blk_up (w := W.drew) hy hb3; obtain ⟨b0, b1, b2, b3, -⟩ := blk4 hx3; obtain ⟨m0, m1, m2, m3, -⟩ := blk4 hy3; have hB3 := hBd.trans (hb3.mono hBd.size); clear tok tok1))
  clear a0 a1 a2 a3 c0 c1 c2 c3 hx hy hb3 hB hBd HN HS HSa
  go_wp2_with fail
  refine (HV.out _).mono ?_
  rintro e w4 ⟨rfl, hb4⟩
  have hx4 := blk_up hx3 hb4
  have hy4 := blk_up hy3 hb4
  have hB4 := hB3.trans (hb4.mono hB3.size)
  clear b0 b1 b2 b3 m0 m1 m2 m3 hx3 hy3 hb4 hB3
  obtain ⟨b0, b1, b2, b3, -⟩ := blk4 hx4
  obtain ⟨m0, m1, m2, m3, -⟩ := blk4 hy4
  by_cases hok : cvalid c = true ∧ l.length ≤ 200
  case neg =>
    obtain rfl : R = czero := by rw [HR.out]; unfold edgesC; rw [if_neg hok]
    have hcase : cvalid c = false ∨ (cvalid c = true ∧ 200 < l.length) := by
      cases hv : cvalid c
      · exact .inl rfl
      · exact .inr ⟨rfl, by rcases Nat.lt_or_ge 200 l.length with h | h; exact h; exact absurd ⟨hv, h⟩ hok⟩
    clear HR hok
    unfold czero at m0 m1 m2 m3
    simp only at m0 m1 m2 m3
    rcases hcase with h1 | ⟨h1, h2⟩
    all_goals
      rw [h1]
      clear h1
      go_wp2_with fail
      refine (alive_any _).mono ?_
      rintro e w6 ⟨rfl, hb6⟩
      go_wp2
      go_ret
      exact ⟨rfl, hb1.trans ((hB4.trans (hb6.mono hB4.size)).mono hb1.size)⟩
  case pos =>
  obtain ⟨hv, h2⟩ := hok
  have hp := cvalid_parts hv
  have hRp := edgesC_parts hv h2
  rw [← HR.out] at hRp
  have HRP := Lib.hid hRp
  have hnl : ¬ 200 < l.length := by omega
  rw [hv]
  clear HR hRp hv HV
  have HE := Lib.hid (iEdgeTrace_any c.up _ l _ (HL.out _ hB4))
  obtain ⟨E, hE⟩ : ∃ E, E = edgesL c.up l := ⟨_, rfl⟩
  rw [← hE] at HE
  have hEt : E = edgesTo c.up l l.length := by rw [hE]; unfold edgesL; rw [if_neg hnl]
  have hEl : E.length = l.length := by rw [hEt, edgesTo_len]
  have HG := Lib.hid (show ∀ (k : Nat) (hk : k < E.length), E[k] = edgeAt c.up l k by
    subst hEt
    intro k hk
    simp [edgesTo])
  have HEL := Lib.hid hEl
  clear hE hEt hEl
  go_wp2_with fail
  refine HE.out.mono ?_
  rintro e w5 ⟨v5, rfl, hO5, hb5⟩
  obtain ⟨A5, c5, rfl, -, -⟩ := own_form hO5
  have HR5 := Lib.hid (fun (W : World) (hb : Below w5.heap.size w5 W) => OwnB.read (own_below hO5 hb) (by have := HEL.out; omega))
  have hx5 := blk_up hx4 hb5
  have hy5 := blk_up hy4 hb5
  have hB5 := hB4.trans (hb5.mono hB4.size)
  clear hO5 hx4 hy4 hB4 hb5 b0 b1 b2 b3 m0 m1 m2 m3 HE HL
  have h200 : E.length ≤ 200 := by have := HEL.out; omega
  go_wp2_with fail
  go_loopw [6, 8] (fun nv iv wx => ∃ k : Nat, k ≤ E.length ∧ iv = .int .i64 k ∧ nv = .int .i64 (rises c.up l k : Nat) ∧ Below w5.heap.size w5 wx) (fun _ iv _ => E.length - (intOf iv).toNat)
  case atStart => exact ⟨0, by omega, rfl, rfl, Below.refl _ _⟩
  case round =>
    obtain ⟨k, hk, rfl, rfl, hbx⟩ := hrel
    have hrk := rises_le c.up l k
    by_cases hlt : k < E.length
    · obtain ⟨_, _, ez, rd, -⟩ := HR5.out _ hbx
      injection ez with ez1 _ ez3
      subst ez1; subst ez3
      obtain ⟨p5, rfl, hpb, g1⟩ := cell_bool rd hlt
      rw [HG.out k hlt] at g1
      have i7 : (k : Int) < (E.length : Int) := by omega
      have HK := Lib.hid (show rises c.up l (k + 1) = rises c.up l k + (if edgeAt c.up l k then 1 else 0) from rfl)
      obtain ⟨n, hn⟩ : ∃ n, n = rises c.up l k := ⟨_, rfl⟩
      rw [← hn] at hrk HK ⊢
      clear rd hn
      generalize edgeAt c.up l k = b at g1 HK
      cases b
      all_goals
        go_wp2
        go_roundw
        case rel => exact ⟨k + 1, by omega, by go_num, by rw [HK.out]; simp <;> go_num, hbx⟩
        case measure => simp [intOf]; omega
    · obtain rfl : k = E.length := by omega
      have hxx := blk_up hx5 hbx
      have hyx := blk_up hy5 hbx
      have hBx := hB5.trans (hbx.mono hB5.size)
      obtain ⟨rp, rv, ru, rd⟩ := R
      obtain ⟨e1, e2⟩ := HRP.out
      rw [← HEL.out] at e2
      simp only at e1 e2 hyx
      obtain ⟨n, hn⟩ : ∃ n, n = rises c.up l E.length := ⟨_, rfl⟩
      rw [← hn] at e2 hrk ⊢
      clear hn HRP hx5 hy5 hB5 HG HEL HR5
      subst e1
      have hp1 := hp.2
      obtain ⟨b0, b1, b2, b3, -⟩ := blk4 hxx
      by_cases hm : c.val + (n : Int) < 9999
      · obtain rfl : rv = c.val + (n : Int) := by omega
        obtain ⟨m0, m1, m2, m3, -⟩ := blk4 hyx
        clear e2 hxx hyx
        go_wp2
        go_ret
        exact ⟨rfl, hb1.trans (hBx.mono hb1.size)⟩
      · obtain rfl : rv = 9999 := by omega
        obtain ⟨m0, m1, m2, m3, -⟩ := blk4 hyx
        clear e2 hxx hyx
        go_wp2
        all_goals
          go_ret
          exact ⟨rfl, hb1.trans (hBx.mono hb1.size)⟩
end Go.Proofs.Ytldlfailmmmdmaa
