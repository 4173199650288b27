/- The exact law of CountEdges: its walk. -/
import Derived.Test.YtldlfailmmmdmaaCf
import Derived.Test.YtldlfailmmmdmaaEO
namespace Go.Proofs.Ytldlfailmmmdmaa
open Go.RowKit
attribute [local go_sem ↓] Go.wp_at_zero Go.wp_at_succ

theorem FnExactCountEdges_long (c : Cn) (A : Option Addr) (n cc : Nat) (w : World) (hn : n ≤ 9223372036854775807) (hs : 1048576 < n) :
    Calls Try.prog 12 #[cnV c, .slice A n cc] w (LawPost w) := by
  unfold cnV
  go_enter Try.func12, Try.ntmps12
  go_wp2
  go_ret
  exact ⟨rfl, (Below.refl _ _).alloc (Nat.le_refl _) _⟩
set_option maxHeartbeats 2000000 in
theorem FnExactCountEdges_core (c : Cn) (A : Option Addr) (cc : Nat) (l : List Bool) (W0 : World) (h : BoolsR W0 W0.heap.size (.slice A l.length cc) l) (hf : fitC c) (hs : l.length ≤ 1048576) :
    Calls Try.prog 12 #[cnV c, .slice A l.length cc] W0 (LawPost W0) := by
  have hx0 := boxLC W0 c
  have hB0 := (Below.refl W0.heap.size W0).alloc (Nat.le_refl _) (.cells #[.int .i64 c.pre, .int .i64 c.val, .bool c.up, .bool c.dn] 38)
  have HN := Lib.hid (fun (w' : World) (hb : Below W0.heap.size W0 w') => h.below hb)
  have HT := Lib.hid (fun w : World => toCounter_any c w)
  have HB := Lib.hid (fun (w : World) (hb : Below W0.heap.size W0 w) => toBoolS_any _ l w (HN.out w hb))
  have HS := Lib.hid (fun (w : World) (vv : Value) (hv : BoolsR w w.heap.size vv l) => sCountEdges_any c vv l w hf hv)
  have HI := Lib.hid (fun (w : World) (vv : Value) (hv : BoolsR w w.heap.size vv l) => iCountEdges_any c vv l w hf hv)
  obtain ⟨R, hR⟩ : ∃ R, R = edgesC c l := ⟨_, rfl⟩
  rw [← hR] at HS HI
  clear hR h
  have HE := Lib.hid (fun w : World => eqCounter_same R w)
  unfold CnPost cnV at HT HS HI
  unfold cnV at HE ⊢
  go_enter Try.func12, Try.ntmps12
  go_wp2_with fail
  refine (HT.out _).mono ?_
  rintro e w1 ⟨rfl, hb1⟩
  have hx1 := blk_up hx0 hb1
  have hB1 := hB0.trans (hb1.mono hB0.size)
  clear hx0 hB0 hb1
  go_wp2_with fail
  refine (HB.out _ hB1).mono ?_
  rintro e w2 ⟨v2, rfl, hO2, hb2⟩
  have hr2 := OwnB.read hO2 (by omega)
  obtain ⟨A2, c2, rfl, -, -⟩ := own_form hO2
  have hx2 := blk_up hx1 hb2
  have hB2 := hB1.trans (hb2.mono hB1.size)
  clear hx1 hB1 hb2 hO2
  go_wp2_with fail
  refine (HS.out _ _ hr2).mono ?_
  rintro e w3 ⟨rfl, hb3⟩
  have hx3 := blk_alloc (blk_up hx2 hb3) (.cells #[.int .i64 R.pre, .int .i64 R.val, .bool R.up, .bool R.dn] 24)
  have hB3' := hB2.trans (hb3.mono hB2.size)
  have hy3 := boxC w3 R
  have hB3 := hB3'.alloc hB3'.size (.cells #[.int .i64 R.pre, .int .i64 R.val, .bool R.up, .bool R.dn] 24)
  clear hx2 hB2 hb3 hr2 hB3'
  obtain ⟨q, hq⟩ : ∃ q, q = w3.heap.size := ⟨_, rfl⟩
  go_upto_region 4 with fail
  rw [← hq] at hy3 ⊢
  generalize w3.alloc (.cells #[.int .i64 R.pre, .int .i64 R.val, .bool R.up, .bool R.dn] 24) = w4 at hx3 hy3 hB3 ⊢
  clear hq
  go_wp2_with fail
  refine (HB.out _ hB3).mono ?_
  rintro e w5 ⟨v5, rfl, hO5, hb5⟩
  have HX := Lib.hid (fun (w : World) (hb : Below w5.heap.size w5 w) => OwnB.read (own_below hO5 hb) (by omega))
  obtain ⟨A5, c5, rfl, -, -⟩ := own_form hO5
  have hx5 := blk_up hx3 hb5
  have hy5 := blk_up hy3 hb5
  have hB5 := hB3.trans (hb5.mono hB3.size)
  clear hx3 hy3 hB3 hb5
  obtain ⟨c0, c1, c2', c3, -⟩ := blk4 hx5
  go_wp2_with fail
  refine (HT.out _).mono ?_
  rintro e w6 ⟨rfl, hb6⟩
  have hy6 := blk_up hy5 hb6
  have hB6 := hB5.trans (hb6.mono hB5.size)
  clear hx5 hy5 hB5 c0 c1 c2' c3
  go_wp2_with fail
  refine (HI.out _ _ (HX.out _ hb6)).mono ?_
  rintro e w7 ⟨rfl, hb7⟩
  have hb57 := hb6.trans (hb7.mono hb6.size)
  have hb8 : Below w5.heap.size w5 (w7.alloc (.cells #[.int .i64 R.pre, .int .i64 R.val, .bool R.up, .bool R.dn] 24)) := hb57.alloc hb57.size _
  have hy7 := blk_alloc (blk_up hy6 hb7) (.cells #[.int .i64 R.pre, .int .i64 R.val, .bool R.up, .bool R.dn] 24)
  have hB7' := hB6.trans (hb7.mono hB6.size)
  have hB7 := hB7'.alloc hB7'.size (.cells #[.int .i64 R.pre, .int .i64 R.val, .bool R.up, .bool R.dn] 24)
  clear hy6 hB6 hb6 hb7 hb57 hB7'
  obtain ⟨c0, c1, c2', c3, -⟩ := blk4 hy7
  go_wp2_with fail
  refine (HE.out _).mono ?_
  rintro e w9 ⟨rfl, hb9⟩
  have hb59 := hb8.trans (hb9.mono hb8.size)
  have hB9 := hB7.trans (hb9.mono hB7.size)
  clear hy7 hB7 hb8 hb9 c0 c1 c2' c3
  go_wp2_with fail
  refine (HB.out _ hB9).mono ?_
  rintro e w10 ⟨v10, rfl, hO10, hb10⟩
  have hr10 := OwnB.read hO10 (by omega)
  obtain ⟨A10, c10, rfl, -, -⟩ := own_form hO10
  have hb510 := hb59.trans (hb10.mono hb59.size)
  have hB10 := hB9.trans (hb10.mono hB9.size)
  clear hO10 hb10
  go_wp2_with fail
  refine (eqB_same _ _ l _ (HX.out _ hb510) hr10).mono ?_
  rintro e w11 ⟨rfl, hb11⟩
  go_wp2
  go_ret
  exact ⟨rfl, hB10.trans (hb11.mono hB10.size)⟩
end Go.Proofs.Ytldlfailmmmdmaa
