/- The exact laws of chapter 7 on lists: their walks. -/
import Derived.Test.YtcpjafhhmhaenaaEO
import Derived.Test.YtcpjafhhmhaenaaAJ
import Derived.Test.YtcpjafhhmhaenaaAY
namespace Go.Proofs.Ytcpjafhhmhaenaa
open Go.RowKit
attribute [local go_sem ↓] Go.wp_at_zero Go.wp_at_succ

theorem wordF {l : List Int} (h : ∀ x ∈ l, -32768 ≤ x ∧ x ≤ 32767) : ∀ x ∈ l, -9223372036854775808 ≤ x ∧ x ≤ 9223372036854775807 := fun x hx => by have := h x hx; omega
theorem toIntS_own (v : Value) (l : List Int) (w : World) (h : IntsR w w.heap.size v l) : Calls Try.prog 44 #[v] w (OwnIP l w) := toIntS_any v l w h
def MedW (l : List Int) (e : Ending) : Prop := ∃ n, e = .returned (.int .i64 n) ∧ MedOf l n
theorem medW {w : World} {l : List Int} {f : FuncId} {args : Array Value} (h : Calls Try.prog f args w (MedPost l w)) : Calls Try.prog f args w fun e w' => MedW l e ∧ Below w.heap.size w w' :=
  h.mono fun _ _ ⟨n, he, hm, hb⟩ => ⟨⟨n, he, hm⟩, hb⟩
theorem FnExactMovingAverage_long (A : Option Addr) (n c : Nat) (n2 : Int) (w : World) (hn : n ≤ 9223372036854775807) (hs : 1048576 < n) :
    Calls Try.prog 16 #[.slice A n c, .int .i64 n2] w (LawPost w) := by
  go_enter Try.func16, Try.ntmps16
  go_wp2
  go_ret
  exact ⟨rfl, Below.refl _ _⟩
set_option maxHeartbeats 2000000 in
theorem FnExactMovingAverage_core (A : Option Addr) (c : Nat) (l : List Int) (n2 : Int) (W : World) (h : IntsR W W.heap.size (.slice A l.length c) l) (hs : l.length ≤ 1048576) :
    Calls Try.prog 16 #[.slice A l.length c, .int .i64 n2] W (LawPost W) := by
  have HL := Lib.hid (show ∀ x ∈ l, -9223372036854775808 ≤ x ∧ x ≤ 9223372036854775807 by obtain ⟨_, _, _, _, _, hb⟩ := h; exact hb)
  have HN := Lib.hid (fun (w' : World) (hb : Below W.heap.size W w') => h.below hb)
  have hW0 : HB2 W W := Below.refl _ _
  obtain ⟨D, hD⟩ : ∃ D, D = avgL l n2 := ⟨_, rfl⟩
  have D0 : D.length ≤ 200 := by rw [hD]; exact avgL_len _ _
  have HF := Lib.hid (show ∀ x ∈ D, -9223372036854775808 ≤ x ∧ x ≤ 9223372036854775807 by rw [hD]; exact wordF avgL_word)
  have HD := Lib.hid hD
  clear hD h
  go_enter Try.func16, Try.ntmps16
  go_wp2_with fail
  refine (xip (toIntS_own _ l _ (HN.out _ hW0))).mono ?_
  rintro e w1 ⟨⟨uA, uc, rfl, hu⟩, hb1⟩
  have z1 := hb1.size
  have hW_2 := hW0.below hb1
  clear hW0
  clear hb1
  go_wp2_with fail
  refine (xip (HD.out ▸ sMovingAverage_any _ l n2 _ (XI.read hu (by omega) HL.out))).mono ?_
  rintro e w3 ⟨⟨rA, rc, rfl, hr⟩, hb3⟩
  have z3 := hb3.size
  have hW_4 := hW_2.below hb3
  clear hW_2
  have hu_5 := hu.below hb3
  clear hu
  clear hb3
  go_wp2_with fail
  refine (xip (toIntS_own _ l _ (HN.out _ hW_4))).mono ?_
  rintro e w6 ⟨⟨xA, xc, rfl, hx⟩, hb6⟩
  have z6 := hb6.size
  have hW_7 := hW_4.below hb6
  clear hW_4
  have hu_8 := hu_5.below hb6
  clear hu_5
  have hr_9 := hr.below hb6
  clear hr
  clear hb6
  go_wp2_with fail
  refine (xip (HD.out ▸ iMovingAverage_any _ l n2 _ (XI.read hx (by omega) HL.out))).mono ?_
  rintro e w10 ⟨⟨gA, gc, rfl, hg⟩, hb10⟩
  have z10 := hb10.size
  have hW_11 := hW_7.below hb10
  clear hW_7
  have hu_12 := hu_8.below hb10
  clear hu_8
  have hr_13 := hr_9.below hb10
  clear hr_9
  have hx_14 := hx.below hb10
  clear hx
  clear hb10
  go_wp2_with fail
  refine (eqI_same _ _ D _ (XI.read hg (by omega) HF.out) (XI.read hr_13 (by omega) HF.out)).mono ?_
  rintro e w15 ⟨rfl, hb15⟩
  have z15 := hb15.size
  have hW_16 := hW_11.below hb15
  clear hW_11
  have hu_17 := hu_12.below hb15
  clear hu_12
  have hr_18 := hr_13.below hb15
  clear hr_13
  have hx_19 := hx_14.below hb15
  clear hx_14
  have hg_20 := hg.below hb15
  clear hg
  clear hb15
  go_wp2_with fail
  refine (xip (toIntS_own _ l _ (HN.out _ hW_16))).mono ?_
  rintro e w21 ⟨⟨yA, yc, rfl, hy⟩, hb21⟩
  have z21 := hb21.size
  have hW_22 := hW_16.below hb21
  clear hW_16
  have hu_23 := hu_17.below hb21
  clear hu_17
  have hr_24 := hr_18.below hb21
  clear hr_18
  have hx_25 := hx_19.below hb21
  clear hx_19
  have hg_26 := hg_20.below hb21
  clear hg_20
  clear hb21
  go_wp2_with fail
  refine (eqI_same _ _ l _ (XI.read hx_25 (by omega) HL.out) (XI.read hy (by omega) HL.out)).mono ?_
  rintro e w27 ⟨rfl, hb27⟩
  have z27 := hb27.size
  have hW_28 := hW_22.below hb27
  clear hW_22
  have hu_29 := hu_23.below hb27
  clear hu_23
  have hr_30 := hr_24.below hb27
  clear hr_24
  have hx_31 := hx_25.below hb27
  clear hx_25
  have hg_32 := hg_26.below hb27
  clear hg_26
  have hy_33 := hy.below hb27
  clear hy
  clear hb27
  go_wp2_with fail
  refine (markI_at _ l _ _ _ hx_31 (by omega)).mono ?_
  rintro e w34 ⟨rfl, hxm, ho34⟩
  have z34 := ho34.size
  have hW_35 := hW_28.out ho34 (by omega)
  clear hW_28
  have hu_36 := hu_29.out ho34 (by omega)
  clear hu_29
  have hr_37 := hr_30.out ho34 (by omega)
  clear hr_30
  have hg_38 := hg_32.out ho34 (by omega)
  clear hg_32
  have hy_39 := hy_33.out ho34 (by omega)
  clear hy_33
  clear ho34 hx_31
  go_wp2_with fail
  refine (eqI_same _ _ D _ (XI.read hg_38 (by omega) HF.out) (XI.read hr_37 (by omega) HF.out)).mono ?_
  rintro e w40 ⟨rfl, hb40⟩
  have z40 := hb40.size
  have hW_41 := hW_35.below hb40
  clear hW_35
  have hu_42 := hu_36.below hb40
  clear hu_36
  have hr_43 := hr_37.below hb40
  clear hr_37
  have hg_44 := hg_38.below hb40
  clear hg_38
  have hy_45 := hy_39.below hb40
  clear hy_39
  have hx_46 := hxm.below hb40
  clear hxm
  clear hb40
  go_wp2_with fail
  refine (markI_at _ D _ _ _ hg_44 (by omega)).mono ?_
  rintro e w47 ⟨rfl, hgm, ho47⟩
  have z47 := ho47.size
  have hW_48 := hW_41.out ho47 (by omega)
  clear hW_41
  have hu_49 := hu_42.out ho47 (by omega)
  clear hu_42
  have hr_50 := hr_43.out ho47 (by omega)
  clear hr_43
  have hy_51 := hy_45.out ho47 (by omega)
  clear hy_45
  have hx_52 := hx_46.out ho47 (by omega)
  clear hx_46
  clear ho47 hg_44
  go_wp2_with fail
  refine (heldI_at _ _ _ _ _ hgm (by omega)).mono ?_
  rintro e w53 ⟨rfl, hw53⟩
  subst hw53
  go_wp2_with fail
  refine (xip (toIntS_own _ l _ (HN.out _ hW_48))).mono ?_
  rintro e w54 ⟨⟨zA, zc, rfl, hz⟩, hb54⟩
  have z54 := hb54.size
  have hW_55 := hW_48.below hb54
  clear hW_48
  have hu_56 := hu_49.below hb54
  clear hu_49
  have hr_57 := hr_50.below hb54
  clear hr_50
  have hy_58 := hy_51.below hb54
  clear hy_51
  have hx_59 := hx_52.below hb54
  clear hx_52
  have hg_60 := hgm.below hb54
  clear hgm
  clear hb54
  go_wp2_with fail
  refine (xip (HD.out ▸ iMovingAverage_any _ l n2 _ (XI.read hz (by omega) HL.out))).mono ?_
  rintro e w61 ⟨⟨kA, kc, rfl, hk⟩, hb61⟩
  have z61 := hb61.size
  have hW_62 := hW_55.below hb61
  clear hW_55
  have hu_63 := hu_56.below hb61
  clear hu_56
  have hr_64 := hr_57.below hb61
  clear hr_57
  have hy_65 := hy_58.below hb61
  clear hy_58
  have hx_66 := hx_59.below hb61
  clear hx_59
  have hg_67 := hg_60.below hb61
  clear hg_60
  have hz_68 := hz.below hb61
  clear hz
  clear hb61
  go_wp2_with fail
  refine (eqI_same _ _ D _ (XI.read hk (by omega) HF.out) (XI.read hr_64 (by omega) HF.out)).mono ?_
  rintro e w69 ⟨rfl, hb69⟩
  have z69 := hb69.size
  have hW_70 := hW_62.below hb69
  clear hW_62
  have hu_71 := hu_63.below hb69
  clear hu_63
  have hr_72 := hr_64.below hb69
  clear hr_64
  have hy_73 := hy_65.below hb69
  clear hy_65
  have hx_74 := hx_66.below hb69
  clear hx_66
  have hg_75 := hg_67.below hb69
  clear hg_67
  have hz_76 := hz_68.below hb69
  clear hz_68
  have hk_77 := hk.below hb69
  clear hk
  clear hb69
  go_wp2_with fail
  refine (heldI_at _ _ _ _ _ hg_75 (by omega)).mono ?_
  rintro e w78 ⟨rfl, hw78⟩
  subst hw78
  go_wp2
  go_ret
  exact ⟨rfl, hW_70⟩
theorem FnExactMedianOf_long (A : Option Addr) (n c : Nat)  (w : World) (hn : n ≤ 9223372036854775807) (hs : 1048576 < n) :
    Calls Try.prog 17 #[.slice A n c] w (LawPost w) := by
  go_enter Try.func17, Try.ntmps17
  go_wp2
  go_ret
  exact ⟨rfl, Below.refl _ _⟩
set_option maxHeartbeats 2000000 in
theorem FnExactMedianOf_core (A : Option Addr) (c : Nat) (l : List Int)  (W : World) (h : IntsR W W.heap.size (.slice A l.length c) l) (hs : l.length ≤ 1048576) :
    Calls Try.prog 17 #[.slice A l.length c] W (LawPost W) := by
  have HL := Lib.hid (show ∀ x ∈ l, -9223372036854775808 ≤ x ∧ x ≤ 9223372036854775807 by obtain ⟨_, _, _, _, _, hb⟩ := h; exact hb)
  have HN := Lib.hid (fun (w' : World) (hb : Below W.heap.size W w') => h.below hb)
  have hW0 : HB2 W W := Below.refl _ _
  clear h
  go_enter Try.func17, Try.ntmps17
  go_wp2_with fail
  refine (xip (toIntS_own _ l _ (HN.out _ hW0))).mono ?_
  rintro e w1 ⟨⟨uA, uc, rfl, hu⟩, hb1⟩
  have z1 := hb1.size
  have hW_2 := hW0.below hb1
  clear hW0
  clear hb1
  go_wp2_with fail
  refine (medW (sMedianOf_any _ l _ (XI.read hu (by omega) HL.out))).mono ?_
  rintro e w3 ⟨⟨n1, rfl, hm1⟩, hb3⟩
  have z3 := hb3.size
  have hW_4 := hW_2.below hb3
  clear hW_2
  have hu_5 := hu.below hb3
  clear hu
  clear hb3
  go_wp2_with fail
  refine (xip (toIntS_own _ l _ (HN.out _ hW_4))).mono ?_
  rintro e w6 ⟨⟨xA, xc, rfl, hx⟩, hb6⟩
  have z6 := hb6.size
  have hW_7 := hW_4.below hb6
  clear hW_4
  have hu_8 := hu_5.below hb6
  clear hu_5
  clear hb6
  go_wp2_with fail
  refine (medW (iMedianOf_any _ l _ (XI.read hx (by omega) HL.out))).mono ?_
  rintro e w9 ⟨⟨n3, rfl, hm3⟩, hb9⟩
  have z9 := hb9.size
  have hW_10 := hW_7.below hb9
  clear hW_7
  have hu_11 := hu_8.below hb9
  clear hu_8
  have hx_12 := hx.below hb9
  clear hx
  clear hb9
  obtain rfl := medOf_unique hm1 hm3
  clear hm1 hm3
  go_wp2_with fail
  refine (xip (toIntS_own _ l _ (HN.out _ hW_10))).mono ?_
  rintro e w13 ⟨⟨yA, yc, rfl, hy⟩, hb13⟩
  have z13 := hb13.size
  have hW_14 := hW_10.below hb13
  clear hW_10
  have hu_15 := hu_11.below hb13
  clear hu_11
  have hx_16 := hx_12.below hb13
  clear hx_12
  clear hb13
  go_wp2_with fail
  refine (eqI_same _ _ l _ (XI.read hx_16 (by omega) HL.out) (XI.read hy (by omega) HL.out)).mono ?_
  rintro e w17 ⟨rfl, hb17⟩
  have z17 := hb17.size
  have hW_18 := hW_14.below hb17
  clear hW_14
  have hu_19 := hu_15.below hb17
  clear hu_15
  have hx_20 := hx_16.below hb17
  clear hx_16
  have hy_21 := hy.below hb17
  clear hy
  clear hb17
  go_wp2
  go_ret
  exact ⟨rfl, hW_18⟩
end Go.Proofs.Ytcpjafhhmhaenaa
