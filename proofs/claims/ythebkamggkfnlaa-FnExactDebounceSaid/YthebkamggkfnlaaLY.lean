/- The exact laws of chapter 4 on signals: their walks. -/
import Derived.Test.YthebkamggkfnlaaEO
import Derived.Test.YthebkamggkfnlaaLC
namespace Go.Proofs.Ythebkamggkfnlaa
open Go.RowKit
attribute [local go_sem ↓] Go.wp_at_zero Go.wp_at_succ

theorem FnExactEdgeTrace_long (b0 : Bool) (A : Option Addr) (n c : Nat)  (w : World) (hn : n ≤ 9223372036854775807) (hs : 1048576 < n) :
    Calls Try.prog 12 #[.bool b0, .slice A n c] w (LawPost w) := by
  go_enter Try.func12, Try.ntmps12
  go_wp2
  go_ret
  exact ⟨rfl, Below.refl _ _⟩
set_option maxHeartbeats 2000000 in
theorem FnExactEdgeTrace_core (b0 : Bool) (A : Option Addr) (c : Nat) (l : List Bool)  (W : World) (h : BoolsR W W.heap.size (.slice A l.length c) l) (hs : l.length ≤ 1048576) :
    Calls Try.prog 12 #[.bool b0, .slice A l.length c] W (LawPost W) := by
  have HN := Lib.hid (fun (w' : World) (hb : Below W.heap.size W w') => h.below hb)
  have hW0 : HB2 W W := Below.refl _ _
  obtain ⟨D, hD⟩ : ∃ D, D = edgesL b0 l := ⟨_, rfl⟩
  have D0 : D.length ≤ 200 := by rw [hD]; exact edgesL_le _ _
  have HD := Lib.hid hD
  clear hD h
  go_enter Try.func12, Try.ntmps12
  go_wp2_with fail
  refine (xbp (toBoolS_any _ l _ (HN.out _ hW0))).mono ?_
  rintro e w1 ⟨⟨uA, uc, rfl, hu⟩, hb1⟩
  have z1 := hb1.size
  have hW_2 := hW0.below hb1
  clear hW0
  clear hb1
  go_wp2_with fail
  refine (xbp (HD.out ▸ sEdgeTrace_any b0 _ l _ (XB.read hu (by omega)))).mono ?_
  rintro e w3 ⟨⟨rA, rc, rfl, hr⟩, hb3⟩
  have z3 := hb3.size
  have hW_4 := hW_2.below hb3
  clear hW_2
  have hu_5 := hu.below hb3
  clear hu
  clear hb3
  go_wp2_with fail
  refine (xbp (toBoolS_any _ l _ (HN.out _ hW_4))).mono ?_
  rintro e w6 ⟨⟨xA, xc, rfl, hx⟩, hb6⟩
  have z6 := hb6.size
  have hW_7 := hW_4.below hb6
  clear hW_4
  have hu_8 := hu_5.below hb6
  clear hu_5
  have hr_9 := hr.below hb6
  clear hr
  clear hb6
  go_wp2_with fail
  refine (xbp (HD.out ▸ iEdgeTrace_any b0 _ l _ (XB.read hx (by omega)))).mono ?_
  rintro e w10 ⟨⟨gA, gc, rfl, hg⟩, hb10⟩
  have z10 := hb10.size
  have hW_11 := hW_7.below hb10
  clear hW_7
  have hu_12 := hu_8.below hb10
  clear hu_8
  have hr_13 := hr_9.below hb10
  clear hr_9
  have hx_14 := hx.below hb10
  clear hx
  clear hb10
  go_wp2_with fail
  refine (eqB_same _ _ D _ (XB.read hg (by omega)) (XB.read hr_13 (by omega))).mono ?_
  rintro e w15 ⟨rfl, hb15⟩
  have z15 := hb15.size
  have hW_16 := hW_11.below hb15
  clear hW_11
  have hu_17 := hu_12.below hb15
  clear hu_12
  have hr_18 := hr_13.below hb15
  clear hr_13
  have hx_19 := hx_14.below hb15
  clear hx_14
  have hg_20 := hg.below hb15
  clear hg
  clear hb15
  go_wp2_with fail
  refine (xbp (toBoolS_any _ l _ (HN.out _ hW_16))).mono ?_
  rintro e w21 ⟨⟨yA, yc, rfl, hy⟩, hb21⟩
  have z21 := hb21.size
  have hW_22 := hW_16.below hb21
  clear hW_16
  have hu_23 := hu_17.below hb21
  clear hu_17
  have hr_24 := hr_18.below hb21
  clear hr_18
  have hx_25 := hx_19.below hb21
  clear hx_19
  have hg_26 := hg_20.below hb21
  clear hg_20
  clear hb21
  go_wp2_with fail
  refine (eqB_same _ _ l _ (XB.read hx_25 (by omega)) (XB.read hy (by omega))).mono ?_
  rintro e w27 ⟨rfl, hb27⟩
  have z27 := hb27.size
  have hW_28 := hW_22.below hb27
  clear hW_22
  have hu_29 := hu_23.below hb27
  clear hu_23
  have hr_30 := hr_24.below hb27
  clear hr_24
  have hx_31 := hx_25.below hb27
  clear hx_25
  have hg_32 := hg_26.below hb27
  clear hg_26
  have hy_33 := hy.below hb27
  clear hy
  clear hb27
  go_wp2_with fail
  refine (markB_at _ l _ _ _ hx_31 (by omega)).mono ?_
  rintro e w34 ⟨rfl, hxm, ho34⟩
  have z34 := ho34.size
  have hW_35 := hW_28.out ho34 (by omega)
  clear hW_28
  have hu_36 := hu_29.out ho34 (by omega)
  clear hu_29
  have hr_37 := hr_30.out ho34 (by omega)
  clear hr_30
  have hg_38 := hg_32.out ho34 (by omega)
  clear hg_32
  have hy_39 := hy_33.out ho34 (by omega)
  clear hy_33
  clear ho34 hx_31
  go_wp2_with fail
  refine (eqB_same _ _ D _ (XB.read hg_38 (by omega)) (XB.read hr_37 (by omega))).mono ?_
  rintro e w40 ⟨rfl, hb40⟩
  have z40 := hb40.size
  have hW_41 := hW_35.below hb40
  clear hW_35
  have hu_42 := hu_36.below hb40
  clear hu_36
  have hr_43 := hr_37.below hb40
  clear hr_37
  have hg_44 := hg_38.below hb40
  clear hg_38
  have hy_45 := hy_39.below hb40
  clear hy_39
  have hx_46 := hxm.below hb40
  clear hxm
  clear hb40
  go_wp2_with fail
  refine (markB_at _ D _ _ _ hg_44 (by omega)).mono ?_
  rintro e w47 ⟨rfl, hgm, ho47⟩
  have z47 := ho47.size
  have hW_48 := hW_41.out ho47 (by omega)
  clear hW_41
  have hu_49 := hu_42.out ho47 (by omega)
  clear hu_42
  have hr_50 := hr_43.out ho47 (by omega)
  clear hr_43
  have hy_51 := hy_45.out ho47 (by omega)
  clear hy_45
  have hx_52 := hx_46.out ho47 (by omega)
  clear hx_46
  clear ho47 hg_44
  go_wp2_with fail
  refine (heldB_at _ _ _ _ _ hgm (by omega)).mono ?_
  rintro e w53 ⟨rfl, hw53⟩
  subst hw53
  go_wp2_with fail
  refine (xbp (toBoolS_any _ l _ (HN.out _ hW_48))).mono ?_
  rintro e w54 ⟨⟨zA, zc, rfl, hz⟩, hb54⟩
  have z54 := hb54.size
  have hW_55 := hW_48.below hb54
  clear hW_48
  have hu_56 := hu_49.below hb54
  clear hu_49
  have hr_57 := hr_50.below hb54
  clear hr_50
  have hy_58 := hy_51.below hb54
  clear hy_51
  have hx_59 := hx_52.below hb54
  clear hx_52
  have hg_60 := hgm.below hb54
  clear hgm
  clear hb54
  go_wp2_with fail
  refine (xbp (HD.out ▸ iEdgeTrace_any b0 _ l _ (XB.read hz (by omega)))).mono ?_
  rintro e w61 ⟨⟨kA, kc, rfl, hk⟩, hb61⟩
  have z61 := hb61.size
  have hW_62 := hW_55.below hb61
  clear hW_55
  have hu_63 := hu_56.below hb61
  clear hu_56
  have hr_64 := hr_57.below hb61
  clear hr_57
  have hy_65 := hy_58.below hb61
  clear hy_58
  have hx_66 := hx_59.below hb61
  clear hx_59
  have hg_67 := hg_60.below hb61
  clear hg_60
  have hz_68 := hz.below hb61
  clear hz
  clear hb61
  go_wp2_with fail
  refine (eqB_same _ _ D _ (XB.read hk (by omega)) (XB.read hr_64 (by omega))).mono ?_
  rintro e w69 ⟨rfl, hb69⟩
  have z69 := hb69.size
  have hW_70 := hW_62.below hb69
  clear hW_62
  have hu_71 := hu_63.below hb69
  clear hu_63
  have hr_72 := hr_64.below hb69
  clear hr_64
  have hy_73 := hy_65.below hb69
  clear hy_65
  have hx_74 := hx_66.below hb69
  clear hx_66
  have hg_75 := hg_67.below hb69
  clear hg_67
  have hz_76 := hz_68.below hb69
  clear hz_68
  have hk_77 := hk.below hb69
  clear hk
  clear hb69
  go_wp2_with fail
  refine (heldB_at _ _ _ _ _ hg_75 (by omega)).mono ?_
  rintro e w78 ⟨rfl, hw78⟩
  subst hw78
  go_wp2
  go_ret
  exact ⟨rfl, hW_70⟩
theorem FnExactDebounce_long (b0 : Bool) (A : Option Addr) (n c : Nat) (n2 : Int) (w : World) (hn : n ≤ 9223372036854775807) (hs : 1048576 < n) :
    Calls Try.prog 13 #[.bool b0, .slice A n c, .int .i64 n2] w (LawPost w) := by
  go_enter Try.func13, Try.ntmps13
  go_wp2
  go_ret
  exact ⟨rfl, Below.refl _ _⟩
set_option maxHeartbeats 2000000 in
theorem FnExactDebounce_core (b0 : Bool) (A : Option Addr) (c : Nat) (l : List Bool) (n2 : Int) (W : World) (h : BoolsR W W.heap.size (.slice A l.length c) l) (hs : l.length ≤ 1048576) :
    Calls Try.prog 13 #[.bool b0, .slice A l.length c, .int .i64 n2] W (LawPost W) := by
  have HN := Lib.hid (fun (w' : World) (hb : Below W.heap.size W w') => h.below hb)
  have hW0 : HB2 W W := Below.refl _ _
  obtain ⟨D, hD⟩ : ∃ D, D = debL b0 l n2 := ⟨_, rfl⟩
  have D0 : D.length ≤ 200 := by rw [hD]; exact debL_len _ _ _
  have HD := Lib.hid hD
  clear hD h
  go_enter Try.func13, Try.ntmps13
  go_wp2_with fail
  refine (xbp (toBoolS_any _ l _ (HN.out _ hW0))).mono ?_
  rintro e w1 ⟨⟨uA, uc, rfl, hu⟩, hb1⟩
  have z1 := hb1.size
  have hW_2 := hW0.below hb1
  clear hW0
  clear hb1
  go_wp2_with fail
  refine (xbp (HD.out ▸ sDebounce_any b0 _ l n2 _ (XB.read hu (by omega)))).mono ?_
  rintro e w3 ⟨⟨rA, rc, rfl, hr⟩, hb3⟩
  have z3 := hb3.size
  have hW_4 := hW_2.below hb3
  clear hW_2
  have hu_5 := hu.below hb3
  clear hu
  clear hb3
  go_wp2_with fail
  refine (xbp (toBoolS_any _ l _ (HN.out _ hW_4))).mono ?_
  rintro e w6 ⟨⟨xA, xc, rfl, hx⟩, hb6⟩
  have z6 := hb6.size
  have hW_7 := hW_4.below hb6
  clear hW_4
  have hu_8 := hu_5.below hb6
  clear hu_5
  have hr_9 := hr.below hb6
  clear hr
  clear hb6
  go_wp2_with fail
  refine (xbp (HD.out ▸ iDebounce_any b0 _ l n2 _ (XB.read hx (by omega)))).mono ?_
  rintro e w10 ⟨⟨gA, gc, rfl, hg⟩, hb10⟩
  have z10 := hb10.size
  have hW_11 := hW_7.below hb10
  clear hW_7
  have hu_12 := hu_8.below hb10
  clear hu_8
  have hr_13 := hr_9.below hb10
  clear hr_9
  have hx_14 := hx.below hb10
  clear hx
  clear hb10
  go_wp2_with fail
  refine (eqB_same _ _ D _ (XB.read hg (by omega)) (XB.read hr_13 (by omega))).mono ?_
  rintro e w15 ⟨rfl, hb15⟩
  have z15 := hb15.size
  have hW_16 := hW_11.below hb15
  clear hW_11
  have hu_17 := hu_12.below hb15
  clear hu_12
  have hr_18 := hr_13.below hb15
  clear hr_13
  have hx_19 := hx_14.below hb15
  clear hx_14
  have hg_20 := hg.below hb15
  clear hg
  clear hb15
  go_wp2_with fail
  refine (xbp (toBoolS_any _ l _ (HN.out _ hW_16))).mono ?_
  rintro e w21 ⟨⟨yA, yc, rfl, hy⟩, hb21⟩
  have z21 := hb21.size
  have hW_22 := hW_16.below hb21
  clear hW_16
  have hu_23 := hu_17.below hb21
  clear hu_17
  have hr_24 := hr_18.below hb21
  clear hr_18
  have hx_25 := hx_19.below hb21
  clear hx_19
  have hg_26 := hg_20.below hb21
  clear hg_20
  clear hb21
  go_wp2_with fail
  refine (eqB_same _ _ l _ (XB.read hx_25 (by omega)) (XB.read hy (by omega))).mono ?_
  rintro e w27 ⟨rfl, hb27⟩
  have z27 := hb27.size
  have hW_28 := hW_22.below hb27
  clear hW_22
  have hu_29 := hu_23.below hb27
  clear hu_23
  have hr_30 := hr_24.below hb27
  clear hr_24
  have hx_31 := hx_25.below hb27
  clear hx_25
  have hg_32 := hg_26.below hb27
  clear hg_26
  have hy_33 := hy.below hb27
  clear hy
  clear hb27
  go_wp2_with fail
  refine (markB_at _ l _ _ _ hx_31 (by omega)).mono ?_
  rintro e w34 ⟨rfl, hxm, ho34⟩
  have z34 := ho34.size
  have hW_35 := hW_28.out ho34 (by omega)
  clear hW_28
  have hu_36 := hu_29.out ho34 (by omega)
  clear hu_29
  have hr_37 := hr_30.out ho34 (by omega)
  clear hr_30
  have hg_38 := hg_32.out ho34 (by omega)
  clear hg_32
  have hy_39 := hy_33.out ho34 (by omega)
  clear hy_33
  clear ho34 hx_31
  go_wp2_with fail
  refine (eqB_same _ _ D _ (XB.read hg_38 (by omega)) (XB.read hr_37 (by omega))).mono ?_
  rintro e w40 ⟨rfl, hb40⟩
  have z40 := hb40.size
  have hW_41 := hW_35.below hb40
  clear hW_35
  have hu_42 := hu_36.below hb40
  clear hu_36
  have hr_43 := hr_37.below hb40
  clear hr_37
  have hg_44 := hg_38.below hb40
  clear hg_38
  have hy_45 := hy_39.below hb40
  clear hy_39
  have hx_46 := hxm.below hb40
  clear hxm
  clear hb40
  go_wp2_with fail
  refine (markB_at _ D _ _ _ hg_44 (by omega)).mono ?_
  rintro e w47 ⟨rfl, hgm, ho47⟩
  have z47 := ho47.size
  have hW_48 := hW_41.out ho47 (by omega)
  clear hW_41
  have hu_49 := hu_42.out ho47 (by omega)
  clear hu_42
  have hr_50 := hr_43.out ho47 (by omega)
  clear hr_43
  have hy_51 := hy_45.out ho47 (by omega)
  clear hy_45
  have hx_52 := hx_46.out ho47 (by omega)
  clear hx_46
  clear ho47 hg_44
  go_wp2_with fail
  refine (heldB_at _ _ _ _ _ hgm (by omega)).mono ?_
  rintro e w53 ⟨rfl, hw53⟩
  subst hw53
  go_wp2_with fail
  refine (xbp (toBoolS_any _ l _ (HN.out _ hW_48))).mono ?_
  rintro e w54 ⟨⟨zA, zc, rfl, hz⟩, hb54⟩
  have z54 := hb54.size
  have hW_55 := hW_48.below hb54
  clear hW_48
  have hu_56 := hu_49.below hb54
  clear hu_49
  have hr_57 := hr_50.below hb54
  clear hr_50
  have hy_58 := hy_51.below hb54
  clear hy_51
  have hx_59 := hx_52.below hb54
  clear hx_52
  have hg_60 := hgm.below hb54
  clear hgm
  clear hb54
  go_wp2_with fail
  refine (xbp (HD.out ▸ iDebounce_any b0 _ l n2 _ (XB.read hz (by omega)))).mono ?_
  rintro e w61 ⟨⟨kA, kc, rfl, hk⟩, hb61⟩
  have z61 := hb61.size
  have hW_62 := hW_55.below hb61
  clear hW_55
  have hu_63 := hu_56.below hb61
  clear hu_56
  have hr_64 := hr_57.below hb61
  clear hr_57
  have hy_65 := hy_58.below hb61
  clear hy_58
  have hx_66 := hx_59.below hb61
  clear hx_59
  have hg_67 := hg_60.below hb61
  clear hg_60
  have hz_68 := hz.below hb61
  clear hz
  clear hb61
  go_wp2_with fail
  refine (eqB_same _ _ D _ (XB.read hk (by omega)) (XB.read hr_64 (by omega))).mono ?_
  rintro e w69 ⟨rfl, hb69⟩
  have z69 := hb69.size
  have hW_70 := hW_62.below hb69
  clear hW_62
  have hu_71 := hu_63.below hb69
  clear hu_63
  have hr_72 := hr_64.below hb69
  clear hr_64
  have hy_73 := hy_65.below hb69
  clear hy_65
  have hx_74 := hx_66.below hb69
  clear hx_66
  have hg_75 := hg_67.below hb69
  clear hg_67
  have hz_76 := hz_68.below hb69
  clear hz_68
  have hk_77 := hk.below hb69
  clear hk
  clear hb69
  go_wp2_with fail
  refine (heldB_at _ _ _ _ _ hg_75 (by omega)).mono ?_
  rintro e w78 ⟨rfl, hw78⟩
  subst hw78
  go_wp2
  go_ret
  exact ⟨rfl, hW_70⟩
end Go.Proofs.Ythebkamggkfnlaa
