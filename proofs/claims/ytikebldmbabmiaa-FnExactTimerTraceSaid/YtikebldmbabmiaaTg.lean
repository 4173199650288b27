/- The exact law of TimerTrace: its walk. -/
import Derived.Test.YtikebldmbabmiaaTf
import Derived.Test.YtikebldmbabmiaaEO
namespace Go.Proofs.Ytikebldmbabmiaa
open Go.RowKit
attribute [local go_sem ↓] Go.wp_at_zero Go.wp_at_succ

theorem FnExactTimerTrace_long (t : Tm) (A : Option Addr) (n c : Nat) (d : Int) (w : World) (hn : n ≤ 9223372036854775807) (hs : 1048576 < n) :
    Calls Try.prog 13 #[tmV t, .slice A n c, .int .i64 d] w (LawPost w) := by
  unfold tmV
  go_enter Try.func13, Try.ntmps13
  go_wp2
  go_ret
  exact ⟨rfl, (Below.refl _ _).alloc (Nat.le_refl _) _⟩
set_option maxHeartbeats 2000000 in
theorem FnExactTimerTrace_core (t : Tm) (A : Option Addr) (c : Nat) (l : List Bool) (d : Int) (W0 : World) (h : BoolsR W0 W0.heap.size (.slice A l.length c) l) (hf : fitT t) (hd : -9223372036854775808 ≤ d ∧ d ≤ 9223372036854775807) (hs : l.length ≤ 1048576) :
    Calls Try.prog 13 #[tmV t, .slice A l.length c, .int .i64 d] W0 (LawPost W0) := by
  have hx := boxL W0 t
  have hB := (Below.refl W0.heap.size W0).alloc (Nat.le_refl _) (.cells #[.int .i64 t.kind, .int .i64 t.pre, .int .i64 t.el, .bool t.bef, .bool t.out] 41)
  have hh := h.below hB
  have HT := Lib.hid (fun w : World => toTimer_any t w)
  have HS := Lib.hid (fun (w : World) (vv : Value) (hv : BoolsR w w.heap.size vv l) => sTimerTrace_any t vv l d w hf hv hd)
  have HI := Lib.hid (fun (w : World) (vv : Value) (hv : BoolsR w w.heap.size vv l) => iTimerTrace_any t vv l d w hf hv hd)
  obtain ⟨D, hD⟩ : ∃ D, D = traceL t l d := ⟨_, rfl⟩
  have D0 : D.length ≤ 200 := by rw [hD]; exact traceL_len t l d
  rw [← hD] at HS HI
  clear hD h
  unfold TmPost tmV at HT
  unfold tmV at HS HI ⊢
  go_enter Try.func13, Try.ntmps13
  obtain ⟨q, hq⟩ : ∃ q, q = W0.heap.size := ⟨_, rfl⟩
  go_upto_region 1 with fail
  rw [← hq] at hx ⊢
  generalize W0.alloc (.cells #[.int .i64 t.kind, .int .i64 t.pre, .int .i64 t.el, .bool t.bef, .bool t.out] 41) = W at hx hB hh ⊢
  clear hq
  have HN := Lib.hid (fun (w' : World) (hb : Below W.heap.size W w') => hh.below hb)
  have HX := Lib.hid (fun (w' : World) (hb : Below W.heap.size W w') => blk5 (blk_up hx hb))
  have hW0 : HB2 W W := Below.refl _ _
  have hB0 := hB.size
  clear hx hh
  obtain ⟨q0, q1, q2, q3, q4, -⟩ := HX.out _ hW0
  go_wp2_with fail
  refine (HT.out _).mono ?_
  rintro e w1 ⟨rfl, hb1⟩
  have z1 := hb1.size
  have hW_2 := hW0.below hb1
  clear hW0
  clear hb1
  clear q0 q1 q2 q3 q4
  go_wp2_with fail
  refine (xbp (toBoolS_any _ l _ (HN.out _ hW_2))).mono ?_
  rintro e w3 ⟨⟨uA, uc, rfl, hu⟩, hb3⟩
  have z3 := hb3.size
  have hW_4 := hW_2.below hb3
  clear hW_2
  clear hb3
  go_wp2_with fail
  refine (xbp (HS.out _ _ (XB.read hu (by omega)))).mono ?_
  rintro e w5 ⟨⟨rA, rc, rfl, hr⟩, hb5⟩
  have z5 := hb5.size
  have hW_6 := hW_4.below hb5
  clear hW_4
  have hu_7 := hu.below hb5
  clear hu
  clear hb5
  go_wp2_with fail
  refine (xbp (toBoolS_any _ l _ (HN.out _ hW_6))).mono ?_
  rintro e w8 ⟨⟨xA, xc, rfl, hx⟩, hb8⟩
  have z8 := hb8.size
  have hW_9 := hW_6.below hb8
  clear hW_6
  have hu_10 := hu_7.below hb8
  clear hu_7
  have hr_11 := hr.below hb8
  clear hr
  clear hb8
  obtain ⟨q0, q1, q2, q3, q4, -⟩ := HX.out _ hW_9
  go_wp2_with fail
  refine (HT.out _).mono ?_
  rintro e w12 ⟨rfl, hb12⟩
  have z12 := hb12.size
  have hW_13 := hW_9.below hb12
  clear hW_9
  have hu_14 := hu_10.below hb12
  clear hu_10
  have hr_15 := hr_11.below hb12
  clear hr_11
  have hx_16 := hx.below hb12
  clear hx
  clear hb12
  clear q0 q1 q2 q3 q4
  go_wp2_with fail
  refine (xbp (HI.out _ _ (XB.read hx_16 (by omega)))).mono ?_
  rintro e w17 ⟨⟨gA, gc, rfl, hg⟩, hb17⟩
  have z17 := hb17.size
  have hW_18 := hW_13.below hb17
  clear hW_13
  have hu_19 := hu_14.below hb17
  clear hu_14
  have hr_20 := hr_15.below hb17
  clear hr_15
  have hx_21 := hx_16.below hb17
  clear hx_16
  clear hb17
  go_wp2_with fail
  refine (eqB_same _ _ D _ (XB.read hg (by omega)) (XB.read hr_20 (by omega))).mono ?_
  rintro e w22 ⟨rfl, hb22⟩
  have z22 := hb22.size
  have hW_23 := hW_18.below hb22
  clear hW_18
  have hu_24 := hu_19.below hb22
  clear hu_19
  have hr_25 := hr_20.below hb22
  clear hr_20
  have hx_26 := hx_21.below hb22
  clear hx_21
  have hg_27 := hg.below hb22
  clear hg
  clear hb22
  go_wp2_with fail
  refine (xbp (toBoolS_any _ l _ (HN.out _ hW_23))).mono ?_
  rintro e w28 ⟨⟨yA, yc, rfl, hy⟩, hb28⟩
  have z28 := hb28.size
  have hW_29 := hW_23.below hb28
  clear hW_23
  have hu_30 := hu_24.below hb28
  clear hu_24
  have hr_31 := hr_25.below hb28
  clear hr_25
  have hx_32 := hx_26.below hb28
  clear hx_26
  have hg_33 := hg_27.below hb28
  clear hg_27
  clear hb28
  go_wp2_with fail
  refine (eqB_same _ _ l _ (XB.read hx_32 (by omega)) (XB.read hy (by omega))).mono ?_
  rintro e w34 ⟨rfl, hb34⟩
  have z34 := hb34.size
  have hW_35 := hW_29.below hb34
  clear hW_29
  have hu_36 := hu_30.below hb34
  clear hu_30
  have hr_37 := hr_31.below hb34
  clear hr_31
  have hx_38 := hx_32.below hb34
  clear hx_32
  have hg_39 := hg_33.below hb34
  clear hg_33
  have hy_40 := hy.below hb34
  clear hy
  clear hb34
  go_wp2_with fail
  refine (markB_at _ l _ _ _ hx_38 (by omega)).mono ?_
  rintro e w41 ⟨rfl, hxm, ho41⟩
  have z41 := ho41.size
  have hW_42 := hW_35.out ho41 (by omega)
  clear hW_35
  have hu_43 := hu_36.out ho41 (by omega)
  clear hu_36
  have hr_44 := hr_37.out ho41 (by omega)
  clear hr_37
  have hg_45 := hg_39.out ho41 (by omega)
  clear hg_39
  have hy_46 := hy_40.out ho41 (by omega)
  clear hy_40
  clear ho41 hx_38
  go_wp2_with fail
  refine (eqB_same _ _ D _ (XB.read hg_45 (by omega)) (XB.read hr_44 (by omega))).mono ?_
  rintro e w47 ⟨rfl, hb47⟩
  have z47 := hb47.size
  have hW_48 := hW_42.below hb47
  clear hW_42
  have hu_49 := hu_43.below hb47
  clear hu_43
  have hr_50 := hr_44.below hb47
  clear hr_44
  have hg_51 := hg_45.below hb47
  clear hg_45
  have hy_52 := hy_46.below hb47
  clear hy_46
  have hx_53 := hxm.below hb47
  clear hxm
  clear hb47
  go_wp2_with fail
  refine (markB_at _ D _ _ _ hg_51 (by omega)).mono ?_
  rintro e w54 ⟨rfl, hgm, ho54⟩
  have z54 := ho54.size
  have hW_55 := hW_48.out ho54 (by omega)
  clear hW_48
  have hu_56 := hu_49.out ho54 (by omega)
  clear hu_49
  have hr_57 := hr_50.out ho54 (by omega)
  clear hr_50
  have hy_58 := hy_52.out ho54 (by omega)
  clear hy_52
  have hx_59 := hx_53.out ho54 (by omega)
  clear hx_53
  clear ho54 hg_51
  go_wp2_with fail
  refine (heldB_at _ _ _ _ _ hgm (by omega)).mono ?_
  rintro e w60 ⟨rfl, hw60⟩
  subst hw60
  obtain ⟨q0, q1, q2, q3, q4, -⟩ := HX.out _ hW_55
  go_wp2_with fail
  refine (HT.out _).mono ?_
  rintro e w61 ⟨rfl, hb61⟩
  have z61 := hb61.size
  have hW_62 := hW_55.below hb61
  clear hW_55
  have hu_63 := hu_56.below hb61
  clear hu_56
  have hr_64 := hr_57.below hb61
  clear hr_57
  have hy_65 := hy_58.below hb61
  clear hy_58
  have hx_66 := hx_59.below hb61
  clear hx_59
  have hg_67 := hgm.below hb61
  clear hgm
  clear hb61
  clear q0 q1 q2 q3 q4
  go_wp2_with fail
  refine (xbp (toBoolS_any _ l _ (HN.out _ hW_62))).mono ?_
  rintro e w68 ⟨⟨zA, zc, rfl, hz⟩, hb68⟩
  have z68 := hb68.size
  have hW_69 := hW_62.below hb68
  clear hW_62
  have hu_70 := hu_63.below hb68
  clear hu_63
  have hr_71 := hr_64.below hb68
  clear hr_64
  have hy_72 := hy_65.below hb68
  clear hy_65
  have hx_73 := hx_66.below hb68
  clear hx_66
  have hg_74 := hg_67.below hb68
  clear hg_67
  clear hb68
  go_wp2_with fail
  refine (xbp (HI.out _ _ (XB.read hz (by omega)))).mono ?_
  rintro e w75 ⟨⟨kA, kc, rfl, hk⟩, hb75⟩
  have z75 := hb75.size
  have hW_76 := hW_69.below hb75
  clear hW_69
  have hu_77 := hu_70.below hb75
  clear hu_70
  have hr_78 := hr_71.below hb75
  clear hr_71
  have hy_79 := hy_72.below hb75
  clear hy_72
  have hx_80 := hx_73.below hb75
  clear hx_73
  have hg_81 := hg_74.below hb75
  clear hg_74
  have hz_82 := hz.below hb75
  clear hz
  clear hb75
  go_wp2_with fail
  refine (eqB_same _ _ D _ (XB.read hk (by omega)) (XB.read hr_78 (by omega))).mono ?_
  rintro e w83 ⟨rfl, hb83⟩
  have z83 := hb83.size
  have hW_84 := hW_76.below hb83
  clear hW_76
  have hu_85 := hu_77.below hb83
  clear hu_77
  have hr_86 := hr_78.below hb83
  clear hr_78
  have hy_87 := hy_79.below hb83
  clear hy_79
  have hx_88 := hx_80.below hb83
  clear hx_80
  have hg_89 := hg_81.below hb83
  clear hg_81
  have hz_90 := hz_82.below hb83
  clear hz_82
  have hk_91 := hk.below hb83
  clear hk
  clear hb83
  go_wp2_with fail
  refine (heldB_at _ _ _ _ _ hg_89 (by omega)).mono ?_
  rintro e w92 ⟨rfl, hw92⟩
  subst hw92
  go_wp2
  go_ret
  exact ⟨rfl, hB.trans ((hW_84 : Below W.heap.size W _).mono hB.size)⟩
end Go.Proofs.Ytikebldmbabmiaa
