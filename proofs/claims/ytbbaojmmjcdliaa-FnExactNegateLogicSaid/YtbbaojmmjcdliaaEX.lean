/- The exact laws of chapter 2 over lists of elements: their walks. -/
import Derived.Test.YtbbaojmmjcdliaaEO
import Derived.Test.YtbbaojmmjcdliaaSo
import Derived.Test.YtbbaojmmjcdliaaSq
namespace Go.Proofs.Ytbbaojmmjcdliaa
open Go.RowKit
attribute [local go_sem ↓] Go.wp_at_zero Go.wp_at_succ

theorem used_bd (l : List Nd) : ∀ x ∈ usedL l, -9223372036854775808 ≤ x ∧ x ≤ 9223372036854775807 := by
  intro x hx
  unfold usedL numsTo at hx
  obtain ⟨k, hk, rfl⟩ := List.mem_map.1 hx
  have := List.mem_range.1 (List.mem_filter.1 hk).1
  omega
theorem neg_len (l : List Nd) (h : l.length ≤ 1048576) : (negL l).length ≤ 1048577 := by
  unfold negL
  split
  · split
    · rw [List.length_dropLast]; omega
    · split
      · simp
      · rw [List.length_append]; simp; omega
  · simp
theorem neg_fit (l : List Nd) (h : ∀ x ∈ l, ndFit x) : ∀ x ∈ negL l, ndFit x := by
  intro x hx
  unfold negL at hx
  split at hx
  · split at hx
    · exact h x (List.dropLast_subset l hx)
    · split at hx
      · simp at hx
      · rcases List.mem_append.1 hx with hx | hx
        · exact h x hx
        · simp at hx; subst hx; unfold ndFit; simp
  · simp at hx
theorem FnExactUsedBits_long (A : Option Addr) (n c : Nat) (w : World) (hn : n ≤ 9223372036854775807) (hs : 1048576 < n) :
    Calls Try.prog 6 #[.slice A n c] w (LawPost w) := by
  go_enter Try.func6, Try.ntmps6
  go_wp2_with fail
  refine (szN_over _ _ _ 1048576 _ hn (by omega)).mono ?_
  rintro e w' ⟨rfl, hw⟩
  subst hw
  go_wp2
  go_ret
  exact ⟨rfl, Below.refl _ _⟩
set_option maxHeartbeats 2000000 in
theorem FnExactUsedBits_core (A : Option Addr) (c : Nat) (l : List Nd) (W : World) (h : NodesR W W.heap.size (.slice A l.length c) l) (hs : l.length ≤ 1048576) :
    Calls Try.prog 6 #[.slice A l.length c] W (LawPost W) := by
  have HN := Lib.hid (fun (w' : World) (hb : Below W.heap.size W w') => h.below hb)
  have HF := Lib.hid (show ∀ x ∈ l, ndFit x by obtain ⟨_, _, _, _, _, hf⟩ := h; exact hf)
  have hW0 : HB2 W W := Below.refl _ _
  obtain ⟨D, hD⟩ : ∃ D, D = usedL l := ⟨_, rfl⟩
  have D0 : D.length ≤ 1048577 := by rw [hD]; exact Nat.le_trans (numsTo_length _ _) (by omega)
  have HD1 := Lib.hid (show ∀ x ∈ D, -9223372036854775808 ≤ x ∧ x ≤ 9223372036854775807 by rw [hD]; exact used_bd l)
  have HD := Lib.hid hD
  clear hD
  clear h
  go_enter Try.func6, Try.ntmps6
  go_wp2_with fail
  refine (szN_in _ _ _ 1048576 _ (by omega)).mono ?_
  rintro e w1 ⟨rfl, hw1⟩
  subst hw1
  go_wp2_with fail
  refine (xnp (toNodeS_any _ l _ (HN.out _ hW0) (by omega))).mono ?_
  rintro e w3 ⟨⟨uA, uc, rfl, hu⟩, hb3⟩
  have z3 := hb3.size
  have hW_4 := hW0.below hb3
  clear hW0
  clear hb3
  go_wp2_with fail
  refine (xip (HD.out ▸ sUsedBits_any _ l _ (XN.read hu (by omega) HF.out))).mono ?_
  rintro e w5 ⟨⟨rA, rc, rfl, hr⟩, hb5⟩
  have z5 := hb5.size
  have hW_6 := hW_4.below hb5
  clear hW_4
  have hu_7 := hu.below hb5
  clear hu
  clear hb5
  go_wp2_with fail
  refine (xnp (toNodeS_any _ l _ (HN.out _ hW_6) (by omega))).mono ?_
  rintro e w9 ⟨⟨xA, xc, rfl, hx⟩, hb9⟩
  have z9 := hb9.size
  have hW_10 := hW_6.below hb9
  clear hW_6
  have hu_11 := hu_7.below hb9
  clear hu_7
  have hr_12 := hr.below hb9
  clear hr
  clear hb9
  go_wp2_with fail
  refine (xip (HD.out ▸ iUsedBits_any _ l _ (XN.read hx (by omega) HF.out))).mono ?_
  rintro e w13 ⟨⟨gA, gc, rfl, hg⟩, hb13⟩
  have z13 := hb13.size
  have hW_14 := hW_10.below hb13
  clear hW_10
  have hu_15 := hu_11.below hb13
  clear hu_11
  have hr_16 := hr_12.below hb13
  clear hr_12
  have hx_17 := hx.below hb13
  clear hx
  clear hb13
  go_wp2_with fail
  refine (eqI_same _ _ D _ (XI.read hg (by omega) HD1.out) (XI.read hr_16 (by omega) HD1.out)).mono ?_
  rintro e w18 ⟨rfl, hb18⟩
  have z18 := hb18.size
  have hW_19 := hW_14.below hb18
  clear hW_14
  have hu_20 := hu_15.below hb18
  clear hu_15
  have hr_21 := hr_16.below hb18
  clear hr_16
  have hx_22 := hx_17.below hb18
  clear hx_17
  have hg_23 := hg.below hb18
  clear hg
  clear hb18
  go_wp2_with fail
  refine (xnp (toNodeS_any _ l _ (HN.out _ hW_19) (by omega))).mono ?_
  rintro e w25 ⟨⟨yA, yc, rfl, hy⟩, hb25⟩
  have z25 := hb25.size
  have hW_26 := hW_19.below hb25
  clear hW_19
  have hu_27 := hu_20.below hb25
  clear hu_20
  have hr_28 := hr_21.below hb25
  clear hr_21
  have hx_29 := hx_22.below hb25
  clear hx_22
  have hg_30 := hg_23.below hb25
  clear hg_23
  clear hb25
  go_wp2_with fail
  refine (eqN_same _ _ l _ (XN.read hx_29 (by omega) HF.out) (XN.read hy (by omega) HF.out)).mono ?_
  rintro e w31 ⟨rfl, hb31⟩
  have z31 := hb31.size
  have hW_32 := hW_26.below hb31
  clear hW_26
  have hu_33 := hu_27.below hb31
  clear hu_27
  have hr_34 := hr_28.below hb31
  clear hr_28
  have hx_35 := hx_29.below hb31
  clear hx_29
  have hg_36 := hg_30.below hb31
  clear hg_30
  have hy_37 := hy.below hb31
  clear hy
  clear hb31
  go_wp2_with fail
  refine (markN_at _ l _ _ _ hx_35 (by omega)).mono ?_
  rintro e w38 ⟨rfl, hxm, ho38⟩
  have z38 := ho38.size
  have hW_39 := hW_32.out ho38 (by omega)
  clear hW_32
  have hu_40 := hu_33.out ho38 (by omega)
  clear hu_33
  have hr_41 := hr_34.out ho38 (by omega)
  clear hr_34
  have hg_42 := hg_36.out ho38 (by omega)
  clear hg_36
  have hy_43 := hy_37.out ho38 (by omega)
  clear hy_37
  clear ho38 hx_35
  go_wp2_with fail
  refine (eqI_same _ _ D _ (XI.read hg_42 (by omega) HD1.out) (XI.read hr_41 (by omega) HD1.out)).mono ?_
  rintro e w44 ⟨rfl, hb44⟩
  have z44 := hb44.size
  have hW_45 := hW_39.below hb44
  clear hW_39
  have hu_46 := hu_40.below hb44
  clear hu_40
  have hr_47 := hr_41.below hb44
  clear hr_41
  have hg_48 := hg_42.below hb44
  clear hg_42
  have hy_49 := hy_43.below hb44
  clear hy_43
  have hx_50 := hxm.below hb44
  clear hxm
  clear hb44
  go_wp2_with fail
  refine (markI_at _ D _ _ _ hg_48 (by omega)).mono ?_
  rintro e w51 ⟨rfl, hgm, ho51⟩
  have z51 := ho51.size
  have hW_52 := hW_45.out ho51 (by omega)
  clear hW_45
  have hu_53 := hu_46.out ho51 (by omega)
  clear hu_46
  have hr_54 := hr_47.out ho51 (by omega)
  clear hr_47
  have hy_55 := hy_49.out ho51 (by omega)
  clear hy_49
  have hx_56 := hx_50.out ho51 (by omega)
  clear hx_50
  clear ho51 hg_48
  go_wp2_with fail
  refine (heldI_at _ _ _ _ _ hgm (by omega)).mono ?_
  rintro e w57 ⟨rfl, hw57⟩
  subst hw57
  go_wp2_with fail
  refine (xnp (toNodeS_any _ l _ (HN.out _ hW_52) (by omega))).mono ?_
  rintro e w59 ⟨⟨zA, zc, rfl, hz⟩, hb59⟩
  have z59 := hb59.size
  have hW_60 := hW_52.below hb59
  clear hW_52
  have hu_61 := hu_53.below hb59
  clear hu_53
  have hr_62 := hr_54.below hb59
  clear hr_54
  have hy_63 := hy_55.below hb59
  clear hy_55
  have hx_64 := hx_56.below hb59
  clear hx_56
  have hg_65 := hgm.below hb59
  clear hgm
  clear hb59
  go_wp2_with fail
  refine (xip (HD.out ▸ iUsedBits_any _ l _ (XN.read hz (by omega) HF.out))).mono ?_
  rintro e w66 ⟨⟨kA, kc, rfl, hk⟩, hb66⟩
  have z66 := hb66.size
  have hW_67 := hW_60.below hb66
  clear hW_60
  have hu_68 := hu_61.below hb66
  clear hu_61
  have hr_69 := hr_62.below hb66
  clear hr_62
  have hy_70 := hy_63.below hb66
  clear hy_63
  have hx_71 := hx_64.below hb66
  clear hx_64
  have hg_72 := hg_65.below hb66
  clear hg_65
  have hz_73 := hz.below hb66
  clear hz
  clear hb66
  go_wp2_with fail
  refine (eqI_same _ _ D _ (XI.read hk (by omega) HD1.out) (XI.read hr_69 (by omega) HD1.out)).mono ?_
  rintro e w74 ⟨rfl, hb74⟩
  have z74 := hb74.size
  have hW_75 := hW_67.below hb74
  clear hW_67
  have hu_76 := hu_68.below hb74
  clear hu_68
  have hr_77 := hr_69.below hb74
  clear hr_69
  have hy_78 := hy_70.below hb74
  clear hy_70
  have hx_79 := hx_71.below hb74
  clear hx_71
  have hg_80 := hg_72.below hb74
  clear hg_72
  have hz_81 := hz_73.below hb74
  clear hz_73
  have hk_82 := hk.below hb74
  clear hk
  clear hb74
  go_wp2_with fail
  refine (heldI_at _ _ _ _ _ hg_80 (by omega)).mono ?_
  rintro e w83 ⟨rfl, hw83⟩
  subst hw83
  go_wp2
  go_ret
  exact ⟨rfl, hW_75⟩
theorem FnExactNegateLogic_long (A : Option Addr) (n c : Nat) (w : World) (hn : n ≤ 9223372036854775807) (hs : 1048576 < n) :
    Calls Try.prog 5 #[.slice A n c] w (LawPost w) := by
  go_enter Try.func5, Try.ntmps5
  go_wp2_with fail
  refine (szN_over _ _ _ 1048576 _ hn (by omega)).mono ?_
  rintro e w' ⟨rfl, hw⟩
  subst hw
  go_wp2
  go_ret
  exact ⟨rfl, Below.refl _ _⟩
set_option maxHeartbeats 2000000 in
theorem FnExactNegateLogic_core (A : Option Addr) (c : Nat) (l : List Nd) (W : World) (h : NodesR W W.heap.size (.slice A l.length c) l) (hs : l.length ≤ 1048576) :
    Calls Try.prog 5 #[.slice A l.length c] W (LawPost W) := by
  have HN := Lib.hid (fun (w' : World) (hb : Below W.heap.size W w') => h.below hb)
  have HF := Lib.hid (show ∀ x ∈ l, ndFit x by obtain ⟨_, _, _, _, _, hf⟩ := h; exact hf)
  have hW0 : HB2 W W := Below.refl _ _
  obtain ⟨D, hD⟩ : ∃ D, D = negL l := ⟨_, rfl⟩
  have D0 : D.length ≤ 1048577 := by rw [hD]; exact neg_len l (by omega)
  have HD1 := Lib.hid (show ∀ x ∈ D, ndFit x by rw [hD]; exact neg_fit l HF.out)
  have HD := Lib.hid hD
  clear hD
  clear h
  go_enter Try.func5, Try.ntmps5
  go_wp2_with fail
  refine (szN_in _ _ _ 1048576 _ (by omega)).mono ?_
  rintro e w1 ⟨rfl, hw1⟩
  subst hw1
  go_wp2_with fail
  refine (xnp (toNodeS_any _ l _ (HN.out _ hW0) (by omega))).mono ?_
  rintro e w3 ⟨⟨uA, uc, rfl, hu⟩, hb3⟩
  have z3 := hb3.size
  have hW_4 := hW0.below hb3
  clear hW0
  clear hb3
  go_wp2_with fail
  refine (xnp (HD.out ▸ sNegate_any _ l _ (XN.read hu (by omega) HF.out))).mono ?_
  rintro e w5 ⟨⟨rA, rc, rfl, hr⟩, hb5⟩
  have z5 := hb5.size
  have hW_6 := hW_4.below hb5
  clear hW_4
  have hu_7 := hu.below hb5
  clear hu
  clear hb5
  go_wp2_with fail
  refine (xnp (toNodeS_any _ l _ (HN.out _ hW_6) (by omega))).mono ?_
  rintro e w9 ⟨⟨xA, xc, rfl, hx⟩, hb9⟩
  have z9 := hb9.size
  have hW_10 := hW_6.below hb9
  clear hW_6
  have hu_11 := hu_7.below hb9
  clear hu_7
  have hr_12 := hr.below hb9
  clear hr
  clear hb9
  go_wp2_with fail
  refine (xnp (HD.out ▸ iNegate_any _ l _ (XN.read hx (by omega) HF.out))).mono ?_
  rintro e w13 ⟨⟨gA, gc, rfl, hg⟩, hb13⟩
  have z13 := hb13.size
  have hW_14 := hW_10.below hb13
  clear hW_10
  have hu_15 := hu_11.below hb13
  clear hu_11
  have hr_16 := hr_12.below hb13
  clear hr_12
  have hx_17 := hx.below hb13
  clear hx
  clear hb13
  go_wp2_with fail
  refine (eqN_same _ _ D _ (XN.read hg (by omega) HD1.out) (XN.read hr_16 (by omega) HD1.out)).mono ?_
  rintro e w18 ⟨rfl, hb18⟩
  have z18 := hb18.size
  have hW_19 := hW_14.below hb18
  clear hW_14
  have hu_20 := hu_15.below hb18
  clear hu_15
  have hr_21 := hr_16.below hb18
  clear hr_16
  have hx_22 := hx_17.below hb18
  clear hx_17
  have hg_23 := hg.below hb18
  clear hg
  clear hb18
  go_wp2_with fail
  refine (xnp (toNodeS_any _ l _ (HN.out _ hW_19) (by omega))).mono ?_
  rintro e w25 ⟨⟨yA, yc, rfl, hy⟩, hb25⟩
  have z25 := hb25.size
  have hW_26 := hW_19.below hb25
  clear hW_19
  have hu_27 := hu_20.below hb25
  clear hu_20
  have hr_28 := hr_21.below hb25
  clear hr_21
  have hx_29 := hx_22.below hb25
  clear hx_22
  have hg_30 := hg_23.below hb25
  clear hg_23
  clear hb25
  go_wp2_with fail
  refine (eqN_same _ _ l _ (XN.read hx_29 (by omega) HF.out) (XN.read hy (by omega) HF.out)).mono ?_
  rintro e w31 ⟨rfl, hb31⟩
  have z31 := hb31.size
  have hW_32 := hW_26.below hb31
  clear hW_26
  have hu_33 := hu_27.below hb31
  clear hu_27
  have hr_34 := hr_28.below hb31
  clear hr_28
  have hx_35 := hx_29.below hb31
  clear hx_29
  have hg_36 := hg_30.below hb31
  clear hg_30
  have hy_37 := hy.below hb31
  clear hy
  clear hb31
  go_wp2_with fail
  refine (markN_at _ l _ _ _ hx_35 (by omega)).mono ?_
  rintro e w38 ⟨rfl, hxm, ho38⟩
  have z38 := ho38.size
  have hW_39 := hW_32.out ho38 (by omega)
  clear hW_32
  have hu_40 := hu_33.out ho38 (by omega)
  clear hu_33
  have hr_41 := hr_34.out ho38 (by omega)
  clear hr_34
  have hg_42 := hg_36.out ho38 (by omega)
  clear hg_36
  have hy_43 := hy_37.out ho38 (by omega)
  clear hy_37
  clear ho38 hx_35
  go_wp2_with fail
  refine (eqN_same _ _ D _ (XN.read hg_42 (by omega) HD1.out) (XN.read hr_41 (by omega) HD1.out)).mono ?_
  rintro e w44 ⟨rfl, hb44⟩
  have z44 := hb44.size
  have hW_45 := hW_39.below hb44
  clear hW_39
  have hu_46 := hu_40.below hb44
  clear hu_40
  have hr_47 := hr_41.below hb44
  clear hr_41
  have hg_48 := hg_42.below hb44
  clear hg_42
  have hy_49 := hy_43.below hb44
  clear hy_43
  have hx_50 := hxm.below hb44
  clear hxm
  clear hb44
  go_wp2_with fail
  refine (markN_at _ D _ _ _ hg_48 (by omega)).mono ?_
  rintro e w51 ⟨rfl, hgm, ho51⟩
  have z51 := ho51.size
  have hW_52 := hW_45.out ho51 (by omega)
  clear hW_45
  have hu_53 := hu_46.out ho51 (by omega)
  clear hu_46
  have hr_54 := hr_47.out ho51 (by omega)
  clear hr_47
  have hy_55 := hy_49.out ho51 (by omega)
  clear hy_49
  have hx_56 := hx_50.out ho51 (by omega)
  clear hx_50
  clear ho51 hg_48
  go_wp2_with fail
  refine (heldN_at _ _ _ _ _ hgm (by omega)).mono ?_
  rintro e w57 ⟨rfl, hw57⟩
  subst hw57
  go_wp2_with fail
  refine (xnp (toNodeS_any _ l _ (HN.out _ hW_52) (by omega))).mono ?_
  rintro e w59 ⟨⟨zA, zc, rfl, hz⟩, hb59⟩
  have z59 := hb59.size
  have hW_60 := hW_52.below hb59
  clear hW_52
  have hu_61 := hu_53.below hb59
  clear hu_53
  have hr_62 := hr_54.below hb59
  clear hr_54
  have hy_63 := hy_55.below hb59
  clear hy_55
  have hx_64 := hx_56.below hb59
  clear hx_56
  have hg_65 := hgm.below hb59
  clear hgm
  clear hb59
  go_wp2_with fail
  refine (xnp (HD.out ▸ iNegate_any _ l _ (XN.read hz (by omega) HF.out))).mono ?_
  rintro e w66 ⟨⟨kA, kc, rfl, hk⟩, hb66⟩
  have z66 := hb66.size
  have hW_67 := hW_60.below hb66
  clear hW_60
  have hu_68 := hu_61.below hb66
  clear hu_61
  have hr_69 := hr_62.below hb66
  clear hr_62
  have hy_70 := hy_63.below hb66
  clear hy_63
  have hx_71 := hx_64.below hb66
  clear hx_64
  have hg_72 := hg_65.below hb66
  clear hg_65
  have hz_73 := hz.below hb66
  clear hz
  clear hb66
  go_wp2_with fail
  refine (eqN_same _ _ D _ (XN.read hk (by omega) HD1.out) (XN.read hr_69 (by omega) HD1.out)).mono ?_
  rintro e w74 ⟨rfl, hb74⟩
  have z74 := hb74.size
  have hW_75 := hW_67.below hb74
  clear hW_67
  have hu_76 := hu_68.below hb74
  clear hu_68
  have hr_77 := hr_69.below hb74
  clear hr_69
  have hy_78 := hy_70.below hb74
  clear hy_70
  have hx_79 := hx_71.below hb74
  clear hx_71
  have hg_80 := hg_72.below hb74
  clear hg_72
  have hz_81 := hz_73.below hb74
  clear hz_73
  have hk_82 := hk.below hb74
  clear hk
  clear hb74
  go_wp2_with fail
  refine (heldN_at _ _ _ _ _ hg_80 (by omega)).mono ?_
  rintro e w83 ⟨rfl, hw83⟩
  subst hw83
  go_wp2
  go_ret
  exact ⟨rfl, hW_75⟩
end Go.Proofs.Ytbbaojmmjcdliaa
