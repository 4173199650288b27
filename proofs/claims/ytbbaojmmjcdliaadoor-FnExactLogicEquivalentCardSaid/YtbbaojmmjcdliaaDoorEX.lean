/- The exact laws of chapter 2 over lists of elements: their walks. -/
import Derived.Test.YtbbaojmmjcdliaaDoorEO
import Derived.Test.YtbbaojmmjcdliaaDoorSo
import Derived.Test.YtbbaojmmjcdliaaDoorSq
namespace Go.Proofs.YtbbaojmmjcdliaaDoor
open Go.RowKit
attribute [local go_sem ↓] Go.wp_at_zero Go.wp_at_succ

theorem used_bd (l : List Nd) : ∀ x ∈ usedL l, -9223372036854775808 ≤ x ∧ x ≤ 9223372036854775807 := by
  intro x hx
  unfold usedL numsTo at hx
  obtain ⟨k, hk, rfl⟩ := List.mem_map.1 hx
  have := List.mem_range.1 (List.mem_filter.1 hk).1
  omega
theorem neg_len (l : List Nd) (h : l.length ≤ 1048576) : (negL l).length ≤ 1048577 := by
  unfold negL
  split
  · split
    · rw [List.length_dropLast]; omega
    · split
      · simp
      · rw [List.length_append]; simp; omega
  · simp
theorem neg_fit (l : List Nd) (h : ∀ x ∈ l, ndFit x) : ∀ x ∈ negL l, ndFit x := by
  intro x hx
  unfold negL at hx
  split at hx
  · split at hx
    · exact h x (List.dropLast_subset l hx)
    · split at hx
      · simp at hx
      · rcases List.mem_append.1 hx with hx | hx
        · exact h x hx
        · simp at hx; subst hx; unfold ndFit; simp
  · simp at hx
theorem FnExactLogicDepends_long (A : Option Addr) (n c : Nat) (n1 n2 : Int) (w : World) (hn : n ≤ 9223372036854775807) (hs : 1048576 < n) :
    Calls Tryd.prog 11 #[.slice A n c, .int .i64 n1, .int .i64 n2] w (LawPost w) := by
  go_enter Tryd.func11, Tryd.ntmps11
  go_wp2_with fail
  refine (szN_over _ _ _ 1048576 _ hn (by omega)).mono ?_
  rintro e w' ⟨rfl, hw⟩
  subst hw
  go_wp2
  go_ret
  exact ⟨rfl, Below.refl _ _⟩
set_option maxHeartbeats 2000000 in
theorem FnExactLogicDepends_core (A : Option Addr) (c : Nat) (l : List Nd) (n bit : Int) (W : World) (h : NodesR W W.heap.size (.slice A l.length c) l) (hT : Tab W) (hs : l.length ≤ 1048576) :
    Calls Tryd.prog 11 #[.slice A l.length c, .int .i64 n, .int .i64 bit] W (LawPost W) := by
  have HN := Lib.hid (fun (w' : World) (hb : Below W.heap.size W w') => h.below hb)
  have HF := Lib.hid (show ∀ x ∈ l, ndFit x by obtain ⟨_, _, _, _, _, hf⟩ := h; exact hf)
  have hW0 : HB2 W W := Below.refl _ _
  have HT := Lib.hid hT
  clear hT
  clear h
  go_enter Tryd.func11, Tryd.ntmps11
  go_wp2_with fail
  refine (szN_in _ _ _ 1048576 _ (by omega)).mono ?_
  rintro e w1 ⟨rfl, hw1⟩
  subst hw1
  go_wp2_with fail
  refine (xnp (toNodeS_any _ l _ (HN.out _ hW0) (by omega))).mono ?_
  rintro e w3 ⟨⟨uA, uc, rfl, hu⟩, hb3⟩
  have z3 := hb3.size
  have hW_4 := hW0.below hb3
  clear hW0
  clear hb3
  go_wp2_with fail
  refine (sLogicDepends_any _ l n bit _ (XN.read hu (by omega) HF.out)).mono ?_
  rintro e w5 ⟨rfl, hb5⟩
  have z5 := hb5.size
  have hW_6 := hW_4.below hb5
  clear hW_4
  have hu_7 := hu.below hb5
  clear hu
  clear hb5
  go_wp2_with fail
  refine (xnp (toNodeS_any _ l _ (HN.out _ hW_6) (by omega))).mono ?_
  rintro e w9 ⟨⟨xA, xc, rfl, hx⟩, hb9⟩
  have z9 := hb9.size
  have hW_10 := hW_6.below hb9
  clear hW_6
  have hu_11 := hu_7.below hb9
  clear hu_7
  clear hb9
  go_wp2_with fail
  refine (iLogicDepends_any _ l n bit _ (XN.read hx (by omega) HF.out) (HT.out.next hW_10)).mono ?_
  rintro e w12 ⟨rfl, hb12⟩
  have z12 := hb12.size
  have hW_13 := hW_10.below hb12
  clear hW_10
  have hu_14 := hu_11.below hb12
  clear hu_11
  have hx_15 := hx.below hb12
  clear hx
  clear hb12
  go_wp2_with fail
  refine (xnp (toNodeS_any _ l _ (HN.out _ hW_13) (by omega))).mono ?_
  rintro e w17 ⟨⟨yA, yc, rfl, hy⟩, hb17⟩
  have z17 := hb17.size
  have hW_18 := hW_13.below hb17
  clear hW_13
  have hu_19 := hu_14.below hb17
  clear hu_14
  have hx_20 := hx_15.below hb17
  clear hx_15
  clear hb17
  go_wp2_with fail
  refine (eqN_same _ _ l _ (XN.read hx_20 (by omega) HF.out) (XN.read hy (by omega) HF.out)).mono ?_
  rintro e w21 ⟨rfl, hb21⟩
  have z21 := hb21.size
  have hW_22 := hW_18.below hb21
  clear hW_18
  have hu_23 := hu_19.below hb21
  clear hu_19
  have hx_24 := hx_20.below hb21
  clear hx_20
  have hy_25 := hy.below hb21
  clear hy
  clear hb21
  go_wp2
  go_ret
  exact ⟨rfl, hW_22⟩
theorem FnExactLogicEquivalent_long (A : Option Addr) (n c : Nat) (A2 : Option Addr) (n2 c2 : Nat) (n3 : Int) (w : World) (hn : n ≤ 9223372036854775807) (hn2 : n2 ≤ 9223372036854775807) (hs : 1048576 < n + n2) :
    Calls Tryd.prog 10 #[.slice A n c, .slice A2 n2 c2, .int .i64 n3] w (LawPost w) := by
  by_cases h1 : 1048576 < n
  · go_enter Tryd.func10, Tryd.ntmps10
    go_wp2_with fail
    refine (szN_over _ _ _ 1048576 _ hn (by omega)).mono ?_
    rintro e w' ⟨rfl, hw⟩
    subst hw
    go_wp2
    go_ret
    exact ⟨rfl, Below.refl _ _⟩
  · go_enter Tryd.func10, Tryd.ntmps10
    go_wp2_with fail
    refine (szN_in _ _ _ 1048576 _ (by omega)).mono ?_
    rintro e w' ⟨rfl, hw⟩
    subst hw
    go_wp2_with fail
    refine (szN_over _ _ _ _ _ hn2 (by omega)).mono ?_
    rintro e w' ⟨rfl, hw⟩
    subst hw
    go_wp2
    go_ret
    exact ⟨rfl, Below.refl _ _⟩
set_option maxHeartbeats 2000000 in
theorem FnExactLogicEquivalent_core (A : Option Addr) (c : Nat) (l : List Nd) (A2 : Option Addr) (c2 : Nat) (l2 : List Nd) (n : Int) (W : World) (h : NodesR W W.heap.size (.slice A l.length c) l) (h2 : NodesR W W.heap.size (.slice A2 l2.length c2) l2) (hT : Tab W) (hs2 : l.length + l2.length ≤ 1048576) (hs : l.length ≤ 1048576) :
    Calls Tryd.prog 10 #[.slice A l.length c, .slice A2 l2.length c2, .int .i64 n] W (LawPost W) := by
  have HN := Lib.hid (fun (w' : World) (hb : Below W.heap.size W w') => h.below hb)
  have HF := Lib.hid (show ∀ x ∈ l, ndFit x by obtain ⟨_, _, _, _, _, hf⟩ := h; exact hf)
  have hW0 : HB2 W W := Below.refl _ _
  have HN2 := Lib.hid (fun (w' : World) (hb : Below W.heap.size W w') => h2.below hb)
  have HF2 := Lib.hid (show ∀ x ∈ l2, ndFit x by obtain ⟨_, _, _, _, _, hf⟩ := h2; exact hf)
  have HT := Lib.hid hT
  clear hT h2
  clear h
  go_enter Tryd.func10, Tryd.ntmps10
  go_wp2_with fail
  refine (szN_in _ _ _ 1048576 _ (by omega)).mono ?_
  rintro e w1 ⟨rfl, hw1⟩
  subst hw1
  go_wp2_with fail
  refine (szN_in _ _ _ _ _ (by omega)).mono ?_
  rintro e w2 ⟨rfl, hw2⟩
  subst hw2
  go_wp2_with fail
  refine (xnp (toNodeS_any _ l _ (HN.out _ hW0) (by omega))).mono ?_
  rintro e w4 ⟨⟨uA, uc, rfl, hu⟩, hb4⟩
  have z4 := hb4.size
  have hW_5 := hW0.below hb4
  clear hW0
  clear hb4
  go_wp2_with fail
  refine (xnp (toNodeS_any _ l2 _ (HN2.out _ hW_5) (by omega))).mono ?_
  rintro e w7 ⟨⟨vA, vc, rfl, hv⟩, hb7⟩
  have z7 := hb7.size
  have hW_8 := hW_5.below hb7
  clear hW_5
  have hu_9 := hu.below hb7
  clear hu
  clear hb7
  go_wp2_with fail
  refine (sLogicEquivalent_any _ _ l l2 n _ (XN.read hu_9 (by omega) HF.out) (XN.read hv (by omega) HF2.out)).mono ?_
  rintro e w10 ⟨rfl, hb10⟩
  have z10 := hb10.size
  have hW_11 := hW_8.below hb10
  clear hW_8
  have hu_12 := hu_9.below hb10
  clear hu_9
  have hv_13 := hv.below hb10
  clear hv
  clear hb10
  go_wp2_with fail
  refine (xnp (toNodeS_any _ l _ (HN.out _ hW_11) (by omega))).mono ?_
  rintro e w15 ⟨⟨xA, xc, rfl, hx⟩, hb15⟩
  have z15 := hb15.size
  have hW_16 := hW_11.below hb15
  clear hW_11
  have hu_17 := hu_12.below hb15
  clear hu_12
  have hv_18 := hv_13.below hb15
  clear hv_13
  clear hb15
  go_wp2_with fail
  refine (xnp (toNodeS_any _ l2 _ (HN2.out _ hW_16) (by omega))).mono ?_
  rintro e w20 ⟨⟨yA, yc, rfl, hy⟩, hb20⟩
  have z20 := hb20.size
  have hW_21 := hW_16.below hb20
  clear hW_16
  have hu_22 := hu_17.below hb20
  clear hu_17
  have hv_23 := hv_18.below hb20
  clear hv_18
  have hx_24 := hx.below hb20
  clear hx
  clear hb20
  go_wp2_with fail
  refine (iLogicEquivalent_any _ _ l l2 n _ (XN.read hx_24 (by omega) HF.out) (XN.read hy (by omega) HF2.out) (HT.out.next hW_21)).mono ?_
  rintro e w25 ⟨rfl, hb25⟩
  have z25 := hb25.size
  have hW_26 := hW_21.below hb25
  clear hW_21
  have hu_27 := hu_22.below hb25
  clear hu_22
  have hv_28 := hv_23.below hb25
  clear hv_23
  have hx_29 := hx_24.below hb25
  clear hx_24
  have hy_30 := hy.below hb25
  clear hy
  clear hb25
  go_wp2_with fail
  refine (xnp (toNodeS_any _ l _ (HN.out _ hW_26) (by omega))).mono ?_
  rintro e w32 ⟨⟨pA, pc, rfl, hp⟩, hb32⟩
  have z32 := hb32.size
  have hW_33 := hW_26.below hb32
  clear hW_26
  have hu_34 := hu_27.below hb32
  clear hu_27
  have hv_35 := hv_28.below hb32
  clear hv_28
  have hx_36 := hx_29.below hb32
  clear hx_29
  have hy_37 := hy_30.below hb32
  clear hy_30
  clear hb32
  go_wp2_with fail
  refine (eqN_same _ _ l _ (XN.read hx_36 (by omega) HF.out) (XN.read hp (by omega) HF.out)).mono ?_
  rintro e w38 ⟨rfl, hb38⟩
  have z38 := hb38.size
  have hW_39 := hW_33.below hb38
  clear hW_33
  have hu_40 := hu_34.below hb38
  clear hu_34
  have hv_41 := hv_35.below hb38
  clear hv_35
  have hx_42 := hx_36.below hb38
  clear hx_36
  have hy_43 := hy_37.below hb38
  clear hy_37
  have hp_44 := hp.below hb38
  clear hp
  clear hb38
  go_wp2_with fail
  refine (xnp (toNodeS_any _ l2 _ (HN2.out _ hW_39) (by omega))).mono ?_
  rintro e w46 ⟨⟨qA, qc, rfl, hq⟩, hb46⟩
  have z46 := hb46.size
  have hW_47 := hW_39.below hb46
  clear hW_39
  have hu_48 := hu_40.below hb46
  clear hu_40
  have hv_49 := hv_41.below hb46
  clear hv_41
  have hx_50 := hx_42.below hb46
  clear hx_42
  have hy_51 := hy_43.below hb46
  clear hy_43
  have hp_52 := hp_44.below hb46
  clear hp_44
  clear hb46
  go_wp2_with fail
  refine (eqN_same _ _ l2 _ (XN.read hy_51 (by omega) HF2.out) (XN.read hq (by omega) HF2.out)).mono ?_
  rintro e w53 ⟨rfl, hb53⟩
  have z53 := hb53.size
  have hW_54 := hW_47.below hb53
  clear hW_47
  have hu_55 := hu_48.below hb53
  clear hu_48
  have hv_56 := hv_49.below hb53
  clear hv_49
  have hx_57 := hx_50.below hb53
  clear hx_50
  have hy_58 := hy_51.below hb53
  clear hy_51
  have hp_59 := hp_52.below hb53
  clear hp_52
  have hq_60 := hq.below hb53
  clear hq
  clear hb53
  go_wp2
  go_ret
  exact ⟨rfl, hW_54⟩
theorem FnExactLogicTable_long (A : Option Addr) (n c : Nat) (n1 : Int) (w : World) (hn : n ≤ 9223372036854775807) (hs : 1048576 < n) :
    Calls Tryd.prog 9 #[.slice A n c, .int .i64 n1] w (LawPost w) := by
  go_enter Tryd.func9, Tryd.ntmps9
  go_wp2_with fail
  refine (szN_over _ _ _ 1048576 _ hn (by omega)).mono ?_
  rintro e w' ⟨rfl, hw⟩
  subst hw
  go_wp2
  go_ret
  exact ⟨rfl, Below.refl _ _⟩
set_option maxHeartbeats 2000000 in
theorem FnExactLogicTable_core (A : Option Addr) (c : Nat) (l : List Nd) (n : Int) (W : World) (h : NodesR W W.heap.size (.slice A l.length c) l) (hT : Tab W) (hs : l.length ≤ 1048576) :
    Calls Tryd.prog 9 #[.slice A l.length c, .int .i64 n] W (LawPost W) := by
  have HN := Lib.hid (fun (w' : World) (hb : Below W.heap.size W w') => h.below hb)
  have HF := Lib.hid (show ∀ x ∈ l, ndFit x by obtain ⟨_, _, _, _, _, hf⟩ := h; exact hf)
  have hW0 : HB2 W W := Below.refl _ _
  have HT := Lib.hid hT
  clear hT
  obtain ⟨D, hD⟩ : ∃ D, D = tabF l n := ⟨_, rfl⟩
  have D0 : D.length ≤ 1048577 := by rw [hD]; exact Nat.le_trans (tabF_small l n) (by omega)
  have HD := Lib.hid hD
  clear hD
  clear h
  go_enter Tryd.func9, Tryd.ntmps9
  go_wp2_with fail
  refine (szN_in _ _ _ 1048576 _ (by omega)).mono ?_
  rintro e w1 ⟨rfl, hw1⟩
  subst hw1
  go_wp2_with fail
  refine (xnp (toNodeS_any _ l _ (HN.out _ hW0) (by omega))).mono ?_
  rintro e w3 ⟨⟨uA, uc, rfl, hu⟩, hb3⟩
  have z3 := hb3.size
  have hW_4 := hW0.below hb3
  clear hW0
  clear hb3
  go_wp2_with fail
  refine (xbp (HD.out ▸ sLogicTable_any _ l n _ (XN.read hu (by omega) HF.out))).mono ?_
  rintro e w5 ⟨⟨rA, rc, rfl, hr⟩, hb5⟩
  have z5 := hb5.size
  have hW_6 := hW_4.below hb5
  clear hW_4
  have hu_7 := hu.below hb5
  clear hu
  clear hb5
  go_wp2_with fail
  refine (xnp (toNodeS_any _ l _ (HN.out _ hW_6) (by omega))).mono ?_
  rintro e w9 ⟨⟨xA, xc, rfl, hx⟩, hb9⟩
  have z9 := hb9.size
  have hW_10 := hW_6.below hb9
  clear hW_6
  have hu_11 := hu_7.below hb9
  clear hu_7
  have hr_12 := hr.below hb9
  clear hr
  clear hb9
  go_wp2_with fail
  refine (xbp (HD.out ▸ iLogicTable_any _ l n _ (XN.read hx (by omega) HF.out) (HT.out.next hW_10))).mono ?_
  rintro e w13 ⟨⟨gA, gc, rfl, hg⟩, hb13⟩
  have z13 := hb13.size
  have hW_14 := hW_10.below hb13
  clear hW_10
  have hu_15 := hu_11.below hb13
  clear hu_11
  have hr_16 := hr_12.below hb13
  clear hr_12
  have hx_17 := hx.below hb13
  clear hx
  clear hb13
  go_wp2_with fail
  refine (eqB_same _ _ D _ (XB.read hg (by omega)) (XB.read hr_16 (by omega))).mono ?_
  rintro e w18 ⟨rfl, hb18⟩
  have z18 := hb18.size
  have hW_19 := hW_14.below hb18
  clear hW_14
  have hu_20 := hu_15.below hb18
  clear hu_15
  have hr_21 := hr_16.below hb18
  clear hr_16
  have hx_22 := hx_17.below hb18
  clear hx_17
  have hg_23 := hg.below hb18
  clear hg
  clear hb18
  go_wp2_with fail
  refine (xnp (toNodeS_any _ l _ (HN.out _ hW_19) (by omega))).mono ?_
  rintro e w25 ⟨⟨yA, yc, rfl, hy⟩, hb25⟩
  have z25 := hb25.size
  have hW_26 := hW_19.below hb25
  clear hW_19
  have hu_27 := hu_20.below hb25
  clear hu_20
  have hr_28 := hr_21.below hb25
  clear hr_21
  have hx_29 := hx_22.below hb25
  clear hx_22
  have hg_30 := hg_23.below hb25
  clear hg_23
  clear hb25
  go_wp2_with fail
  refine (eqN_same _ _ l _ (XN.read hx_29 (by omega) HF.out) (XN.read hy (by omega) HF.out)).mono ?_
  rintro e w31 ⟨rfl, hb31⟩
  have z31 := hb31.size
  have hW_32 := hW_26.below hb31
  clear hW_26
  have hu_33 := hu_27.below hb31
  clear hu_27
  have hr_34 := hr_28.below hb31
  clear hr_28
  have hx_35 := hx_29.below hb31
  clear hx_29
  have hg_36 := hg_30.below hb31
  clear hg_30
  have hy_37 := hy.below hb31
  clear hy
  clear hb31
  go_wp2_with fail
  refine (markN_at _ l _ _ _ hx_35 (by omega)).mono ?_
  rintro e w38 ⟨rfl, hxm, ho38⟩
  have z38 := ho38.size
  have hW_39 := hW_32.out ho38 (by omega)
  clear hW_32
  have hu_40 := hu_33.out ho38 (by omega)
  clear hu_33
  have hr_41 := hr_34.out ho38 (by omega)
  clear hr_34
  have hg_42 := hg_36.out ho38 (by omega)
  clear hg_36
  have hy_43 := hy_37.out ho38 (by omega)
  clear hy_37
  clear ho38 hx_35
  go_wp2_with fail
  refine (eqB_same _ _ D _ (XB.read hg_42 (by omega)) (XB.read hr_41 (by omega))).mono ?_
  rintro e w44 ⟨rfl, hb44⟩
  have z44 := hb44.size
  have hW_45 := hW_39.below hb44
  clear hW_39
  have hu_46 := hu_40.below hb44
  clear hu_40
  have hr_47 := hr_41.below hb44
  clear hr_41
  have hg_48 := hg_42.below hb44
  clear hg_42
  have hy_49 := hy_43.below hb44
  clear hy_43
  have hx_50 := hxm.below hb44
  clear hxm
  clear hb44
  go_wp2_with fail
  refine (markB_at _ D _ _ _ hg_48 (by omega)).mono ?_
  rintro e w51 ⟨rfl, hgm, ho51⟩
  have z51 := ho51.size
  have hW_52 := hW_45.out ho51 (by omega)
  clear hW_45
  have hu_53 := hu_46.out ho51 (by omega)
  clear hu_46
  have hr_54 := hr_47.out ho51 (by omega)
  clear hr_47
  have hy_55 := hy_49.out ho51 (by omega)
  clear hy_49
  have hx_56 := hx_50.out ho51 (by omega)
  clear hx_50
  clear ho51 hg_48
  go_wp2_with fail
  refine (heldB_at _ _ _ _ _ hgm (by omega)).mono ?_
  rintro e w57 ⟨rfl, hw57⟩
  subst hw57
  go_wp2_with fail
  refine (xnp (toNodeS_any _ l _ (HN.out _ hW_52) (by omega))).mono ?_
  rintro e w59 ⟨⟨zA, zc, rfl, hz⟩, hb59⟩
  have z59 := hb59.size
  have hW_60 := hW_52.below hb59
  clear hW_52
  have hu_61 := hu_53.below hb59
  clear hu_53
  have hr_62 := hr_54.below hb59
  clear hr_54
  have hy_63 := hy_55.below hb59
  clear hy_55
  have hx_64 := hx_56.below hb59
  clear hx_56
  have hg_65 := hgm.below hb59
  clear hgm
  clear hb59
  go_wp2_with fail
  refine (xbp (HD.out ▸ iLogicTable_any _ l n _ (XN.read hz (by omega) HF.out) (HT.out.next hW_60))).mono ?_
  rintro e w66 ⟨⟨kA, kc, rfl, hk⟩, hb66⟩
  have z66 := hb66.size
  have hW_67 := hW_60.below hb66
  clear hW_60
  have hu_68 := hu_61.below hb66
  clear hu_61
  have hr_69 := hr_62.below hb66
  clear hr_62
  have hy_70 := hy_63.below hb66
  clear hy_63
  have hx_71 := hx_64.below hb66
  clear hx_64
  have hg_72 := hg_65.below hb66
  clear hg_65
  have hz_73 := hz.below hb66
  clear hz
  clear hb66
  go_wp2_with fail
  refine (eqB_same _ _ D _ (XB.read hk (by omega)) (XB.read hr_69 (by omega))).mono ?_
  rintro e w74 ⟨rfl, hb74⟩
  have z74 := hb74.size
  have hW_75 := hW_67.below hb74
  clear hW_67
  have hu_76 := hu_68.below hb74
  clear hu_68
  have hr_77 := hr_69.below hb74
  clear hr_69
  have hy_78 := hy_70.below hb74
  clear hy_70
  have hx_79 := hx_71.below hb74
  clear hx_71
  have hg_80 := hg_72.below hb74
  clear hg_72
  have hz_81 := hz_73.below hb74
  clear hz_73
  have hk_82 := hk.below hb74
  clear hk
  clear hb74
  go_wp2_with fail
  refine (heldB_at _ _ _ _ _ hg_80 (by omega)).mono ?_
  rintro e w83 ⟨rfl, hw83⟩
  subst hw83
  go_wp2
  go_ret
  exact ⟨rfl, hW_75⟩
end Go.Proofs.YtbbaojmmjcdliaaDoor
