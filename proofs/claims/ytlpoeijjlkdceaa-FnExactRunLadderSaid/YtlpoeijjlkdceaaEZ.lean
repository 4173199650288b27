/- The exact laws of LadderCoils and DoubleCoils: their walks. -/
import Derived.Test.YtlpoeijjlkdceaaOQ
import Derived.Test.YtlpoeijjlkdceaaRI
namespace Go.Proofs.Ytlpoeijjlkdceaa
open Go.RowKit
attribute [local go_sem ↓] Go.wp_at_zero Go.wp_at_succ

theorem coils_len (l : List Rg) : (coilsL l).length ≤ 1048577 := by
  unfold coilsL coilsTo
  rw [List.length_map]
  have := List.length_filter_le (fun (k : Nat) => l.any fun r => decide (r.coil = (k : Int))) (List.range 16)
  rw [List.length_range] at this
  omega
theorem coils_in (l : List Rg) : ∀ x ∈ coilsL l, -9223372036854775808 ≤ x ∧ x ≤ 9223372036854775807 := by
  intro x hx
  unfold coilsL coilsTo at hx
  obtain ⟨k, hk, rfl⟩ := List.mem_map.1 hx
  have := List.mem_range.1 (List.mem_filter.1 hk).1
  omega
theorem doubles_len (l : List Rg) : (doubleL l).length ≤ 1048577 := by
  unfold doubleL doubleTo
  rw [List.length_map]
  have := List.length_filter_le (fun (k : Nat) => decide (1 < manyC l k)) (List.range 16)
  rw [List.length_range] at this
  omega
theorem doubles_in (l : List Rg) : ∀ x ∈ doubleL l, -9223372036854775808 ≤ x ∧ x ≤ 9223372036854775807 := by
  intro x hx
  unfold doubleL doubleTo at hx
  obtain ⟨k, hk, rfl⟩ := List.mem_map.1 hx
  have := List.mem_range.1 (List.mem_filter.1 hk).1
  omega
theorem sLadderCoils_of (v : Value) (xs ps : List (Value × Rg)) (D : List Int) (w : World) (h : LadR w w.heap.size v xs) (e : lads xs = lads ps) (hD : D = coilsL (lads ps)) :
    Calls Try.prog 37 #[v] w (OwnIP D w) := by
  subst hD; rw [← e]; exact sLadderCoils_any v xs w h
theorem sDoubleCoils_of (v : Value) (xs ps : List (Value × Rg)) (D : List Int) (w : World) (h : LadR w w.heap.size v xs) (e : lads xs = lads ps) (hD : D = doubleL (lads ps)) :
    Calls Try.prog 45 #[v] w (OwnIP D w) := by
  subst hD; rw [← e]; exact sDoubleCoils_any v xs w h
theorem iLadderCoils_of (v : Value) (xs ps : List (Value × Rg)) (D : List Int) (w : World) (h : LadR w w.heap.size v xs) (e : lads xs = lads ps) (hD : D = coilsL (lads ps)) :
    Calls Try.prog 35 #[v] w (OwnIP D w) := by
  subst hD; rw [← e]; exact iLadderCoils_any v xs w h
theorem iDoubleCoils_of (v : Value) (xs ps : List (Value × Rg)) (D : List Int) (w : World) (h : LadR w w.heap.size v xs) (e : lads xs = lads ps) (hD : D = doubleL (lads ps)) :
    Calls Try.prog 38 #[v] w (OwnIP D w) := by
  subst hD; rw [← e]; exact iDoubleCoils_any v xs w h
theorem sz_each {rs : List (Value × Rg)} (h : sumL (lads rs) ≤ 1048576) : ∀ p ∈ rs, p.2.logic.length ≤ 1048576 := by
  induction rs with
  | nil => simp
  | cons r rs ih =>
    have h' : r.2.logic.length + sumL (lads rs) ≤ 1048576 := h
    intro p hp
    rcases List.mem_cons.1 hp with rfl | hp
    · omega
    · exact ih (by omega) p hp
set_option maxRecDepth 100000 in
set_option maxHeartbeats 4000000 in
theorem FnExactLadderCoils_any (A : Option Addr) (n c : Nat) (W : World) (hn : n ≤ 9223372036854775807) (f : n ≤ 1048576 → ∃ qs : List Rw, qs.length = n ∧ LadW W W.heap.size (.slice A n c) qs) :
    Calls Try.prog 15 #[.slice A n c] W (LawPost W) := by
  go_enter Try.func15, Try.ntmps15
  go_wp2_with fail
  refine (szRungS_any A n c 1048576 _ hn (by omega) f).mono ?_
  rintro e w1 ⟨r, rfl, hb1, hr⟩
  rcases hr with rfl | ⟨ps, hpl, hL, hsz, rfl⟩
  · go_wp2
    go_ret
    exact ⟨rfl, hb1⟩
  · subst hpl
    have hW0 : HB2 W w1 := hb1
    have q0 : 0 ≤ 1048576 - (ps.length : Int) - ((sumL (lads ps) : Nat) : Int) := by omega
    have hq : ps.length ≤ 1048576 ∧ sumL (lads ps) ≤ 1048576 := by omega
    have HSZ := Lib.hid (show ps.length ≤ 1048576 ∧ ∀ p ∈ ps, p.2.logic.length ≤ 1048576 from ⟨hq.1, sz_each hq.2⟩)
    have HQ := Lib.hid hq.2
    have HL := Lib.hid (fun (w' : World) (hb : Below W.heap.size W w') => LadR.below hL hb)
    obtain ⟨D, hD⟩ : ∃ D, D = coilsL (lads ps) := ⟨_, rfl⟩
    have D0 : D.length ≤ 1048577 := by rw [hD]; exact coils_len _
    have HD1 := Lib.hid (show ∀ x ∈ D, -9223372036854775808 ≤ x ∧ x ≤ 9223372036854775807 by rw [hD]; exact coils_in _)
    have HD := Lib.hid hD
    have zw1 := hb1.size
    clear hD hL hsz f hn hb1 hq
    go_wp2_with fail
    refine (toRungS_any _ ps _ (HL.out _ hW0) HSZ.out).mono ?_
    rintro e w1 ⟨uA, uc, us, rfl, eu, hu, hb1⟩
    have z1 := hb1.size
    have hW_2 := hW0.below hb1
    clear hW0
    clear hb1
    have Eu := Lib.hid eu
    clear eu
    go_wp2_with fail
    refine (xip (sLadderCoils_of _ us ps D _ hu.read Eu.out HD.out)).mono ?_
    rintro e w3 ⟨⟨rA, rc, rfl, hr⟩, hb3⟩
    have z3 := hb3.size
    have hW_4 := hW_2.below hb3
    clear hW_2
    have hu_5 := hu.below hb3
    clear hu
    clear hb3
    go_wp2_with fail
    refine (toRungS_any _ ps _ (HL.out _ hW_4) HSZ.out).mono ?_
    rintro e w6 ⟨xA, xc, xs, rfl, ex, hx, hb6⟩
    have z6 := hb6.size
    have hW_7 := hW_4.below hb6
    clear hW_4
    have hu_8 := hu_5.below hb6
    clear hu_5
    have hr_9 := hr.below hb6
    clear hr
    clear hb6
    have Ex := Lib.hid ex
    clear ex
    go_wp2_with fail
    refine (xip (iLadderCoils_of _ xs ps D _ hx.read Ex.out HD.out)).mono ?_
    rintro e w10 ⟨⟨gA, gc, rfl, hg⟩, hb10⟩
    have z10 := hb10.size
    have hW_11 := hW_7.below hb10
    clear hW_7
    have hu_12 := hu_8.below hb10
    clear hu_8
    have hr_13 := hr_9.below hb10
    clear hr_9
    have hx_14 := hx.below hb10
    clear hx
    clear hb10
    go_wp2_with fail
    refine (eqI_same _ _ D _ (XI.read hg (by omega) HD1.out) (XI.read hr_13 (by omega) HD1.out)).mono ?_
    rintro e w15 ⟨rfl, hb15⟩
    have z15 := hb15.size
    have hW_16 := hW_11.below hb15
    clear hW_11
    have hu_17 := hu_12.below hb15
    clear hu_12
    have hr_18 := hr_13.below hb15
    clear hr_13
    have hx_19 := hx_14.below hb15
    clear hx_14
    have hg_20 := hg.below hb15
    clear hg
    clear hb15
    go_wp2_with fail
    refine (toRungS_any _ ps _ (HL.out _ hW_16) HSZ.out).mono ?_
    rintro e w21 ⟨yA, yc, ys, rfl, ey, hy, hb21⟩
    have z21 := hb21.size
    have hW_22 := hW_16.below hb21
    clear hW_16
    have hu_23 := hu_17.below hb21
    clear hu_17
    have hr_24 := hr_18.below hb21
    clear hr_18
    have hx_25 := hx_19.below hb21
    clear hx_19
    have hg_26 := hg_20.below hb21
    clear hg_20
    clear hb21
    have Ey := Lib.hid ey
    clear ey
    go_wp2_with fail
    refine (eqRungS_same _ _ xs ys _ hx_25.read hy.read (Ex.out.trans Ey.out.symm)).mono ?_
    rintro e w27 ⟨rfl, hb27⟩
    have z27 := hb27.size
    have hW_28 := hW_22.below hb27
    clear hW_22
    have hu_29 := hu_23.below hb27
    clear hu_23
    have hr_30 := hr_24.below hb27
    clear hr_24
    have hx_31 := hx_25.below hb27
    clear hx_25
    have hg_32 := hg_26.below hb27
    clear hg_26
    have hy_33 := hy.below hb27
    clear hy
    clear hb27
    have HSx := Lib.hid (show sumL (lads xs) ≤ 1048576 by rw [Ex.out]; exact HQ.out)
    go_wp2_with fail
    refine (markRungS_any _ xs 1 _ _ _ hx_31 (by omega) HSx.out).mono ?_
    rintro e w34 ⟨rfl, ho34⟩
    have z34 := ho34.size
    have hW_35 := hW_28.out ho34 (by omega)
    clear hW_28
    have hu_36 := hu_29.out ho34 (by omega)
    clear hu_29
    have hr_37 := hr_30.out ho34 (by omega)
    clear hr_30
    have hg_38 := hg_32.out ho34 (by omega)
    clear hg_32
    have hy_39 := hy_33.out ho34 (by omega)
    clear hy_33
    clear ho34 hx_31
    go_wp2_with fail
    refine (eqI_same _ _ D _ (XI.read hg_38 (by omega) HD1.out) (XI.read hr_37 (by omega) HD1.out)).mono ?_
    rintro e w40 ⟨rfl, hb40⟩
    have z40 := hb40.size
    have hW_41 := hW_35.below hb40
    clear hW_35
    have hu_42 := hu_36.below hb40
    clear hu_36
    have hr_43 := hr_37.below hb40
    clear hr_37
    have hg_44 := hg_38.below hb40
    clear hg_38
    have hy_45 := hy_39.below hb40
    clear hy_39
    clear hb40
    go_wp2_with fail
    refine (markI_at _ D _ _ _ hg_44 (by omega)).mono ?_
    rintro e w46 ⟨rfl, hgm, ho46⟩
    have z46 := ho46.size
    have hW_47 := hW_41.out ho46 (by omega)
    clear hW_41
    have hu_48 := hu_42.out ho46 (by omega)
    clear hu_42
    have hr_49 := hr_43.out ho46 (by omega)
    clear hr_43
    have hy_50 := hy_45.out ho46 (by omega)
    clear hy_45
    clear ho46 hg_44
    go_wp2_with fail
    refine (heldI_at _ _ _ _ _ hgm (by omega)).mono ?_
    rintro e w51 ⟨rfl, hw51⟩
    subst hw51
    go_wp2_with fail
    refine (toRungS_any _ ps _ (HL.out _ hW_47) HSZ.out).mono ?_
    rintro e w52 ⟨zA, zc, zs, rfl, ez, hz, hb52⟩
    have z52 := hb52.size
    have hW_53 := hW_47.below hb52
    clear hW_47
    have hu_54 := hu_48.below hb52
    clear hu_48
    have hr_55 := hr_49.below hb52
    clear hr_49
    have hy_56 := hy_50.below hb52
    clear hy_50
    have hg_57 := hgm.below hb52
    clear hgm
    clear hb52
    have Ez := Lib.hid ez
    clear ez
    go_wp2_with fail
    refine (xip (iLadderCoils_of _ zs ps D _ hz.read Ez.out HD.out)).mono ?_
    rintro e w58 ⟨⟨kA, kc, rfl, hk⟩, hb58⟩
    have z58 := hb58.size
    have hW_59 := hW_53.below hb58
    clear hW_53
    have hu_60 := hu_54.below hb58
    clear hu_54
    have hr_61 := hr_55.below hb58
    clear hr_55
    have hy_62 := hy_56.below hb58
    clear hy_56
    have hg_63 := hg_57.below hb58
    clear hg_57
    have hz_64 := hz.below hb58
    clear hz
    clear hb58
    go_wp2_with fail
    refine (eqI_same _ _ D _ (XI.read hk (by omega) HD1.out) (XI.read hr_61 (by omega) HD1.out)).mono ?_
    rintro e w65 ⟨rfl, hb65⟩
    have z65 := hb65.size
    have hW_66 := hW_59.below hb65
    clear hW_59
    have hu_67 := hu_60.below hb65
    clear hu_60
    have hr_68 := hr_61.below hb65
    clear hr_61
    have hy_69 := hy_62.below hb65
    clear hy_62
    have hg_70 := hg_63.below hb65
    clear hg_63
    have hz_71 := hz_64.below hb65
    clear hz_64
    have hk_72 := hk.below hb65
    clear hk
    clear hb65
    go_wp2_with fail
    refine (heldI_at _ _ _ _ _ hg_70 (by omega)).mono ?_
    rintro e w73 ⟨rfl, hw73⟩
    subst hw73
    go_wp2
    go_ret
    exact ⟨rfl, hW_66⟩
set_option maxRecDepth 100000 in
set_option maxHeartbeats 4000000 in
theorem FnExactDoubleCoils_any (A : Option Addr) (n c : Nat) (W : World) (hn : n ≤ 9223372036854775807) (f : n ≤ 1048576 → ∃ qs : List Rw, qs.length = n ∧ LadW W W.heap.size (.slice A n c) qs) :
    Calls Try.prog 17 #[.slice A n c] W (LawPost W) := by
  go_enter Try.func17, Try.ntmps17
  go_wp2_with fail
  refine (szRungS_any A n c 1048576 _ hn (by omega) f).mono ?_
  rintro e w1 ⟨r, rfl, hb1, hr⟩
  rcases hr with rfl | ⟨ps, hpl, hL, hsz, rfl⟩
  · go_wp2
    go_ret
    exact ⟨rfl, hb1⟩
  · subst hpl
    have hW0 : HB2 W w1 := hb1
    have q0 : 0 ≤ 1048576 - (ps.length : Int) - ((sumL (lads ps) : Nat) : Int) := by omega
    have hq : ps.length ≤ 1048576 ∧ sumL (lads ps) ≤ 1048576 := by omega
    have HSZ := Lib.hid (show ps.length ≤ 1048576 ∧ ∀ p ∈ ps, p.2.logic.length ≤ 1048576 from ⟨hq.1, sz_each hq.2⟩)
    have HQ := Lib.hid hq.2
    have HL := Lib.hid (fun (w' : World) (hb : Below W.heap.size W w') => LadR.below hL hb)
    obtain ⟨D, hD⟩ : ∃ D, D = doubleL (lads ps) := ⟨_, rfl⟩
    have D0 : D.length ≤ 1048577 := by rw [hD]; exact doubles_len _
    have HD1 := Lib.hid (show ∀ x ∈ D, -9223372036854775808 ≤ x ∧ x ≤ 9223372036854775807 by rw [hD]; exact doubles_in _)
    have HD := Lib.hid hD
    have zw1 := hb1.size
    clear hD hL hsz f hn hb1 hq
    go_wp2_with fail
    refine (toRungS_any _ ps _ (HL.out _ hW0) HSZ.out).mono ?_
    rintro e w1 ⟨uA, uc, us, rfl, eu, hu, hb1⟩
    have z1 := hb1.size
    have hW_2 := hW0.below hb1
    clear hW0
    clear hb1
    have Eu := Lib.hid eu
    clear eu
    go_wp2_with fail
    refine (xip (sDoubleCoils_of _ us ps D _ hu.read Eu.out HD.out)).mono ?_
    rintro e w3 ⟨⟨rA, rc, rfl, hr⟩, hb3⟩
    have z3 := hb3.size
    have hW_4 := hW_2.below hb3
    clear hW_2
    have hu_5 := hu.below hb3
    clear hu
    clear hb3
    go_wp2_with fail
    refine (toRungS_any _ ps _ (HL.out _ hW_4) HSZ.out).mono ?_
    rintro e w6 ⟨xA, xc, xs, rfl, ex, hx, hb6⟩
    have z6 := hb6.size
    have hW_7 := hW_4.below hb6
    clear hW_4
    have hu_8 := hu_5.below hb6
    clear hu_5
    have hr_9 := hr.below hb6
    clear hr
    clear hb6
    have Ex := Lib.hid ex
    clear ex
    go_wp2_with fail
    refine (xip (iDoubleCoils_of _ xs ps D _ hx.read Ex.out HD.out)).mono ?_
    rintro e w10 ⟨⟨gA, gc, rfl, hg⟩, hb10⟩
    have z10 := hb10.size
    have hW_11 := hW_7.below hb10
    clear hW_7
    have hu_12 := hu_8.below hb10
    clear hu_8
    have hr_13 := hr_9.below hb10
    clear hr_9
    have hx_14 := hx.below hb10
    clear hx
    clear hb10
    go_wp2_with fail
    refine (eqI_same _ _ D _ (XI.read hg (by omega) HD1.out) (XI.read hr_13 (by omega) HD1.out)).mono ?_
    rintro e w15 ⟨rfl, hb15⟩
    have z15 := hb15.size
    have hW_16 := hW_11.below hb15
    clear hW_11
    have hu_17 := hu_12.below hb15
    clear hu_12
    have hr_18 := hr_13.below hb15
    clear hr_13
    have hx_19 := hx_14.below hb15
    clear hx_14
    have hg_20 := hg.below hb15
    clear hg
    clear hb15
    go_wp2_with fail
    refine (toRungS_any _ ps _ (HL.out _ hW_16) HSZ.out).mono ?_
    rintro e w21 ⟨yA, yc, ys, rfl, ey, hy, hb21⟩
    have z21 := hb21.size
    have hW_22 := hW_16.below hb21
    clear hW_16
    have hu_23 := hu_17.below hb21
    clear hu_17
    have hr_24 := hr_18.below hb21
    clear hr_18
    have hx_25 := hx_19.below hb21
    clear hx_19
    have hg_26 := hg_20.below hb21
    clear hg_20
    clear hb21
    have Ey := Lib.hid ey
    clear ey
    go_wp2_with fail
    refine (eqRungS_same _ _ xs ys _ hx_25.read hy.read (Ex.out.trans Ey.out.symm)).mono ?_
    rintro e w27 ⟨rfl, hb27⟩
    have z27 := hb27.size
    have hW_28 := hW_22.below hb27
    clear hW_22
    have hu_29 := hu_23.below hb27
    clear hu_23
    have hr_30 := hr_24.below hb27
    clear hr_24
    have hx_31 := hx_25.below hb27
    clear hx_25
    have hg_32 := hg_26.below hb27
    clear hg_26
    have hy_33 := hy.below hb27
    clear hy
    clear hb27
    have HSx := Lib.hid (show sumL (lads xs) ≤ 1048576 by rw [Ex.out]; exact HQ.out)
    go_wp2_with fail
    refine (markRungS_any _ xs 1 _ _ _ hx_31 (by omega) HSx.out).mono ?_
    rintro e w34 ⟨rfl, ho34⟩
    have z34 := ho34.size
    have hW_35 := hW_28.out ho34 (by omega)
    clear hW_28
    have hu_36 := hu_29.out ho34 (by omega)
    clear hu_29
    have hr_37 := hr_30.out ho34 (by omega)
    clear hr_30
    have hg_38 := hg_32.out ho34 (by omega)
    clear hg_32
    have hy_39 := hy_33.out ho34 (by omega)
    clear hy_33
    clear ho34 hx_31
    go_wp2_with fail
    refine (eqI_same _ _ D _ (XI.read hg_38 (by omega) HD1.out) (XI.read hr_37 (by omega) HD1.out)).mono ?_
    rintro e w40 ⟨rfl, hb40⟩
    have z40 := hb40.size
    have hW_41 := hW_35.below hb40
    clear hW_35
    have hu_42 := hu_36.below hb40
    clear hu_36
    have hr_43 := hr_37.below hb40
    clear hr_37
    have hg_44 := hg_38.below hb40
    clear hg_38
    have hy_45 := hy_39.below hb40
    clear hy_39
    clear hb40
    go_wp2_with fail
    refine (markI_at _ D _ _ _ hg_44 (by omega)).mono ?_
    rintro e w46 ⟨rfl, hgm, ho46⟩
    have z46 := ho46.size
    have hW_47 := hW_41.out ho46 (by omega)
    clear hW_41
    have hu_48 := hu_42.out ho46 (by omega)
    clear hu_42
    have hr_49 := hr_43.out ho46 (by omega)
    clear hr_43
    have hy_50 := hy_45.out ho46 (by omega)
    clear hy_45
    clear ho46 hg_44
    go_wp2_with fail
    refine (heldI_at _ _ _ _ _ hgm (by omega)).mono ?_
    rintro e w51 ⟨rfl, hw51⟩
    subst hw51
    go_wp2_with fail
    refine (toRungS_any _ ps _ (HL.out _ hW_47) HSZ.out).mono ?_
    rintro e w52 ⟨zA, zc, zs, rfl, ez, hz, hb52⟩
    have z52 := hb52.size
    have hW_53 := hW_47.below hb52
    clear hW_47
    have hu_54 := hu_48.below hb52
    clear hu_48
    have hr_55 := hr_49.below hb52
    clear hr_49
    have hy_56 := hy_50.below hb52
    clear hy_50
    have hg_57 := hgm.below hb52
    clear hgm
    clear hb52
    have Ez := Lib.hid ez
    clear ez
    go_wp2_with fail
    refine (xip (iDoubleCoils_of _ zs ps D _ hz.read Ez.out HD.out)).mono ?_
    rintro e w58 ⟨⟨kA, kc, rfl, hk⟩, hb58⟩
    have z58 := hb58.size
    have hW_59 := hW_53.below hb58
    clear hW_53
    have hu_60 := hu_54.below hb58
    clear hu_54
    have hr_61 := hr_55.below hb58
    clear hr_55
    have hy_62 := hy_56.below hb58
    clear hy_56
    have hg_63 := hg_57.below hb58
    clear hg_57
    have hz_64 := hz.below hb58
    clear hz
    clear hb58
    go_wp2_with fail
    refine (eqI_same _ _ D _ (XI.read hk (by omega) HD1.out) (XI.read hr_61 (by omega) HD1.out)).mono ?_
    rintro e w65 ⟨rfl, hb65⟩
    have z65 := hb65.size
    have hW_66 := hW_59.below hb65
    clear hW_59
    have hu_67 := hu_60.below hb65
    clear hu_60
    have hr_68 := hr_61.below hb65
    clear hr_61
    have hy_69 := hy_62.below hb65
    clear hy_62
    have hg_70 := hg_63.below hb65
    clear hg_63
    have hz_71 := hz_64.below hb65
    clear hz_64
    have hk_72 := hk.below hb65
    clear hk
    clear hb65
    go_wp2_with fail
    refine (heldI_at _ _ _ _ _ hg_70 (by omega)).mono ?_
    rintro e w73 ⟨rfl, hw73⟩
    subst hw73
    go_wp2
    go_ret
    exact ⟨rfl, hW_66⟩
end Go.Proofs.Ytlpoeijjlkdceaa
