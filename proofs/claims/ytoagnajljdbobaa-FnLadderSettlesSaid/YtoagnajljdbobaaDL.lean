/- The contract of a drawn ladder. -/
import Derived.Test.YtoagnajljdbobaaDR
namespace Go.Proofs.Ytoagnajljdbobaa
open Go.RowKit
attribute [local go_sem ↓] Go.wp_at_zero Go.wp_at_succ

theorem elL2 : Elem Try.prog 64 58 (.agg #[.slice none 0 0, .int .i64 0, .int .i64 0]) 3 40 := ⟨Try.underlying64, by kernel_rfl, rfl, by decide⟩
/-- A drawn ladder: its rows and its expressions lie from base on. -/
def OwnD (w : World) (base : Nat) (v : Value) (ps : List (Value × Rg)) : Prop :=
  w.ownsRow base 58 3 v ps.length (cellsR ps) ∧ ∀ p ∈ ps, OwnS w base p.1 p.2.logic ∧ smR p.2
theorem Fr.ownD {w w' : World} {g base : Nat} {v : Value} {ps : List (Value × Rg)} (hf : Fr w.heap.size g w w') (h : OwnD w base v ps) (hg : g < base) : OwnD w' base v ps :=
  ⟨hf.own h.1 hg, fun p hp => ⟨hf.ownS (h.2 p hp).1 hg, (h.2 p hp).2⟩⟩
theorem OwnD.alloc {w : World} {base : Nat} {v : Value} {ps : List (Value × Rg)} (h : OwnD w base v ps) (o : Obj) : OwnD (w.alloc o) base v ps :=
  ⟨World.ownsRow.alloc h.1 o, fun p hp => ⟨(h.2 p hp).1.alloc o, (h.2 p hp).2⟩⟩
theorem OwnD.mono {w : World} {base b : Nat} {v : Value} {ps : List (Value × Rg)} (h : OwnD w base v ps) (hb : b ≤ base) : OwnD w b v ps :=
  ⟨mono_own h.1 hb, fun p hp => ⟨(h.2 p hp).1.mono hb, (h.2 p hp).2⟩⟩
theorem OwnD.read {w : World} {base : Nat} {v : Value} {ps : List (Value × Rg)} (h : OwnD w base v ps) (hl : ps.length ≤ 1000) : LadR w w.heap.size v ps := by
  obtain ⟨A, c, rfl, hc, hr⟩ := own_form h.1
  refine ⟨A, c, rfl, hr, ⟨hc, by omega⟩, fun p hp => ?_⟩
  obtain ⟨h1, h2, h3, h4, h5⟩ := h.2 p hp
  exact ⟨h1.read (by omega) h2, by unfold rgFit fit64; omega⟩
/-- An expression's row is not the ladder's. -/
theorem ownS_grown {w w' : World} {base e s n : Nat} {v u : Value} {xs : List Value} {l : List Nd} (hu : OwnS w base u l) (h : w.ownsRow base e s v n xs) (he : (92 == e) = false) (hg : w.grownBy w' v.ownBlock) : OwnS w' base u l :=
  hu.kept fun k hk => hg.block k (hu.lt k hk).2 (by
    obtain ⟨g, off, cap, cur, rfl, h1, h2, h3⟩ := hu
    simp only [Value.ownBlock, Option.some.injEq] at hk
    subst hk
    rcases h.2 with ⟨rfl, _⟩ | ⟨g', cap', cur', rfl, _, hg', _⟩
    · simp [Value.ownBlock]
    · simp only [Value.ownBlock, ne_eq, Option.some.injEq]
      rintro rfl
      rw [h2] at hg'
      injection hg' with hg'
      injection hg' with _ e' _
      rw [e'] at he
      simp at he)
theorem OwnD.push {w w2 : World} {base : Nat} {v v2 : Value} {ps : List (Value × Rg)} {u : Value} {r : Rg} (h : OwnD w base v ps) (hu : OwnS w base u r.logic) (hr : smR r)
    (hO : w2.ownsRow base 58 3 v2 (ps.length + 1) (cellsR ps ++ cellsR [(u, r)])) (hg : w.grownBy w2 v.ownBlock) : OwnD w2 base v2 (ps ++ [(u, r)]) := by
  refine ⟨by rw [cellsR_append, List.length_append]; exact hO, fun p hp => ?_⟩
  rcases List.mem_append.1 hp with hp | hp
  · exact ⟨ownS_grown (h.2 p hp).1 h.1 rfl hg, (h.2 p hp).2⟩
  · obtain rfl := List.mem_singleton.1 hp
    exact ⟨ownS_grown hu h.1 rfl hg, hr⟩
theorem OwnD.twice {w w2 : World} {base : Nat} {v v2 : Value} {ps : List (Value × Rg)} (h : OwnD w base v ps)
    (hO : w2.ownsRow base 58 3 v2 (ps.length + ps.length) (cellsR ps ++ cellsR ps)) (hg : w.grownBy w2 v.ownBlock) : OwnD w2 base v2 (ps ++ ps) := by
  refine ⟨by rw [cellsR_append, List.length_append]; exact hO, fun p hp => ?_⟩
  have hp' : p ∈ ps := by rcases List.mem_append.1 hp with h | h <;> exact h
  exact ⟨ownS_grown (h.2 p hp').1 h.1 rfl hg, (h.2 p hp').2⟩
theorem one_rs {w : World} {base : Nat} {v : Value} {ps : List (Value × Rg)} (h : OwnD w base v ps) : ∀ u ∈ cellsR ps, u.oneCell' = true := by
  intro u hu
  unfold cellsR at hu
  obtain ⟨p, hp, hx⟩ := List.mem_flatMap.1 hu
  obtain ⟨g, off, cap, cur, e, -⟩ := (h.2 p hp).1
  simp at hx
  rcases hx with rfl | rfl | rfl
  · rw [e]; rfl
  · rfl
  · rfl
theorem Rd.newRD (w : World) (u : Value) (r : Rg) (t : TypeId) : Rd (w.alloc (.cells #[u, .int .i64 r.coil, .int .i64 r.kind] t)) (w.heap.size + 1) 3 (some ⟨w.heap.size, 0, none⟩) 1 (cellsR [(u, r)]) := by
  refine ⟨rfl, fun _ => ⟨_, rfl, Nat.lt_succ_self _, fun j v hj => ?_⟩⟩
  match j, hj with
  | 0, hj => simp [cellsR] at hj; subst hj; simp [Addr.add]
  | 1, hj => simp [cellsR] at hj; subst hj; simp [Addr.add]
  | 2, hj => simp [cellsR] at hj; subst hj; simp [Addr.add]
theorem one_rD (A : Option Addr) (n c : Nat) (r : Rg) : ∀ u ∈ cellsR [(.slice A n c, r)], u.oneCell' = true := by
  intro u hu; simp [cellsR] at hu; rcases hu with rfl | rfl | rfl <;> rfl
def LadPost (g P : Nat) (w : World) (e : Ending) (w' : World) : Prop :=
  ∃ v ps, e = .returned v ∧ OwnD w' w.heap.size v ps ∧ ps.length ≤ 24 ∧ Rdr w' g (P + 500) ∧ Fr w.heap.size g w w'
set_option maxHeartbeats 4000000 in
theorem ladder_any (g P : Nat) (n low bad : Int) (w : World) (hw : Rdr w g P) (hP : P + 1000 ≤ 1000000) (hn0 : 0 ≤ n) (hn : n ≤ 1000) (hl0 : 0 ≤ low) (hl : low ≤ n) (hb1 : -1000000 ≤ bad) (hb2 : bad ≤ 1000000) :
    Calls Try.prog 108 #[.pointer (some ⟨g, 0, none⟩), .int .i64 n, .int .i64 low, .int .i64 bad] w (LadPost g P w) := by
  have hgl := hw.lt
  go_enter Try.func108, Try.ntmps108
  have hR0 := hw.below ((Below.refl _ _).alloc (Nat.le_refl _) (.cells #[] 58))
  have hF0 := (Fr.refl w.heap.size g w).alloc (Nat.le_refl _) (.cells #[] 58)
  go_wp2_with fail
  refine (pick_any g P 7 _ hR0 (by omega) (by omega)).mono ?_
  rintro e w1 ⟨r1, rfl, hr1, hR1, hF1⟩
  have hO1 : OwnD w1 w.heap.size (.slice (some ⟨w.heap.size, 0, none⟩) 0 0) [] := ⟨hF1.own (own_lit0 (W := w) rfl (Nat.le_refl _)) hgl, by simp⟩
  replace hF1 := hF0.trans (hF1.mono (by simp))
  clear hR0 hF0 hw
  go_wp2_with fail
  go_loopw [9, 10] (fun o i wr => ∃ (k : Nat) (ps : List (Value × Rg)), k ≤ 6 ∧ i = .int .i64 k ∧ OwnD wr w.heap.size o ps ∧ ps.length + k ≤ 6 ∧ Rdr wr g (P + 1 + 60 * (6 - k)) ∧ Fr w.heap.size g w wr) (fun _ i _ => (intOf i).toNat)
  case atStart => exact ⟨r1.toNat, [], by omega, by simp; omega, hO1, by simp; omega, hR1.mono (by omega), hF1⟩
  case round =>
    clear hO1 hR1 hF1
    obtain ⟨k, ps, hk, rfl, hO, hps, hR, hF⟩ := hrel
    by_cases hk0 : k = 0
    · subst hk0
      replace hR := hR.mono (Q := P + 400) (by omega)
      obtain ⟨SA0, sc0, rfl, -, -⟩ := own_form hO.1
      go_wp2_with fail
      refine (odd_any g _ bad _ hR (by omega) hb2 hb1).mono ?_
      rintro e wp ⟨b, rfl, hb, hRp, hFp⟩
      have hOp := hFp.ownD hO hgl
      have hFpp := hF.trans (hFp.mono hF.size)
      clear hO hR hF hFp hb
      have hO := hOp
      have hR := hRp
      have hF := hFpp
      clear hOp hRp hFpp
      cases b
      · replace hR := hR.mono (Q := P + 470) (by omega)
        go_wp2_with fail
        refine (odd_any g _ bad _ hR (by omega) hb2 hb1).mono ?_
        rintro e wq ⟨b, rfl, hb, hRq, hFq⟩
        have hOq := hFq.ownD hO hgl
        have hFqq := hF.trans (hFq.mono hF.size)
        clear hO hR hF hFq hb
        have hO := hOq
        have hR := hRq
        have hF := hFqq
        clear hOq hRq hFqq
        cases b
        · go_wp2
          go_ret
          exact ⟨_, ps, rfl, hO, by omega, hR.mono (by omega), hF⟩
        · by_cases hz : ps.length = 0
          · obtain rfl := List.eq_nil_of_length_eq_zero hz
            go_wp2
            go_ret
            exact ⟨_, [], rfl, hO, by simp, hR.mono (by omega), hF⟩
          · have hz' : (0 : Int) < (ps.length : Int) := by omega
            have hz2 : decide (0 < ps.length) = true := decide_eq_true (by omega)
            go_wp2_with fail
            go_loopw [9] (fun o wx => ∃ qs : List (Value × Rg), OwnD wx w.heap.size o qs ∧ (1 ≤ qs.length ∧ qs.length ≤ 24) ∧ Rdr wx g (P + 500) ∧ Fr w.heap.size g w wx) (fun o _ => 24 - slLen o)
            case atStart => exact ⟨ps, hO, by omega, hR.mono (by omega), hF⟩
            case round =>
              clear hO hR hF hz hz' hz2 hps
              rename_i wx
              obtain ⟨qs, hO, hq, hR, hF⟩ := hrel
              have hsx := hF.size
              obtain ⟨SB, sb, rfl, -, hrd⟩ := own_form hO.1
              by_cases h12 : qs.length ≤ 12
              · go_wp2_with (at_builtin; refine wpl_append rfl _ _ 64 rfl elL2 (base := w.heap.size) rfl hO.1 rfl hrd (one_rs hO) ?_ ?_ ?_ ?_)
                · omega
                · omega
                · omega
                intro v4 w4 hown4 hg4 _
                have hlt := hO.1.lt
                have hT := hO.twice hown4 hg4
                have hF4 := hF.grown hg4 hsx (fun j hj => .inl (hlt j hj).1)
                have hR4 := hR.grown hg4 (fun j hj => by have := (hlt j hj).1; omega)
                have hll : (qs ++ qs).length = qs.length + qs.length := List.length_append
                obtain ⟨A4, c4, rfl, -, -⟩ := own_form hT.1
                have HT := Lib.hid hT
                have HLL := Lib.hid hll
                clear hown4 hg4 hT hO hR hF hrd hll
                go_wp2
                exact ⟨⟨_, HT.out, by rw [HLL.out]; omega, hR4, hF4⟩, by simp [slLen]; omega⟩
              · go_wp2
                go_ret
                exact ⟨_, qs, rfl, hO, by omega, hR, hF⟩
      · go_wp2_with fail
        refine (rung_any g _ n low 2 _ hR (by omega) hn0 hn hl0 hl (by omega) (by omega)).mono ?_
        rintro e wr2 ⟨u, r, rfl, hS, hsm, hR2, hF2⟩
        have hO2 := hF2.ownD hO hgl
        have hS2 := hS.mono (b' := w.heap.size) hF.size
        have hF22 := hF.trans (hF2.mono hF.size)
        have hs2 := hF22.size
        obtain ⟨Bu, ou, cu, rfl, -, -, -⟩ := hS2.form
        obtain ⟨lg, co, ki⟩ := r
        unfold rgV
        have hO3 := hO2.alloc (.cells #[.slice (some ⟨Bu, ou, none⟩) lg.length cu, .int .i64 co, .int .i64 ki] 58)
        have hS3 := hS2.alloc (.cells #[.slice (some ⟨Bu, ou, none⟩) lg.length cu, .int .i64 co, .int .i64 ki] 58)
        have HO3 := Lib.hid hO3
        have HS3 := Lib.hid hS3
        have HSM := Lib.hid hsm
        clear hO hR hF hS hF2 hO2 hS2 hO3 hS3 hsm
        go_wp2_with (at_builtin; refine wpl_append rfl _ _ 64 rfl elL2 (base := w.heap.size) rfl HO3.out.1 rfl (Rd.newRD _ _ ⟨lg, co, ki⟩ _) (one_rD _ _ _ _) ?_ ?_ ?_ ?_)
        · omega
        · omega
        · simp; omega
        intro v4 w4 hown4 hg4 _
        have hP4 := HO3.out.push (r := ⟨lg, co, ki⟩) HS3.out HSM.out hown4 hg4
        have hF4 : Fr w.heap.size g w w4 := (hF22.alloc hs2 _).grown hg4 (by simp; omega) (fun j hj => .inl (HO3.out.1.lt j hj).1)
        have hR4 := (hR2.below ((Below.refl _ _).alloc (Nat.le_refl _) (.cells #[.slice (some ⟨Bu, ou, none⟩) lg.length cu, .int .i64 co, .int .i64 ki] 58))).grown hg4 (fun j hj => by have := (HO3.out.1.lt j hj).1; omega)
        obtain ⟨A4, c4, rfl, -, -⟩ := own_form hP4.1
        clear hown4 hg4 hF22 hs2 hR2
        have hps2 : (ps ++ [((.slice (some ⟨Bu, ou, none⟩) lg.length cu : Value), (⟨lg, co, ki⟩ : Rg))]).length ≤ 7 := by rw [List.length_append]; simp; omega
        generalize ps ++ [((.slice (some ⟨Bu, ou, none⟩) lg.length cu : Value), (⟨lg, co, ki⟩ : Rg))] = ps2 at *
        have hO := hP4
        have hR := hR4.mono (Q := P + 470) (by omega)
        have hF := hF4
        clear hP4 hR4 hF4 hps
        go_wp2_with fail
        refine (odd_any g _ bad _ hR (by omega) hb2 hb1).mono ?_
        rintro e wq ⟨b, rfl, hb, hRq, hFq⟩
        have hOq := hFq.ownD hO hgl
        have hFqq := hF.trans (hFq.mono hF.size)
        clear hO hR hF hFq hb
        have hO := hOq
        have hR := hRq
        have hF := hFqq
        clear hOq hRq hFqq
        cases b
        · go_wp2
          go_ret
          exact ⟨_, ps2, rfl, hO, by omega, hR.mono (by omega), hF⟩
        · by_cases hz : ps2.length = 0
          · obtain rfl := List.eq_nil_of_length_eq_zero hz
            go_wp2
            go_ret
            exact ⟨_, [], rfl, hO, by simp, hR.mono (by omega), hF⟩
          · have hz' : (0 : Int) < (ps2.length : Int) := by omega
            have hz2 : decide (0 < ps2.length) = true := decide_eq_true (by omega)
            go_wp2_with fail
            go_loopw [9] (fun o wx => ∃ qs : List (Value × Rg), OwnD wx w.heap.size o qs ∧ (1 ≤ qs.length ∧ qs.length ≤ 24) ∧ Rdr wx g (P + 500) ∧ Fr w.heap.size g w wx) (fun o _ => 24 - slLen o)
            case atStart => exact ⟨ps2, hO, by omega, hR.mono (by omega), hF⟩
            case round =>
              clear hO hR hF hz hz' hz2 hps2
              rename_i wx
              obtain ⟨qs, hO, hq, hR, hF⟩ := hrel
              have hsx := hF.size
              obtain ⟨SB, sb, rfl, -, hrd⟩ := own_form hO.1
              by_cases h12 : qs.length ≤ 12
              · go_wp2_with (at_builtin; refine wpl_append rfl _ _ 64 rfl elL2 (base := w.heap.size) rfl hO.1 rfl hrd (one_rs hO) ?_ ?_ ?_ ?_)
                · omega
                · omega
                · omega
                intro v4 w4 hown4 hg4 _
                have hlt := hO.1.lt
                have hT := hO.twice hown4 hg4
                have hF4 := hF.grown hg4 hsx (fun j hj => .inl (hlt j hj).1)
                have hR4 := hR.grown hg4 (fun j hj => by have := (hlt j hj).1; omega)
                have hll : (qs ++ qs).length = qs.length + qs.length := List.length_append
                obtain ⟨A4, c4, rfl, -, -⟩ := own_form hT.1
                have HT := Lib.hid hT
                have HLL := Lib.hid hll
                clear hown4 hg4 hT hO hR hF hrd hll
                go_wp2
                exact ⟨⟨_, HT.out, by rw [HLL.out]; omega, hR4, hF4⟩, by simp [slLen]; omega⟩
              · go_wp2
                go_ret
                exact ⟨_, qs, rfl, hO, by omega, hR, hF⟩
    · by_cases hln : low < n
      · obtain ⟨k', rfl⟩ : ∃ k', k = k' + 1 := ⟨k - 1, by omega⟩
        obtain ⟨SA0, sc0, rfl, -, -⟩ := own_form hO.1
        have ik : (0 : Int) < (k' : Int) + 1 := by omega
        go_wp2_with fail
        refine (rung_any g _ n low 0 _ hR (by omega) hn0 hn hl0 hl (by omega) (by omega)).mono ?_
        rintro e wr2 ⟨u, r, rfl, hS, hsm, hR2, hF2⟩
        have hO2 := hF2.ownD hO hgl
        have hS2 := hS.mono (b' := w.heap.size) hF.size
        have hF22 := hF.trans (hF2.mono hF.size)
        have hs2 := hF22.size
        obtain ⟨Bu, ou, cu, rfl, -, -, -⟩ := hS2.form
        obtain ⟨lg, co, ki⟩ := r
        unfold rgV
        have hO3 := hO2.alloc (.cells #[.slice (some ⟨Bu, ou, none⟩) lg.length cu, .int .i64 co, .int .i64 ki] 58)
        have hS3 := hS2.alloc (.cells #[.slice (some ⟨Bu, ou, none⟩) lg.length cu, .int .i64 co, .int .i64 ki] 58)
        have HO3 := Lib.hid hO3
        have HS3 := Lib.hid hS3
        have HSM := Lib.hid hsm
        clear hO hR hF hS hF2 hO2 hS2 hO3 hS3 hsm
        go_wp2_with (at_builtin; refine wpl_append rfl _ _ 64 rfl elL2 (base := w.heap.size) rfl HO3.out.1 rfl (Rd.newRD _ _ ⟨lg, co, ki⟩ _) (one_rD _ _ _ _) ?_ ?_ ?_ ?_)
        · omega
        · omega
        · simp; omega
        intro v4 w4 hown4 hg4 _
        have hP4 := HO3.out.push (r := ⟨lg, co, ki⟩) HS3.out HSM.out hown4 hg4
        have hF4 : Fr w.heap.size g w w4 := (hF22.alloc hs2 _).grown hg4 (by simp; omega) (fun j hj => .inl (HO3.out.1.lt j hj).1)
        have hR4 := (hR2.below ((Below.refl _ _).alloc (Nat.le_refl _) (.cells #[.slice (some ⟨Bu, ou, none⟩) lg.length cu, .int .i64 co, .int .i64 ki] 58))).grown hg4 (fun j hj => by have := (HO3.out.1.lt j hj).1; omega)
        obtain ⟨A4, c4, rfl, -, -⟩ := own_form hP4.1
        clear hown4 hg4 hF22 hs2 hR2
        have HP4 := Lib.hid hP4
        have hll : (ps ++ [((.slice (some ⟨Bu, ou, none⟩) lg.length cu : Value), (⟨lg, co, ki⟩ : Rg))]).length = ps.length + 1 := by simp
        have HLL := Lib.hid hll
        clear hP4 hll
        go_wp2
        exact ⟨⟨k', _, by omega, by go_num, HP4.out, by rw [HLL.out]; omega, hR4.mono (by omega), hF4⟩, by simp [intOf]⟩
      · have ik : (0 : Int) < (k : Int) := by omega
        have hln' : n ≤ low := by omega
        replace hR := hR.mono (Q := P + 400) (by omega)
        obtain ⟨SA0, sc0, rfl, -, -⟩ := own_form hO.1
        go_wp2_with fail
        refine (odd_any g _ bad _ hR (by omega) hb2 hb1).mono ?_
        rintro e wp ⟨b, rfl, hb, hRp, hFp⟩
        have hOp := hFp.ownD hO hgl
        have hFpp := hF.trans (hFp.mono hF.size)
        clear hO hR hF hFp hb
        have hO := hOp
        have hR := hRp
        have hF := hFpp
        clear hOp hRp hFpp
        cases b
        · replace hR := hR.mono (Q := P + 470) (by omega)
          go_wp2_with fail
          refine (odd_any g _ bad _ hR (by omega) hb2 hb1).mono ?_
          rintro e wq ⟨b, rfl, hb, hRq, hFq⟩
          have hOq := hFq.ownD hO hgl
          have hFqq := hF.trans (hFq.mono hF.size)
          clear hO hR hF hFq hb
          have hO := hOq
          have hR := hRq
          have hF := hFqq
          clear hOq hRq hFqq
          cases b
          · go_wp2
            go_ret
            exact ⟨_, ps, rfl, hO, by omega, hR.mono (by omega), hF⟩
          · by_cases hz : ps.length = 0
            · obtain rfl := List.eq_nil_of_length_eq_zero hz
              go_wp2
              go_ret
              exact ⟨_, [], rfl, hO, by simp, hR.mono (by omega), hF⟩
            · have hz' : (0 : Int) < (ps.length : Int) := by omega
              have hz2 : decide (0 < ps.length) = true := decide_eq_true (by omega)
              go_wp2_with fail
              go_loopw [9] (fun o wx => ∃ qs : List (Value × Rg), OwnD wx w.heap.size o qs ∧ (1 ≤ qs.length ∧ qs.length ≤ 24) ∧ Rdr wx g (P + 500) ∧ Fr w.heap.size g w wx) (fun o _ => 24 - slLen o)
              case atStart => exact ⟨ps, hO, by omega, hR.mono (by omega), hF⟩
              case round =>
                clear hO hR hF hz hz' hz2 hps
                rename_i wx
                obtain ⟨qs, hO, hq, hR, hF⟩ := hrel
                have hsx := hF.size
                obtain ⟨SB, sb, rfl, -, hrd⟩ := own_form hO.1
                by_cases h12 : qs.length ≤ 12
                · go_wp2_with (at_builtin; refine wpl_append rfl _ _ 64 rfl elL2 (base := w.heap.size) rfl hO.1 rfl hrd (one_rs hO) ?_ ?_ ?_ ?_)
                  · omega
                  · omega
                  · omega
                  intro v4 w4 hown4 hg4 _
                  have hlt := hO.1.lt
                  have hT := hO.twice hown4 hg4
                  have hF4 := hF.grown hg4 hsx (fun j hj => .inl (hlt j hj).1)
                  have hR4 := hR.grown hg4 (fun j hj => by have := (hlt j hj).1; omega)
                  have hll : (qs ++ qs).length = qs.length + qs.length := List.length_append
                  obtain ⟨A4, c4, rfl, -, -⟩ := own_form hT.1
                  have HT := Lib.hid hT
                  have HLL := Lib.hid hll
                  clear hown4 hg4 hT hO hR hF hrd hll
                  go_wp2
                  exact ⟨⟨_, HT.out, by rw [HLL.out]; omega, hR4, hF4⟩, by simp [slLen]; omega⟩
                · go_wp2
                  go_ret
                  exact ⟨_, qs, rfl, hO, by omega, hR, hF⟩
        · go_wp2_with fail
          refine (rung_any g _ n low 2 _ hR (by omega) hn0 hn hl0 hl (by omega) (by omega)).mono ?_
          rintro e wr2 ⟨u, r, rfl, hS, hsm, hR2, hF2⟩
          have hO2 := hF2.ownD hO hgl
          have hS2 := hS.mono (b' := w.heap.size) hF.size
          have hF22 := hF.trans (hF2.mono hF.size)
          have hs2 := hF22.size
          obtain ⟨Bu, ou, cu, rfl, -, -, -⟩ := hS2.form
          obtain ⟨lg, co, ki⟩ := r
          unfold rgV
          have hO3 := hO2.alloc (.cells #[.slice (some ⟨Bu, ou, none⟩) lg.length cu, .int .i64 co, .int .i64 ki] 58)
          have hS3 := hS2.alloc (.cells #[.slice (some ⟨Bu, ou, none⟩) lg.length cu, .int .i64 co, .int .i64 ki] 58)
          have HO3 := Lib.hid hO3
          have HS3 := Lib.hid hS3
          have HSM := Lib.hid hsm
          clear hO hR hF hS hF2 hO2 hS2 hO3 hS3 hsm
          go_wp2_with (at_builtin; refine wpl_append rfl _ _ 64 rfl elL2 (base := w.heap.size) rfl HO3.out.1 rfl (Rd.newRD _ _ ⟨lg, co, ki⟩ _) (one_rD _ _ _ _) ?_ ?_ ?_ ?_)
          · omega
          · omega
          · simp; omega
          intro v4 w4 hown4 hg4 _
          have hP4 := HO3.out.push (r := ⟨lg, co, ki⟩) HS3.out HSM.out hown4 hg4
          have hF4 : Fr w.heap.size g w w4 := (hF22.alloc hs2 _).grown hg4 (by simp; omega) (fun j hj => .inl (HO3.out.1.lt j hj).1)
          have hR4 := (hR2.below ((Below.refl _ _).alloc (Nat.le_refl _) (.cells #[.slice (some ⟨Bu, ou, none⟩) lg.length cu, .int .i64 co, .int .i64 ki] 58))).grown hg4 (fun j hj => by have := (HO3.out.1.lt j hj).1; omega)
          obtain ⟨A4, c4, rfl, -, -⟩ := own_form hP4.1
          clear hown4 hg4 hF22 hs2 hR2
          have hps2 : (ps ++ [((.slice (some ⟨Bu, ou, none⟩) lg.length cu : Value), (⟨lg, co, ki⟩ : Rg))]).length ≤ 7 := by rw [List.length_append]; simp; omega
          generalize ps ++ [((.slice (some ⟨Bu, ou, none⟩) lg.length cu : Value), (⟨lg, co, ki⟩ : Rg))] = ps2 at *
          have hO := hP4
          have hR := hR4.mono (Q := P + 470) (by omega)
          have hF := hF4
          clear hP4 hR4 hF4 hps
          go_wp2_with fail
          refine (odd_any g _ bad _ hR (by omega) hb2 hb1).mono ?_
          rintro e wq ⟨b, rfl, hb, hRq, hFq⟩
          have hOq := hFq.ownD hO hgl
          have hFqq := hF.trans (hFq.mono hF.size)
          clear hO hR hF hFq hb
          have hO := hOq
          have hR := hRq
          have hF := hFqq
          clear hOq hRq hFqq
          cases b
          · go_wp2
            go_ret
            exact ⟨_, ps2, rfl, hO, by omega, hR.mono (by omega), hF⟩
          · by_cases hz : ps2.length = 0
            · obtain rfl := List.eq_nil_of_length_eq_zero hz
              go_wp2
              go_ret
              exact ⟨_, [], rfl, hO, by simp, hR.mono (by omega), hF⟩
            · have hz' : (0 : Int) < (ps2.length : Int) := by omega
              have hz2 : decide (0 < ps2.length) = true := decide_eq_true (by omega)
              go_wp2_with fail
              go_loopw [9] (fun o wx => ∃ qs : List (Value × Rg), OwnD wx w.heap.size o qs ∧ (1 ≤ qs.length ∧ qs.length ≤ 24) ∧ Rdr wx g (P + 500) ∧ Fr w.heap.size g w wx) (fun o _ => 24 - slLen o)
              case atStart => exact ⟨ps2, hO, by omega, hR.mono (by omega), hF⟩
              case round =>
                clear hO hR hF hz hz' hz2 hps2
                rename_i wx
                obtain ⟨qs, hO, hq, hR, hF⟩ := hrel
                have hsx := hF.size
                obtain ⟨SB, sb, rfl, -, hrd⟩ := own_form hO.1
                by_cases h12 : qs.length ≤ 12
                · go_wp2_with (at_builtin; refine wpl_append rfl _ _ 64 rfl elL2 (base := w.heap.size) rfl hO.1 rfl hrd (one_rs hO) ?_ ?_ ?_ ?_)
                  · omega
                  · omega
                  · omega
                  intro v4 w4 hown4 hg4 _
                  have hlt := hO.1.lt
                  have hT := hO.twice hown4 hg4
                  have hF4 := hF.grown hg4 hsx (fun j hj => .inl (hlt j hj).1)
                  have hR4 := hR.grown hg4 (fun j hj => by have := (hlt j hj).1; omega)
                  have hll : (qs ++ qs).length = qs.length + qs.length := List.length_append
                  obtain ⟨A4, c4, rfl, -, -⟩ := own_form hT.1
                  have HT := Lib.hid hT
                  have HLL := Lib.hid hll
                  clear hown4 hg4 hT hO hR hF hrd hll
                  go_wp2
                  exact ⟨⟨_, HT.out, by rw [HLL.out]; omega, hR4, hF4⟩, by simp [slLen]; omega⟩
                · go_wp2
                  go_ret
                  exact ⟨_, qs, rfl, hO, by omega, hR, hF⟩
end Go.Proofs.Ytoagnajljdbobaa
