/- Rungs: the program's RungsIndependent. -/
import Derived.Test.YtlpoeijjlkdceaaRb
namespace Go.Proofs.Ytlpoeijjlkdceaa
open Go.RowKit
attribute [local go_sem ↓] Go.wp_at_zero Go.wp_at_succ

theorem coilS_inj {a b : Int} (ha : 0 ≤ a ∧ a < 16) (_hb : 0 ≤ b ∧ b < 16) : coilS a = coilS b ↔ a = b := by
  refine ⟨fun h => ?_, fun h => by rw [h]⟩
  have h1 := coilS_bit a a.toNat (by omega)
  rw [h, coilS_bit b a.toNat (by omega), decide_eq_true (show a = (a.toNat : Int) by omega)] at h1
  simp at h1; omega
theorem and_coil {U : Nat} {c : Int} (hc : 0 ≤ c ∧ c < 16) : U &&& coilS c = 0 ↔ U.testBit c.toNat = false := by
  constructor
  · intro h
    have h1 : (U &&& coilS c).testBit c.toNat = false := by rw [h]; simp
    rw [Nat.testBit_and, coilS_bit c c.toNat (by omega), decide_eq_true (show c = (c.toNat : Int) by omega), Bool.and_true] at h1
    exact h1
  · intro h
    apply Nat.eq_of_testBit_eq
    intro i
    rw [Nat.testBit_and, Nat.zero_testBit]
    by_cases hi : i < 16
    · rw [coilS_bit c i hi]
      by_cases e : c = (i : Int)
      · have : i = c.toNat := by omega
        rw [this, h]; rfl
      · rw [decide_eq_false e, Bool.and_false]
    · rw [Nat.testBit_lt_two_pow (x := coilS c) (Nat.lt_of_lt_of_le (coilS_lt c) (by have : 2 ^ 16 ≤ 2 ^ i := Nat.pow_le_pow_right (by omega) (by omega); omega)), Bool.and_false]
theorem used_has {l : List Nd} {c : Int} (hc : 0 ≤ c ∧ c < 16) : (usedL l).contains c = (usedS l).testBit c.toNat := by
  rw [Bool.eq_iff_iff, List.contains_iff_mem]
  unfold usedL
  rw [mem_numsTo]
  exact ⟨fun ⟨k, _, h2, h3⟩ => by rw [show c.toNat = k by omega]; exact h2, fun h => ⟨c.toNat, by omega, h, by omega⟩⟩
theorem apart_set {a b : Rg} (ha : rvalid a 16 = true) (hb : rvalid b 16 = true) :
    apart a b = (decide (coilS a.coil ≠ coilS b.coil) && (decide (usedS a.logic &&& coilS b.coil = 0) && decide (usedS b.logic &&& coilS a.coil = 0))) := by
  have h1 := (rvalid_parts ha).2.1
  have h2 := (rvalid_parts hb).2.1
  unfold apart
  rw [used_has h2, used_has h1, Bool.eq_iff_iff]
  simp only [Bool.and_eq_true, Bool.not_eq_true', decide_eq_true_eq, and_coil h1, and_coil h2, ne_eq, coilS_inj h1 h2]
  exact ⟨fun ⟨x, y, z⟩ => ⟨z, x, y⟩, fun ⟨z, x, y⟩ => ⟨x, y, z⟩⟩
def CoilP (co : Int) (w : World) (e : Ending) (w' : World) : Prop := e = .returned (.int .u16 (coilS co)) ∧ Below w.heap.size w w'
theorem coilSet_b (A : Option Addr) (n c : Nat) (co ki : Int) (w : World) :
    Calls Try.prog 88 #[.agg #[.slice A n c, .int .i64 co, .int .i64 ki]] w (CoilP co w) :=
  (coilSet_any A n c co ki w).mono fun e w' ⟨h1, h2⟩ => ⟨h1, by subst h2; exact (Below.refl _ _).alloc (Nat.le_refl _) _⟩
theorem blk3k {w : World} {k t : Nat} {x y z : Value} (h : w.heap[k]? = some (.cells #[x, y, z] t (0, 0))) :
    w.cell? ⟨k, 0, none⟩ = some x ∧ w.cell? ⟨k, 1, none⟩ = some y ∧ w.cell? ⟨k, 2, none⟩ = some z :=
  ⟨blk_cell h 0, blk_cell h 1, blk_cell h 2⟩
set_option maxHeartbeats 2000000 in
theorem iRungsIndependent_any (va vb : Value) (a b : Rg) (w : World) (ha : RungR w w.heap.size va a) (hb : RungR w w.heap.size vb b) :
    Calls Try.prog 40 #[va, vb] w fun e w' => e = .returned (.bool (indep a b)) ∧ Below w.heap.size w w' := by
  have HA := Lib.hid (fun (w' : World) (hb : Below w.heap.size w w') => ha.below hb)
  have HB := Lib.hid (fun (w' : World) (hb' : Below w.heap.size w w') => hb.below hb')
  obtain ⟨ua, rfl, hna, -⟩ := ha
  obtain ⟨ub, rfl, hnb, -⟩ := hb
  have NA := Lib.hid (fun (w' : World) (hb : Below w.heap.size w w') => hna.below hb)
  have NB := Lib.hid (fun (w' : World) (hb : Below w.heap.size w w') => hnb.below hb)
  obtain ⟨A1, c1, rfl, -⟩ := hna
  obtain ⟨A2, c2, rfl, -⟩ := hnb
  have HE := Lib.hid (show indep a b = (rvalid a 16 && (rvalid b 16 && apart a b)) from rfl)
  have HS := Lib.hid (fun (ha : rvalid a 16 = true) (hb : rvalid b 16 = true) => apart_set ha hb)
  obtain ⟨lg, co, ki⟩ := a
  obtain ⟨lg2, co2, ki2⟩ := b
  unfold rgV at *
  simp only at HA HB NA NB HE HS ⊢
  go_enter Try.func40, Try.ntmps40
  go_wp2_with fail
  refine (iRungValid_any _ ⟨lg, co, ki⟩ 16 _ (HA.out _ (((Below.refl _ _).alloc (Nat.le_refl _) _).alloc (by simp) _))).mono ?_
  rintro e w1 ⟨rfl, hb1⟩
  have m0 := blk_alloc (heap_alloc_new w (.cells #[.slice A1 lg.length c1, .int .i64 co, .int .i64 ki] 25)) (.cells #[.slice A2 lg2.length c2, .int .i64 co2, .int .i64 ki2] 25)
  have r0 := heap_alloc_new (w.alloc (.cells #[.slice A1 lg.length c1, .int .i64 co, .int .i64 ki] 25)) (.cells #[.slice A2 lg2.length c2, .int .i64 co2, .int .i64 ki2] 25)
  simp only [World.size_alloc] at r0
  have m1 := (hb1.block _ (blk_lt m0)).trans m0
  have r1 := (hb1.block _ (blk_lt r0)).trans r0
  have b1 : Below w.heap.size w w1 := (((Below.refl _ _).alloc (Nat.le_refl _) _).alloc (by simp) _).trans (hb1.mono (by simp; omega))
  clear m0 r0 hb1
  obtain ⟨a0, a1, a2⟩ := blk3k m1
  obtain ⟨e0, e1, e2⟩ := blk3k r1
  have M1 := Lib.hid m1
  have R1 := Lib.hid r1
  clear m1 r1
  cases hv : rvalid ⟨lg, co, ki⟩ 16
  · have HZ := Lib.hid (show indep ⟨lg, co, ki⟩ ⟨lg2, co2, ki2⟩ = false by rw [HE.out, hv]; rfl)
    go_wp2
    go_ret
    exact ⟨ret_bool HZ.out.symm, b1⟩
  · have HV := Lib.hid hv
    go_wp2_with fail
    refine (iRungValid_any _ ⟨lg2, co2, ki2⟩ 16 _ (HB.out _ b1)).mono ?_
    rintro e w2 ⟨rfl, hb2⟩
    have m2 := (hb2.block _ (blk_lt M1.out)).trans M1.out
    have r2 := (hb2.block _ (blk_lt R1.out)).trans R1.out
    have b2 := b1.trans (hb2.mono b1.size)
    clear a0 a1 a2 e0 e1 e2 hb2 M1 R1
    obtain ⟨a0, a1, a2⟩ := blk3k m2
    obtain ⟨e0, e1, e2⟩ := blk3k r2
    have M2 := Lib.hid m2
    have R2 := Lib.hid r2
    clear m2 r2
    cases hv2 : rvalid ⟨lg2, co2, ki2⟩ 16
    · have HZ := Lib.hid (show indep ⟨lg, co, ki⟩ ⟨lg2, co2, ki2⟩ = false by rw [HE.out, hv2]; simp)
      go_wp2
      go_ret
      exact ⟨ret_bool HZ.out.symm, b2⟩
    · have HZ := Lib.hid (show indep ⟨lg, co, ki⟩ ⟨lg2, co2, ki2⟩ = _ by rw [HE.out, hv2, HV.out, HS.out HV.out hv2, Bool.true_and, Bool.true_and])
      clear hv hv2
      have D2 : Below w2.heap.size w2 w2.drew := (Below.refl _ _).drew
      go_wp2_with fail
      go_region_held3 (fun w' => (w'.cell? ⟨w.heap.size, 0, none⟩ = some (.slice A1 lg.length c1) ∧ w'.cell? ⟨w.heap.size, 1, none⟩ = some (.int .i64 co) ∧ w'.cell? ⟨w.heap.size, 2, none⟩ = some (.int .i64 ki)) ∧ (w'.cell? ⟨w.heap.size + 1, 0, none⟩ = some (.slice A2 lg2.length c2) ∧ w'.cell? ⟨w.heap.size + 1, 1, none⟩ = some (.int .i64 co2) ∧ w'.cell? ⟨w.heap.size + 1, 2, none⟩ = some (.int .i64 ki2))) (first | go_keep)
        (first
          | (go_at_call 88; have tell := b3; (with_reducible refine (coilSet_b A2 lg2.length c2 co2 ki2 _).mono ?_); rintro e w4 ⟨rfl, hb4⟩; have m4 := (hb4.block _ (blk_lt m3)).trans m3; have r4 := (hb4.block _ (blk_lt r3)).trans r3; have b4 := b3.trans (hb4.mono b3.size); obtain ⟨a0, a1, a2⟩ := blk3k m4; obtain ⟨e0, e1, e2⟩ := blk3k r4)
          | (go_at_call 88; (with_reducible refine (coilSet_b A1 lg.length c1 co ki _).mono ?_); rintro e w3 ⟨rfl, hb3⟩; have m3 := (hb3.block _ (blk_lt M2.out)).trans M2.out; have r3 := (hb3.block _ (blk_lt R2.out)).trans R2.out; have b3 := (b2.drew).trans (hb3.mono b2.size); obtain ⟨a0, a1, a2⟩ := blk3k m3; obtain ⟨e0, e1, e2⟩ := blk3k r3))
      have M4 := Lib.hid m4
      have R4 := Lib.hid r4
      have hX := coilS_lt co
      have hY := coilS_lt co2
      have hU := usedS_lt lg
      have hV := usedS_lt lg2
      have UA := Lib.hid (usedSet_any _ lg _ (NA.out _ b4))
      have UB := Lib.hid (fun (W : World) (hb : Below w.heap.size w W) => usedSet_any _ lg2 W (NB.out _ hb))
      clear m3 r3 m4 r4 tell
      generalize coilS co = X at *
      generalize coilS co2 = Y at *
      generalize usedS lg = U at *
      generalize usedS lg2 = V at *
      have EA := u16_and_nat U Y hU hY
      have EB := u16_and_nat V X hV hX
      by_cases hxy : X = Y
      · have HF := Lib.hid (show indep ⟨lg, co, ki⟩ ⟨lg2, co2, ki2⟩ = false by rw [HZ.out, decide_eq_false (by simpa using hxy)]; rfl)
        have e1 : ((X : Int) != (Y : Int)) = false := by simp [hxy]
        clear hxy EA EB
        go_wp2
        go_ret
        exact ⟨ret_bool HF.out.symm, b4⟩
      · have e1 : ((X : Int) != (Y : Int)) = true := by simp; omega
        by_cases hu : U &&& Y = 0
        · have e2 : (bits .and .u16 (U : Int) (Y : Int) == 0) = true := by rw [EA, hu]; rfl
          by_cases hv : V &&& X = 0
          · have HF := Lib.hid (show indep ⟨lg, co, ki⟩ ⟨lg2, co2, ki2⟩ = true by rw [HZ.out, decide_eq_true hxy, decide_eq_true hu, decide_eq_true hv]; rfl)
            have e3 : (bits .and .u16 (V : Int) (X : Int) == 0) = true := by rw [EB, hv]; rfl
            clear hxy hu hv EA EB
            go_wp2_with fail
            refine UA.out.mono ?_
            rintro e w5 ⟨rfl, hb5⟩
            have b5 := b4.trans (hb5.mono b4.size)
            have r5 := (hb5.block _ (blk_lt R4.out)).trans R4.out
            obtain ⟨x0, x1, x2⟩ := blk3k r5
            clear r5
            go_wp2_with fail
            refine (UB.out _ b5).mono ?_
            rintro e w6 ⟨rfl, hb6⟩
            go_wp2
            go_ret
            exact ⟨ret_bool HF.out.symm, b5.trans (hb6.mono b5.size)⟩
          · have HF := Lib.hid (show indep ⟨lg, co, ki⟩ ⟨lg2, co2, ki2⟩ = false by rw [HZ.out, decide_eq_false hv]; simp)
            have e3 : (bits .and .u16 (V : Int) (X : Int) == 0) = false := by rw [EB]; simp; omega
            clear hxy hu hv EA EB
            go_wp2_with fail
            refine UA.out.mono ?_
            rintro e w5 ⟨rfl, hb5⟩
            have b5 := b4.trans (hb5.mono b4.size)
            have r5 := (hb5.block _ (blk_lt R4.out)).trans R4.out
            obtain ⟨x0, x1, x2⟩ := blk3k r5
            clear r5
            go_wp2_with fail
            refine (UB.out _ b5).mono ?_
            rintro e w6 ⟨rfl, hb6⟩
            go_wp2
            go_ret
            exact ⟨ret_bool HF.out.symm, b5.trans (hb6.mono b5.size)⟩
        · have HF := Lib.hid (show indep ⟨lg, co, ki⟩ ⟨lg2, co2, ki2⟩ = false by rw [HZ.out, decide_eq_false hu]; simp)
          have e2 : (bits .and .u16 (U : Int) (Y : Int) == 0) = false := by rw [EA]; simp; omega
          clear hxy hu EA EB
          go_wp2_with fail
          refine UA.out.mono ?_
          rintro e w5 ⟨rfl, hb5⟩
          go_wp2
          go_ret
          exact ⟨ret_bool HF.out.symm, b4.trans (hb5.mono b4.size)⟩
end Go.Proofs.Ytlpoeijjlkdceaa
