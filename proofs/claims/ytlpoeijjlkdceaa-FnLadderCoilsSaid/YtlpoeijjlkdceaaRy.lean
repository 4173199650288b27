/- Rungs: the specification's RungsIndependent. -/
import Derived.Test.YtlpoeijjlkdceaaRs
import Derived.Test.YtlpoeijjlkdceaaSq
namespace Go.Proofs.Ytlpoeijjlkdceaa
open Go.RowKit
attribute [local go_sem ↓] Go.wp_at_zero Go.wp_at_succ

theorem apart_eq (a b : Rg) : apart a b = (!(usedL a.logic).any (fun x => decide (x = b.coil)) && (!(usedL b.logic).any (fun x => decide (x = a.coil)) && decide (a.coil ≠ b.coil))) := by
  have e : ∀ (l : List Int) (c : Int), l.contains c = l.any fun x => decide (x = c) := fun l c => by
    rw [Bool.eq_iff_iff]; simp [List.any_eq_true]
  unfold apart; rw [e, e]
theorem any_take_false {l : List Int} {c : Int} {k : Nat} (h : k < l.length) (ht : (l.take k).any (fun x => decide (x = c)) = false) (hne : l[k] ≠ c) : (l.take (k + 1)).any (fun x => decide (x = c)) = false := by
  rw [List.take_succ_eq_append_getElem h, List.any_append, ht]; simp [hne]
theorem OwnI.rdR {w : World} {b n c : Nat} {A : Option Addr} {T : List Int} (h : OwnI w b (.slice A n c) T) (hn : n = T.length) : Rd w w.heap.size 1 A n (T.map (.int .i64)) := by
  obtain ⟨A', c', e, -, hr⟩ := own_form h
  injection e with e1 e2 e3
  subst hn
  rw [e1]
  exact hr
theorem used_fitR (l : List Nd) : ∀ x ∈ usedL l, 0 ≤ x ∧ x < 16 := by
  intro x hx
  have := (numsTo_mem (usedS l) 16 x).1 hx
  omega
set_option maxHeartbeats 1000000 in
theorem l3Apart_any (va vb : Value) (a b : Rg) (w : World) (ha : RungR w w.heap.size va a) (hb : RungR w w.heap.size vb b) :
    Calls Try.prog 91 #[va, vb] w fun e w' => e = .returned (.bool (apart a b)) ∧ Below w.heap.size w w' := by
  have HA := Lib.hid (fun (w' : World) (hb : Below w.heap.size w w') => ha.below hb)
  have HB := Lib.hid (fun (w' : World) (h : Below w.heap.size w w') => hb.below h)
  obtain ⟨ua, rfl, hna, hfa⟩ := ha
  obtain ⟨ub, rfl, hnb, hfb⟩ := hb
  have HNA := Lib.hid (fun (w' : World) (h : Below w.heap.size w w') => hna.below h)
  have HNB := Lib.hid (fun (w' : World) (h : Below w.heap.size w w') => hnb.below h)
  obtain ⟨Aa, ca, rfl, -⟩ := hna
  obtain ⟨Ab, cb, rfl, -⟩ := hnb
  have HE := Lib.hid (apart_eq a b)
  obtain ⟨la, coa, kia⟩ := a
  obtain ⟨lb, cob, kib⟩ := b
  unfold rgV
  simp only at HNA HNB HE ⊢
  have hua := used_len la
  have hub := used_len lb
  clear HA HB
  go_enter Try.func91, Try.ntmps91
  have a0 := blk_alloc (heap_alloc_new w (.cells #[.slice Aa la.length ca, .int .i64 coa, .int .i64 kia] 25)) (.cells #[.slice Ab lb.length cb, .int .i64 cob, .int .i64 kib] 25)
  have b0 := heap_alloc_new (w.alloc (.cells #[.slice Aa la.length ca, .int .i64 coa, .int .i64 kia] 25)) (.cells #[.slice Ab lb.length cb, .int .i64 cob, .int .i64 kib] 25)
  simp only [World.size_alloc] at b0
  have hw0 : Below w.heap.size w ((w.alloc (.cells #[.slice Aa la.length ca, .int .i64 coa, .int .i64 kia] 25)).alloc (.cells #[.slice Ab lb.length cb, .int .i64 cob, .int .i64 kib] 25)) := ((Below.refl _ _).alloc (Nat.le_refl _) _).alloc (by simp) _
  go_wp2_with fail
  refine (sUsedBits_any _ la _ (HNA.out _ hw0)).mono ?_
  rintro e w1 ⟨v1, rfl, hO1, hb1⟩
  have a1 := (hb1.block _ (blk_lt a0)).trans a0
  have b1 := (hb1.block _ (blk_lt b0)).trans b0
  have hw1 := hw0.trans (hb1.mono hw0.size)
  obtain ⟨A1, c1, rfl, -, -⟩ := own_form hO1
  obtain ⟨-, p1, -⟩ : True ∧ True ∧ True := ⟨trivial, trivial, trivial⟩
  have q1 := blk_cell a1 1
  have q2 := blk_cell b1 0
  have q3 := blk_cell b1 1
  simp at q1 q2 q3
  clear a0 b0 hw0
  go_wp2_with fail
  refine (sUsedBits_any _ lb _ (HNB.out _ hw1)).mono ?_
  rintro e w2 ⟨v2, rfl, hO2, hb2⟩
  have a2 := (hb2.block _ (blk_lt a1)).trans a1
  have b2 := (hb2.block _ (blk_lt b1)).trans b1
  have hw2 := hw1.trans (hb2.mono hw1.size)
  have hO1' : OwnI w2 _ (.slice A1 (usedL la).length c1) (usedL la) := own_below hO1 hb2
  obtain ⟨A2, c2, rfl, -, -⟩ := own_form hO2
  have g1 := OwnI.rdR hO1' rfl
  have g2 := OwnI.rdR hO2 rfl
  have r1 := blk_cell a2 1
  have r3 := blk_cell b2 1
  simp at r1 r3
  have hr1 := used_fitR la
  clear a1 b1 hO1 hO1' hO2 hb1 hb2 q1 q2 q3 hw1 p1
  generalize usedL la = X at *
  generalize usedL lb = Y at *
  go_wp2_with fail
  go_loopw [7] (fun i wr => ∃ k : Nat, k ≤ X.length ∧ i = .int .i64 k ∧ (X.take k).any (fun x => decide (x = cob)) = false ∧ Below w2.heap.size w2 wr) (fun i _ => X.length - (intOf i).toNat)
  case atStart => exact ⟨0, by omega, rfl, by simp, Below.refl _ _⟩
  case round =>
    obtain ⟨k, hk, rfl, hany, hbr⟩ := hrel
    have s3 := (hbr.cell (p := ⟨w.heap.size + 1, 1, none⟩) (blk_lt b2)).trans r3
    by_cases hlt : k < X.length
    · obtain ⟨p, u, rfl, hpb, hu, hc⟩ := g1.one hlt
      have hx : u = .int .i64 X[k] := by rw [List.getElem?_map, List.getElem?_eq_getElem hlt] at hu; simpa using hu.symm
      subst hx
      have s1 := (hbr.cell (p := p.add k) (by rw [add_block]; exact hpb)).trans hc
      have HT := Lib.hid (fun hne => any_take_false (c := cob) hlt hany hne)
      have HM := Lib.hid (List.getElem_mem hlt)
      have i1 : (k : Int) < (X.length : Int) := by omega
      generalize X[k] = x at s1 HT HM
      clear hu hc hany
      by_cases hx : x = cob
      · have hxx : (x == cob) = true := by simpa using hx
        have HF := Lib.hid (show X.any (fun y => decide (y = cob)) = true from List.any_eq_true.2 ⟨x, HM.out, by simpa using hx⟩)
        clear hx
        go_wp2
        go_quiet (fail)
        go_wp2
        go_ret
        exact ⟨ret_bool (by rw [HE.out]; rw [HF.out]; rfl), hw2.trans ((hbr.mono hw2.size).trans ⟨rfl, rfl, rfl, Nat.le_refl _, fun _ _ => rfl⟩)⟩
      · have hxx : (x == cob) = false := by simpa using hx
        have HT2 := Lib.hid (HT.out hx)
        clear hx
        go_wp2
        go_quiet (fail)
        go_wp2
        exact ⟨⟨k + 1, by omega, by go_num, HT2.out, by exact hbr.trans ⟨rfl, rfl, rfl, Nat.le_refl _, fun _ _ => rfl⟩⟩, by simp [intOf]; omega⟩
    · obtain rfl : k = X.length := by omega
      rw [List.take_length] at hany
      have HXF := Lib.hid hany
      obtain ⟨w3, rfl⟩ : ∃ w3, w3 = wr := ⟨_, rfl⟩
      have a3 := (hbr.block _ (blk_lt a2)).trans a2
      have b3 := (hbr.block _ (blk_lt b2)).trans b2
      have hw3 := hw2.trans (hbr.mono hw2.size)
      have g2' := g2.keep (B' := w3.heap.size) (fun _ hp => hbr.cell hp) hbr.size
      have r1' := blk_cell a3 1
      have r3' := blk_cell b3 1
      simp at r1' r3'
      clear hany g1 g2 a2 b2 hw2 r1 r3 s3 hbr
      go_wp2_with fail
      go_loopw [8] (fun i wr => ∃ k : Nat, k ≤ Y.length ∧ i = .int .i64 k ∧ (Y.take k).any (fun x => decide (x = coa)) = false ∧ Below w3.heap.size w3 wr) (fun i _ => Y.length - (intOf i).toNat)
      case atStart => exact ⟨0, by omega, rfl, by simp, Below.refl _ _⟩
      case round =>
        obtain ⟨k, hk, rfl, hany, hbr⟩ := hrel
        have s3 := (hbr.cell (p := ⟨w.heap.size, 1, none⟩) (blk_lt a3)).trans r1'
        by_cases hlt : k < Y.length
        · obtain ⟨p, u, rfl, hpb, hu, hc⟩ := g2'.one hlt
          have hx : u = .int .i64 Y[k] := by rw [List.getElem?_map, List.getElem?_eq_getElem hlt] at hu; simpa using hu.symm
          subst hx
          have s1 := (hbr.cell (p := p.add k) (by rw [add_block]; exact hpb)).trans hc
          have HT := Lib.hid (fun hne => any_take_false (c := coa) hlt hany hne)
          have HM := Lib.hid (List.getElem_mem hlt)
          have i1 : (k : Int) < (Y.length : Int) := by omega
          generalize Y[k] = x at s1 HT HM
          clear hu hc hany
          by_cases hx : x = coa
          · have hxx : (x == coa) = true := by simpa using hx
            have HF := Lib.hid (show Y.any (fun y => decide (y = coa)) = true from List.any_eq_true.2 ⟨x, HM.out, by simpa using hx⟩)
            clear hx
            go_wp2
            go_quiet (fail)
            go_wp2
            go_ret
            exact ⟨ret_bool (by rw [HE.out]; rw [HXF.out, HF.out]; rfl), hw3.trans ((hbr.mono hw3.size).trans ⟨rfl, rfl, rfl, Nat.le_refl _, fun _ _ => rfl⟩)⟩
          · have hxx : (x == coa) = false := by simpa using hx
            have HT2 := Lib.hid (HT.out hx)
            clear hx
            go_wp2
            go_quiet (fail)
            go_wp2
            exact ⟨⟨k + 1, by omega, by go_num, HT2.out, by exact hbr.trans ⟨rfl, rfl, rfl, Nat.le_refl _, fun _ _ => rfl⟩⟩, by simp [intOf]; omega⟩
        · obtain rfl : k = Y.length := by omega
          rw [List.take_length] at hany
          have s4 := (hbr.cell (p := ⟨w.heap.size + 1, 1, none⟩) (blk_lt b3)).trans r3'
          have HE2 := Lib.hid (show apart ⟨la, coa, kia⟩ ⟨lb, cob, kib⟩ = decide (coa ≠ cob) by rw [HE.out, HXF.out, hany]; rfl)
          clear hany
          by_cases hx : coa = cob
          · have hxx : (coa != cob) = false := by simpa using hx
            have HX := Lib.hid hx
            clear hx
            go_wp2
            go_ret
            exact ⟨ret_bool (by rw [HE2.out, HX.out]; simp), hw3.trans (hbr.mono hw3.size)⟩
          · have hxx : (coa != cob) = true := by simpa using hx
            have HX := Lib.hid hx
            clear hx
            go_wp2
            go_ret
            exact ⟨ret_bool (by rw [HE2.out]; simp [HX.out]), hw3.trans (hbr.mono hw3.size)⟩
theorem indep_eq (a b : Rg) : indep a b = (rvalid a 16 && (rvalid b 16 && apart a b)) := rfl
set_option maxHeartbeats 1000000 in
theorem sRungsIndependent_any (va vb : Value) (a b : Rg) (w : World) (ha : RungR w w.heap.size va a) (hb : RungR w w.heap.size vb b) :
    Calls Try.prog 41 #[va, vb] w fun e w' => e = .returned (.bool (indep a b)) ∧ Below w.heap.size w w' := by
  have HA := Lib.hid (fun (w' : World) (hb : Below w.heap.size w w') => ha.below hb)
  have HB := Lib.hid (fun (w' : World) (h : Below w.heap.size w w') => hb.below h)
  have HE := Lib.hid (indep_eq a b)
  obtain ⟨ua, rfl, hna, -⟩ := ha
  obtain ⟨ub, rfl, hnb, -⟩ := hb
  obtain ⟨Aa, ca, rfl, -⟩ := hna
  obtain ⟨Ab, cb, rfl, -⟩ := hnb
  obtain ⟨la, coa, kia⟩ := a
  obtain ⟨lb, cob, kib⟩ := b
  unfold rgV at *
  simp only at HA HB ⊢
  go_enter Try.func41, Try.ntmps41
  have a0 := blk_alloc (heap_alloc_new w (.cells #[.slice Aa la.length ca, .int .i64 coa, .int .i64 kia] 25)) (.cells #[.slice Ab lb.length cb, .int .i64 cob, .int .i64 kib] 25)
  have b0 := heap_alloc_new (w.alloc (.cells #[.slice Aa la.length ca, .int .i64 coa, .int .i64 kia] 25)) (.cells #[.slice Ab lb.length cb, .int .i64 cob, .int .i64 kib] 25)
  simp only [World.size_alloc] at b0
  have hw0 : Below w.heap.size w ((w.alloc (.cells #[.slice Aa la.length ca, .int .i64 coa, .int .i64 kia] 25)).alloc (.cells #[.slice Ab lb.length cb, .int .i64 cob, .int .i64 kib] 25)) := ((Below.refl _ _).alloc (Nat.le_refl _) _).alloc (by simp) _
  go_wp2_with fail
  refine (sRungValid_any _ ⟨la, coa, kia⟩ 16 _ (HA.out _ hw0)).mono ?_
  rintro e w1 ⟨rfl, hb1⟩
  have a1 := (hb1.block _ (blk_lt a0)).trans a0
  have b1 := (hb1.block _ (blk_lt b0)).trans b0
  replace hb1 := hw0.trans (hb1.mono hw0.size)
  have q0 := blk_cell a1 0
  have q1 := blk_cell a1 1
  have q2 := blk_cell a1 2
  have q3 := blk_cell b1 0
  have q4 := blk_cell b1 1
  have q5 := blk_cell b1 2
  simp at q0 q1 q2 q3 q4 q5
  clear a0 b0 hw0
  cases hv1 : rvalid ⟨la, coa, kia⟩ 16
  · have HE2 := Lib.hid (show indep ⟨la, coa, kia⟩ ⟨lb, cob, kib⟩ = false by rw [HE.out, hv1]; rfl)
    clear hv1
    go_wp2
    go_ret
    exact ⟨ret_bool HE2.out.symm, hb1⟩
  · have HV1 := Lib.hid hv1
    clear hv1
    go_wp2_with fail
    refine (sRungValid_any _ ⟨lb, cob, kib⟩ 16 _ (HB.out _ hb1)).mono ?_
    rintro e w2 ⟨rfl, hb2⟩
    have hb2' := hb1.trans (hb2.mono hb1.size)
    have a2 := (hb2.block _ (blk_lt a1)).trans a1
    have b2 := (hb2.block _ (blk_lt b1)).trans b1
    have r0 := blk_cell a2 0
    have r1 := blk_cell a2 1
    have r2 := blk_cell a2 2
    have r3 := blk_cell b2 0
    have r4 := blk_cell b2 1
    have r5 := blk_cell b2 2
    simp at r0 r1 r2 r3 r4 r5
    clear q0 q1 q2 q3 q4 q5
    cases hv2 : rvalid ⟨lb, cob, kib⟩ 16
    · have HE2 := Lib.hid (show indep ⟨la, coa, kia⟩ ⟨lb, cob, kib⟩ = false by rw [HE.out, HV1.out, hv2]; rfl)
      clear hv2
      go_wp2
      go_ret
      exact ⟨ret_bool HE2.out.symm, hb2'⟩
    · have HE2 := Lib.hid (show indep ⟨la, coa, kia⟩ ⟨lb, cob, kib⟩ = apart ⟨la, coa, kia⟩ ⟨lb, cob, kib⟩ by rw [HE.out, HV1.out, hv2]; rfl)
      clear hv2
      go_wp2_with fail
      refine (l3Apart_any _ _ ⟨la, coa, kia⟩ ⟨lb, cob, kib⟩ _ (HA.out _ hb2') (HB.out _ hb2')).mono ?_
      rintro e w3 ⟨rfl, hb3⟩
      go_wp2
      go_ret
      exact ⟨ret_bool HE2.out.symm, hb2'.trans (hb3.mono hb2'.size)⟩
end Go.Proofs.Ytlpoeijjlkdceaa
