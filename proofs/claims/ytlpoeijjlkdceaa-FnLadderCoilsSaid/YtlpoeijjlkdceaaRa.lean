/- Rungs: the program's functions that only read: validity, coils, independence. -/
import Derived.Test.YtlpoeijjlkdceaaRs
import Derived.Test.YtlpoeijjlkdceaaIv
namespace Go.Proofs.Ytlpoeijjlkdceaa
open Go.RowKit
attribute [local go_sem ↓] Go.wp_at_zero Go.wp_at_succ

theorem kindKnown_any (ki : Int) (w : World) :
    Calls Try.prog 71 #[.int .i64 ki] w fun e w' => e = .returned (.bool (inB ki 1 3)) ∧ w = w' := by
  have hI : inB ki 1 3 = (decide (1 ≤ ki) && decide (ki ≤ 3)) := rfl
  by_cases h1 : ki = 1
  · subst h1
    go_enter Try.func71, Try.ntmps71
    go_wp2
    go_ret
    exact ⟨ret_bool (by decide), rfl⟩
  · by_cases h2 : ki = 2
    · subst h2
      go_enter Try.func71, Try.ntmps71
      go_wp2
      go_ret
      exact ⟨ret_bool (by decide), rfl⟩
    · by_cases h3 : ki = 3
      · subst h3
        go_enter Try.func71, Try.ntmps71
        go_wp2
        go_ret
        exact ⟨ret_bool (by decide), rfl⟩
      · have H := Lib.hid (show false = inB ki 1 3 by rw [hI]; simp; omega)
        have e1 : (ki == 1) = false := by simpa using h1
        have e2 : (ki == 2) = false := by simpa using h2
        have e3 : (ki == 3) = false := by simpa using h3
        clear h1 h2 h3 hI
        go_enter Try.func71, Try.ntmps71
        go_wp2
        go_ret
        exact ⟨ret_bool H.out, rfl⟩
set_option maxHeartbeats 400000 in
theorem iRungValid_any (v : Value) (r : Rg) (bits : Int) (w : World) (h : RungR w w.heap.size v r) :
    Calls Try.prog 19 #[v, .int .i64 bits] w fun e w' => e = .returned (.bool (rvalid r bits)) ∧ Below w.heap.size w w' := by
  obtain ⟨u, rfl, hn, hf⟩ := h
  have HN := Lib.hid (fun (w' : World) (hb : Below w.heap.size w w') => hn.below hb)
  obtain ⟨A, c, rfl, -⟩ := hn
  have HE := Lib.hid (rv_eq r bits)
  obtain ⟨lg, co, ki⟩ := r
  unfold rgV
  simp only at HN HE ⊢
  go_enter Try.func19, Try.ntmps19
  go_wp2_with fail
  refine (iLogicValid_any _ lg bits _ (HN.out _ ((Below.refl _ _).alloc (Nat.le_refl _) _))).mono ?_
  rintro e w1 ⟨rfl, hb1⟩
  obtain ⟨k0, f0, l0⟩ := kept hb1 w.heap.size (by simp)
  replace hb1 := ((Below.refl _ _).alloc (Nat.le_refl _) (.cells #[.slice A lg.length c, .int .i64 co, .int .i64 ki] 25)).trans (hb1.mono (by simp))
  generalize lvalid lg bits = V at *
  cases V
  · go_wp2
    go_ret
    exact ⟨ret_bool (by rw [HE.out]; rfl), hb1⟩
  · by_cases h0 : 0 ≤ co
    · by_cases h1 : co < bits
      · go_wp2_with fail
        refine (kindKnown_any ki _).mono ?_
        rintro e w2 ⟨rfl, rfl⟩
        have HE2 := Lib.hid (show rvalid ⟨lg, co, ki⟩ bits = inB ki 1 3 by rw [HE.out]; simp [h0, h1])
        generalize inB ki 1 3 = q at *
        go_wp2
        go_ret
        exact ⟨ret_bool (by rw [HE2.out]), hb1⟩
      · have HE2 := Lib.hid (show rvalid ⟨lg, co, ki⟩ bits = false by rw [HE.out]; simp [h1])
        go_wp2
        go_ret
        exact ⟨ret_bool (by rw [HE2.out]), hb1⟩
    · have HE2 := Lib.hid (show rvalid ⟨lg, co, ki⟩ bits = false by rw [HE.out]; simp [h0])
      go_wp2
      go_ret
      exact ⟨ret_bool (by rw [HE2.out]), hb1⟩
set_option maxHeartbeats 1000000 in
theorem iLadderValid_any (v : Value) (ps : List (Value × Rg)) (bits : Int) (w : World) (h : LadR w w.heap.size v ps) :
    Calls Try.prog 23 #[v, .int .i64 bits] w fun e w' => e = .returned (.bool (ladvalid (lads ps) bits)) ∧ Below w.heap.size w w' := by
  obtain ⟨A, c, rfl, hr, hl, h3⟩ := h
  have HE := Lib.hid (ladvalid_eq ps bits)
  have H3 := Lib.hid h3
  clear h3
  by_cases h12 : 12 < ps.length
  · have HE2 := Lib.hid (show ladvalid (lads ps) bits = false by rw [HE.out, decide_eq_false (by omega)]; simp)
    have i12 : (12 : Int) < (ps.length : Int) := by omega
    clear hr
    go_enter Try.func23, Try.ntmps23
    go_wp2
    go_ret
    exact ⟨ret_bool (by rw [HE2.out]), Below.refl _ _⟩
  · have HE1 := Lib.hid (show ladvalid (lads ps) bits = ps.all fun p => rvalid p.2 bits by rw [HE.out, decide_eq_true (by omega)]; simp)
    have i12 : (ps.length : Int) ≤ 12 := by omega
    go_enter Try.func23, Try.ntmps23
    go_wp2_with fail
    go_loopw [12] (fun i wr => ∃ k : Nat, k ≤ ps.length ∧ i = .int .i64 k ∧ ((ps.take k).all fun p => rvalid p.2 bits) = true ∧ Below w.heap.size w wr) (fun i _ => ps.length - (intOf i).toNat)
    case atStart => exact ⟨0, by omega, rfl, by simp, Below.refl _ _⟩
    case round =>
      obtain ⟨k, hk, rfl, hal, hbr⟩ := hrel
      have hsz := hbr.size
      by_cases hlt : k < ps.length
      · obtain ⟨p, rfl, hpb, c0, c1, c2⟩ := hr.three hlt
        obtain ⟨hn, hf⟩ := H3.out ps[k] (List.getElem_mem hlt)
        have hS := Lib.hid (all_take_succ (fun p : Value × Rg => rvalid p.2 bits) ps k hlt)
        have hF := Lib.hid (fun (hf : rvalid ps[k].2 bits = false) => all_take_false (f := fun p : Value × Rg => rvalid p.2 bits) hlt hf)
        generalize ps[k] = x at c0 c1 c2 hn hf hS hF
        obtain ⟨u, r⟩ := x
        simp only at c0 c1 c2 hn hf hS hF
        have hR : ∀ o, RungR (wr.alloc o) (wr.alloc o).heap.size (rgV u r) r := fun o => ⟨u, rfl, hn.keep (fun _ hp => (hbr.alloc hsz o).cell hp) (by simp; omega), hf⟩
        have hlt' := hn
        obtain ⟨Au, cu, rfl, -⟩ := hlt'
        have g0 := (hbr.cell (p := p.add (k * 3)) (by rw [add_block]; exact hpb)).trans c0
        have g1 := (hbr.cell (p := ⟨(p.add (k * 3)).block, (p.add (k * 3)).off + 1, none⟩) (by show (p.add (k * 3)).block < _; rw [add_block]; exact hpb)).trans c1
        have g2 := (hbr.cell (p := ⟨(p.add (k * 3)).block, (p.add (k * 3)).off + 2, none⟩) (by show (p.add (k * 3)).block < _; rw [add_block]; exact hpb)).trans c2
        have hV := Lib.hid (fun o => iRungValid_any (rgV (.slice Au r.logic.length cu) r) r bits (wr.alloc o) (hR o))
        obtain ⟨lg, co, ki⟩ := r
        unfold rgV at hV
        simp only at g0 g1 g2 hV
        have i1 : (k : Int) < (ps.length : Int) := by omega
        have Hal := Lib.hid hal
        clear c0 c1 c2 hn hf hR hr hal
        go_wp2_with fail
        refine (hV.out _).mono ?_
        rintro e w2 ⟨rfl, hb2⟩
        have hbr2 := (hbr.alloc hsz (.cells #[.slice Au lg.length cu, .int .i64 co, .int .i64 ki] 25)).trans (hb2.mono (by simp; omega))
        generalize rvalid ⟨lg, co, ki⟩ bits = V at *
        cases V
        · go_wp2
          go_ret
          exact ⟨ret_bool (by rw [HE1.out, hF.out (by trivial)]), hbr2⟩
        · go_wp2
          exact ⟨⟨k + 1, by omega, by go_num, by rw [hS.out, Hal.out]; rfl, hbr2⟩, by simp [intOf]; omega⟩
      · obtain rfl : k = ps.length := by omega
        rw [List.take_length] at hal
        have HE2 := Lib.hid (show ladvalid (lads ps) bits = true by rw [HE1.out, hal])
        clear hal
        go_wp2
        go_ret
        exact ⟨ret_bool (by rw [HE2.out]), hbr⟩
end Go.Proofs.Ytlpoeijjlkdceaa
