/- Rungs: the contracts of the specification's functions that only read. -/
import Derived.Test.YtlpoeijjlkdceaaRm
import Derived.Test.YtlpoeijjlkdceaaSl
namespace Go.Proofs.Ytlpoeijjlkdceaa
open Go.RowKit
attribute [local go_sem ↓] Go.wp_at_zero Go.wp_at_succ

theorem rv_eq (r : Rg) (bits : Int) : rvalid r bits = (lvalid r.logic bits && (decide (0 ≤ r.coil) && (decide (r.coil < bits) && inB r.kind 1 3))) := rfl
set_option maxHeartbeats 400000 in
theorem sRungValid_any (v : Value) (r : Rg) (bits : Int) (w : World) (h : RungR w w.heap.size v r) :
    Calls Try.prog 20 #[v, .int .i64 bits] w fun e w' => e = .returned (.bool (rvalid r bits)) ∧ Below w.heap.size w w' := by
  obtain ⟨u, rfl, hn, hf⟩ := h
  have HN := Lib.hid (fun (w' : World) (hb : Below w.heap.size w w') => hn.below hb)
  obtain ⟨A, c, rfl, -⟩ := hn
  have HE := Lib.hid (rv_eq r bits)
  obtain ⟨lg, co, ki⟩ := r
  unfold rgV
  simp only at HN HE ⊢
  go_enter Try.func20, Try.ntmps20
  go_wp2_with fail
  refine (sLogicValid_any _ lg bits _ (HN.out _ ((Below.refl _ _).alloc (Nat.le_refl _) _))).mono ?_
  rintro e w1 ⟨rfl, hb1⟩
  obtain ⟨k0, f0, l0⟩ := kept hb1 w.heap.size (by simp)
  replace hb1 := ((Below.refl _ _).alloc (Nat.le_refl _) (.cells #[.slice A lg.length c, .int .i64 co, .int .i64 ki] 25)).trans (hb1.mono (by simp))
  generalize lvalid lg bits = V at *
  cases V
  · go_wp2
    go_ret
    exact ⟨ret_bool (by rw [HE.out]; rfl), hb1⟩
  · by_cases h0 : 0 ≤ co
    · by_cases h1 : co < bits
      · go_wp2_with fail
        refine (l1In_any ki 1 3 _).mono ?_
        rintro e w2 ⟨rfl, rfl⟩
        have HE2 := Lib.hid (show rvalid ⟨lg, co, ki⟩ bits = inB ki 1 3 by rw [HE.out]; simp [h0, h1])
        generalize inB ki 1 3 = q at *
        go_wp2
        go_ret
        exact ⟨ret_bool (by rw [HE2.out]), hb1⟩
      · have HE2 := Lib.hid (show rvalid ⟨lg, co, ki⟩ bits = false by rw [HE.out]; simp [h1])
        go_wp2
        go_ret
        exact ⟨ret_bool (by rw [HE2.out]), hb1⟩
    · have HE2 := Lib.hid (show rvalid ⟨lg, co, ki⟩ bits = false by rw [HE.out]; simp [h0])
      go_wp2
      go_ret
      exact ⟨ret_bool (by rw [HE2.out]), hb1⟩
theorem all_take_succ {α : Type} (f : α → Bool) (l : List α) (k : Nat) (h : k < l.length) : (l.take (k + 1)).all f = ((l.take k).all f && f l[k]) := by
  rw [List.take_succ_eq_append_getElem h, List.all_append]; simp
theorem all_take_false {α : Type} {f : α → Bool} {l : List α} {k : Nat} (h : k < l.length) (hf : f l[k] = false) : l.all f = false := by
  rw [List.all_eq_false]; exact ⟨l[k], List.getElem_mem h, by simp [hf]⟩
def lads (ps : List (Value × Rg)) : List Rg := ps.map (·.2)
theorem lads_all (ps : List (Value × Rg)) (bits : Int) : ((lads ps).all fun r => rvalid r bits) = ps.all fun p => rvalid p.2 bits := by unfold lads; rw [List.all_map]; rfl
theorem ladvalid_eq (ps : List (Value × Rg)) (bits : Int) : ladvalid (lads ps) bits = ((ps.all fun p => rvalid p.2 bits) && decide (ps.length ≤ 12)) := by
  unfold ladvalid; rw [lads_all]; simp [lads]
set_option maxHeartbeats 1000000 in
theorem sLadderValid_any (v : Value) (ps : List (Value × Rg)) (bits : Int) (w : World) (h : LadR w w.heap.size v ps) :
    Calls Try.prog 24 #[v, .int .i64 bits] w fun e w' => e = .returned (.bool (ladvalid (lads ps) bits)) ∧ Below w.heap.size w w' := by
  obtain ⟨A, c, rfl, hr, hl, h3⟩ := h
  have HE := Lib.hid (ladvalid_eq ps bits)
  have H3 := Lib.hid h3
  clear h3
  go_enter Try.func24, Try.ntmps24
  go_wp2_with fail
  go_loopw [5] (fun i wr => ∃ k : Nat, k ≤ ps.length ∧ i = .int .i64 k ∧ ((ps.take k).all fun p => rvalid p.2 bits) = true ∧ Below w.heap.size w wr) (fun i _ => ps.length - (intOf i).toNat)
  case atStart => exact ⟨0, by omega, rfl, by simp, Below.refl _ _⟩
  case round =>
    obtain ⟨k, hk, rfl, hal, hbr⟩ := hrel
    have hsz := hbr.size
    by_cases hlt : k < ps.length
    · obtain ⟨p, rfl, hpb, c0, c1, c2⟩ := hr.three hlt
      obtain ⟨hn, hf⟩ := H3.out ps[k] (List.getElem_mem hlt)
      have hS := Lib.hid (all_take_succ (fun p : Value × Rg => rvalid p.2 bits) ps k hlt)
      have hF := Lib.hid (fun (hf : rvalid ps[k].2 bits = false) => all_take_false (f := fun p : Value × Rg => rvalid p.2 bits) hlt hf)
      generalize ps[k] = x at c0 c1 c2 hn hf hS hF
      obtain ⟨u, r⟩ := x
      simp only at c0 c1 c2 hn hf hS hF
      have hR : RungR wr wr.heap.size (rgV u r) r := ⟨u, rfl, hn.keep (fun _ hp => hbr.cell hp) hsz, hf⟩
      have hlt' := hn
      obtain ⟨Au, cu, rfl, -⟩ := hlt'
      have g0 := (hbr.cell (p := p.add (k * 3)) (by rw [add_block]; exact hpb)).trans c0
      have g1 := (hbr.cell (p := ⟨(p.add (k * 3)).block, (p.add (k * 3)).off + 1, none⟩) (by show (p.add (k * 3)).block < _; rw [add_block]; exact hpb)).trans c1
      have g2 := (hbr.cell (p := ⟨(p.add (k * 3)).block, (p.add (k * 3)).off + 2, none⟩) (by show (p.add (k * 3)).block < _; rw [add_block]; exact hpb)).trans c2
      have hV := Lib.hid (sRungValid_any (rgV (.slice Au r.logic.length cu) r) r bits wr hR)
      obtain ⟨lg, co, ki⟩ := r
      unfold rgV at hV
      simp only at g0 g1 g2 hV
      have i1 : (k : Int) < (ps.length : Int) := by omega
      have Hal := Lib.hid hal
      clear c0 c1 c2 hn hf hR hr hal
      go_wp2_with fail
      refine hV.out.mono ?_
      rintro e w2 ⟨rfl, hb2⟩
      have hbr2 := hbr.trans (hb2.mono hsz)
      generalize rvalid ⟨lg, co, ki⟩ bits = V at *
      cases V
      · go_wp2
        go_ret
        exact ⟨ret_bool (by rw [HE.out, hF.out (by trivial)]; rfl), hbr2⟩
      · go_wp2
        exact ⟨⟨k + 1, by omega, by go_num, by rw [hS.out, Hal.out]; rfl, hbr2⟩, by simp [intOf]; omega⟩
    · obtain rfl : k = ps.length := by omega
      rw [List.take_length] at hal
      have HE2 := Lib.hid (show ladvalid (lads ps) bits = decide (ps.length ≤ 12) by rw [HE.out, hal]; rfl)
      clear hal
      go_wp2
      go_ret
      exact ⟨ret_bool (by rw [HE2.out]; simp; omega), hbr⟩
end Go.Proofs.Ytlpoeijjlkdceaa
