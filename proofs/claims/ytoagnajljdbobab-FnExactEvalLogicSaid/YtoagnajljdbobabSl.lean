/- The specification's functions of chapter 2: validity and evaluation. -/
import Derived.Test.YtoagnajljdbobabNm
import Derived.WalkSmall
import Derived.StillTailTactics
namespace Go.Proofs.Ytoagnajljdbobab
open Go.RowKit

set_option maxHeartbeats 400000 in
theorem l2Need_any (op : Int) (w : World) :
    Calls Try.prog 28 #[.int .i64 op] w fun e w' => e = .returned (.int .i64 (need op)) ∧ Below w.heap.size w w' := by
  by_cases h : 1 ≤ op ∧ op ≤ 7
  · have h7 : op = 1 ∨ op = 2 ∨ op = 3 ∨ op = 4 ∨ op = 5 ∨ op = 6 ∨ op = 7 := by omega
    clear h
    rcases h7 with rfl | rfl | rfl | rfl | rfl | rfl | rfl
    all_goals
      go_enter Try.func28, Try.ntmps28
      go_wp2_with (go_at_call 27; refine (l1In_any _ _ _ _).mono ?_; rintro e w' ⟨rfl, rfl⟩)
      go_ret
      exact ⟨rfl, (Below.refl _ _).alloc (Nat.le_refl _) _⟩
  · have hN : need op = -1 := by unfold need; repeat' split
                                 all_goals omega
    have hI : inB op 1 7 = false := by unfold inB; simp; omega
    rw [hN]
    clear hN h
    go_enter Try.func28, Try.ntmps28
    go_wp2_with (go_at_call 27; refine (l1In_any _ _ _ _).mono ?_; rintro e w' ⟨rfl, rfl⟩)
    go_ret
    exact ⟨rfl, Below.refl _ _⟩
set_option maxHeartbeats 2000000 in
theorem sLogicValid_any (v : Value) (l : List Nd) (bits : Int) (w : World) (h : NodesR w w.heap.size v l) :
    Calls Try.prog 15 #[v, .int .i64 bits] w fun e w' => e = .returned (.bool (lvalid l bits)) ∧ Below w.heap.size w w' := by
  obtain ⟨A, c, rfl, hr, hl, hf⟩ := h
  go_enter Try.func15, Try.ntmps15
  go_wp2
  go_loopw [5, 6] (fun dv i wr => ∃ k d : Nat, k ≤ l.length ∧ d ≤ k ∧ i = .int .i64 k ∧ dv = .int .i64 d ∧ depOf bits (l.take k) 0 = some d ∧ Below w.heap.size w wr) (fun _ i _ => l.length - (intOf i).toNat)
  case atStart => exact ⟨0, 0, by omega, by omega, rfl, rfl, rfl, Below.refl _ _⟩
  case round =>
    obtain ⟨k, d, hk, hdk, rfl, rfl, hdep, hbr⟩ := hrel
    have Hd := Lib.hid hdep
    clear hdep
    have hsz := hbr.size
    by_cases hlt : k < l.length
    · obtain ⟨p, rfl, hpb, hc1, hc2⟩ := hr.two hlt
      obtain ⟨x, hx⟩ : ∃ x, x = l[k] := ⟨_, rfl⟩
      rw [← hx] at hc1 hc2
      have Hx := Lib.hid hx
      clear hx
      obtain ⟨op, bit⟩ := x
      have g1 := (hbr.cell (p := p.add (k * 2)) (by rw [add_block]; exact hpb)).trans hc1
      have g2 := (hbr.cell (p := ⟨(p.add (k * 2)).block, (p.add (k * 2)).off + 1, none⟩) (by show (p.add (k * 2)).block < _; rw [add_block]; exact hpb)).trans hc2
      clear hr hf
      have hn2 := need_le op
      go_wp2_with fail
      refine (l2Need_any op _).mono ?_
      rintro e w2 ⟨rfl, hb2⟩
      have hb3 := hbr.trans (hb2.mono (by omega))
      have g1' := (hb3.cell (p := p.add (k * 2)) (by rw [add_block]; exact hpb)).trans hc1
      have g2' := (hb3.cell (p := ⟨(p.add (k * 2)).block, (p.add (k * 2)).off + 1, none⟩) (by show (p.add (k * 2)).block < _; rw [add_block]; exact hpb)).trans hc2
      clear g1 g2 hc1 hc2
      by_cases hO : ndOK bits ⟨op, bit⟩ d = true
      · have HS := Lib.hid (depOf_step bits l k d hlt Hd.out (by rw [← Hx.out]; exact hO))
        have hN : 0 ≤ need op := by unfold ndOK at hO; simp at hO; exact hO.1.1
        have hD : need op ≤ (d : Int) := by unfold ndOK at hO; simp at hO; exact hO.2
        have hB : bitOK ⟨op, bit⟩ bits = true := by unfold ndOK at hO; simp at hO; exact hO.1.2
        clear hO
        by_cases h1 : op = 1
        · subst h1
          have hb0 : 0 ≤ bit := by unfold bitOK at hB; simp at hB; exact hB.1
          have hb1 : bit < bits := by unfold bitOK at hB; simp at hB; exact hB.2
          clear hB
          go_wp2
          go_roundw
          case rel => exact ⟨k + 1, d + 1 - (need 1).toNat, by omega, by omega, by go_num, by go_num, by have := HS.out; rw [← Hx.out] at this; exact this, hb3⟩
          case measure => simp [intOf]; omega
        · have e1 : (op == 1) = false := by simpa using h1
          have e2 : (op != 1) = true := by simpa using h1
          have hb0 : bit = 0 := by unfold bitOK at hB; simp [h1] at hB; exact hB
          subst hb0
          clear hB h1
          go_wp2
          go_roundw
          case rel => exact ⟨k + 1, d + 1 - (need op).toNat, by omega, by omega, by go_num, by go_num, by have := HS.out; rw [← Hx.out] at this; exact this, hb3⟩
          case measure => simp [intOf]; omega
      · have HS := Lib.hid (show lvalid l bits = false from lvalid_false_of_dep (depOf_stop bits l k d hlt Hd.out (by rw [← Hx.out]; simpa using hO)))
        by_cases hN : 0 ≤ need op
        · by_cases hD : need op ≤ (d : Int)
          · have hB : bitOK ⟨op, bit⟩ bits = false := by unfold ndOK at hO; simp [hN, hD] at hO; exact hO
            clear hO
            by_cases h1 : op = 1
            · subst h1
              by_cases hb0 : 0 ≤ bit
              · have hb1 : bits ≤ bit := by unfold bitOK at hB; simp [hb0] at hB; exact hB
                clear hB
                go_wp2
                go_ret
                exact ⟨ret_bool HS.out.symm, hb3⟩
              · clear hB
                go_wp2
                go_ret
                exact ⟨ret_bool HS.out.symm, hb3⟩
            · have e1 : (op == 1) = false := by simpa using h1
              have e2 : (op != 1) = true := by simpa using h1
              have hb0 : (bit != 0) = true := by unfold bitOK at hB; simp [h1] at hB; simpa using hB
              clear hB h1
              go_wp2
              go_ret
              exact ⟨ret_bool HS.out.symm, hb3⟩
          · clear hO
            go_wp2
            go_ret
            exact ⟨ret_bool HS.out.symm, hb3⟩
        · clear hO
          go_wp2
          go_ret
          exact ⟨ret_bool HS.out.symm, hb3⟩
    · obtain rfl : k = l.length := by omega
      by_cases h24 : l.length ≤ 24
      · by_cases hd1 : d = 1
        · have HS := Lib.hid (lvalid_true (l := l) (bits := bits) (by omega) (by have := Hd.out; rw [List.take_length] at this; rw [this, hd1]))
          subst hd1
          go_wp2
          go_ret
          exact ⟨ret_bool HS.out.symm, hbr⟩
        · have HS := Lib.hid (lvalid_false_of_dep1 (l := l) (bits := bits) (d := d) (by have := Hd.out; rwa [List.take_length] at this) hd1)
          have g1 : ((d : Int) == 1) = false := by rw [beq_eq_false_iff_ne]; omega
          go_wp2
          go_ret
          exact ⟨ret_bool HS.out.symm, hbr⟩
      · have HS := Lib.hid (lvalid_false_of_len (l := l) (bits := bits) (by omega))
        go_wp2
        go_ret
        exact ⟨ret_bool HS.out.symm, hbr⟩
end Go.Proofs.Ytoagnajljdbobab
