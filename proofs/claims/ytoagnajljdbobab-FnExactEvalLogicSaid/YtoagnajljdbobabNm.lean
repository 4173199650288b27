/- Lists of expression elements in memory. -/
import Derived.Test.YtoagnajljdbobabB
import Derived.Test.YtoagnajljdbobabLgP
namespace Go.Proofs.Ytoagnajljdbobab
open Go.RowKit

def cellsN (l : List Nd) : List Value := l.flatMap fun x => [.int .i64 x.op, .int .i64 x.bit]
theorem cellsN_cons (x : Nd) (l : List Nd) : cellsN (x :: l) = .int .i64 x.op :: .int .i64 x.bit :: cellsN l := rfl
theorem cellsN_append (a b : List Nd) : cellsN (a ++ b) = cellsN a ++ cellsN b := by simp [cellsN]
theorem cellsN_length (l : List Nd) : (cellsN l).length = l.length * 2 := by
  induction l with
  | nil => rfl
  | cons x l ih => rw [cellsN_cons]; simp [ih]; omega
theorem cellsN_op (l : List Nd) (k : Nat) (h : k < l.length) : (cellsN l)[k * 2]? = some (.int .i64 l[k].op) := by
  induction l generalizing k with
  | nil => simp at h
  | cons x l ih =>
    cases k with
    | zero => rfl
    | succ k =>
      rw [cellsN_cons, show (k + 1) * 2 = k * 2 + 1 + 1 by omega]
      simp only [List.getElem?_cons_succ, List.getElem_cons_succ]
      exact ih k (by simpa using h)
theorem cellsN_bit (l : List Nd) (k : Nat) (h : k < l.length) : (cellsN l)[k * 2 + 1]? = some (.int .i64 l[k].bit) := by
  induction l generalizing k with
  | nil => simp at h
  | cons x l ih =>
    cases k with
    | zero => rfl
    | succ k =>
      rw [cellsN_cons, show (k + 1) * 2 + 1 = k * 2 + 1 + 1 + 1 by omega]
      simp only [List.getElem?_cons_succ, List.getElem_cons_succ]
      exact ih k (by simpa using h)
theorem one_n (l : List Nd) : ∀ u ∈ cellsN l, u.oneCell' = true := by
  intro u hu
  unfold cellsN at hu
  obtain ⟨x, _, hx⟩ := List.mem_flatMap.1 hu
  simp at hx
  rcases hx with rfl | rfl <;> rfl
def ndFit (x : Nd) : Prop := (-9223372036854775808 ≤ x.op ∧ x.op ≤ 9223372036854775807) ∧ (-9223372036854775808 ≤ x.bit ∧ x.bit ≤ 9223372036854775807)
/-- A slice of elements, as a value. -/
def NodesR (w : World) (B : Nat) (v : Value) (l : List Nd) : Prop := ∃ A c, v = .slice A l.length c ∧ Rd w B 2 A l.length (cellsN l) ∧ (l.length ≤ c ∧ l.length ≤ 8796093022208) ∧ ∀ x ∈ l, ndFit x
theorem NodesR.keep {w w' : World} {B B' : Nat} {v : Value} {l : List Nd} (h : NodesR w B v l) (hk : ∀ p : Addr, p.block < B → w'.cell? p = w.cell? p) (hB : B ≤ B') : NodesR w' B' v l := by
  obtain ⟨A, c, rfl, h1, h2⟩ := h; exact ⟨A, c, rfl, h1.keep hk hB, h2⟩
theorem NodesR.below {w w' : World} {v : Value} {l : List Nd} (h : NodesR w w.heap.size v l) (hb : Below w.heap.size w w') : NodesR w' w'.heap.size v l := h.keep (fun _ hp => hb.cell hp) hb.size
theorem at_next (q : Addr) : (⟨q.block, q.off + 1, none⟩ : Addr) = q.add 1 := by simp [Addr.add]
theorem Rd.two {w : World} {B : Nat} {A : Option Addr} {l : List Nd} (h : Rd w B 2 A l.length (cellsN l)) {k : Nat} (hk : k < l.length) :
    ∃ p, A = some p ∧ p.block < B ∧ w.cell? (p.add (k * 2)) = some (.int .i64 l[k].op) ∧ w.cell? ⟨(p.add (k * 2)).block, (p.add (k * 2)).off + 1, none⟩ = some (.int .i64 l[k].bit) := by
  obtain ⟨p, e, hb, hc⟩ := h.at_ (by omega)
  exact ⟨p, e, hb, hc _ _ (cellsN_op l k hk), by rw [at_next, add_add]; exact hc _ _ (cellsN_bit l k hk)⟩

/-- The small functions. -/
def cntI (op : Int) : Int := if op = 2 then 1 else if op = 3 ∨ op = 4 ∨ op = 5 then 2 else 0
theorem need_le (op : Int) : need op ≤ 2 := by unfold need; repeat' split
                                               all_goals omega
theorem cntI_need (op : Int) (h : 0 ≤ need op) : cntI op = need op := by
  unfold need at h; unfold cntI need
  repeat' split
  all_goals simp_all
theorem operandCount_any (op : Int) (w : World) :
    Calls Try.prog 30 #[.int .i64 op] w fun e w' => e = .returned (.tuple #[.int .i64 (cntI op), .bool (decide (0 ≤ need op))]) ∧ w = w' := by
  by_cases h1 : op = 1
  · subst h1
    go_enter Try.func30, Try.ntmps30
    go_wp2
    go_ret2
    exact ⟨rfl, rfl⟩
  by_cases h2 : op = 2
  · subst h2
    go_enter Try.func30, Try.ntmps30
    go_wp2
    go_ret2
    exact ⟨rfl, rfl⟩
  by_cases h3 : op = 3
  · subst h3
    go_enter Try.func30, Try.ntmps30
    go_wp2
    go_ret2
    exact ⟨rfl, rfl⟩
  by_cases h4 : op = 4
  · subst h4
    go_enter Try.func30, Try.ntmps30
    go_wp2
    go_ret2
    exact ⟨rfl, rfl⟩
  by_cases h5 : op = 5
  · subst h5
    go_enter Try.func30, Try.ntmps30
    go_wp2
    go_ret2
    exact ⟨rfl, rfl⟩
  by_cases h6 : op = 6
  · subst h6
    go_enter Try.func30, Try.ntmps30
    go_wp2
    go_ret2
    exact ⟨rfl, rfl⟩
  by_cases h7 : op = 7
  · subst h7
    go_enter Try.func30, Try.ntmps30
    go_wp2
    go_ret2
    exact ⟨rfl, rfl⟩
  have hN : need op = -1 := by unfold need; simp [h1, h2, h3, h4, h5, h6, h7]
  have hC : cntI op = 0 := by unfold cntI; simp [h2, h3, h4, h5]
  rw [hN, hC]
  clear hN hC
  have g1 : (op == 1) = false := by simpa using h1
  have g2 : (op == 2) = false := by simpa using h2
  have g3 : (op == 3) = false := by simpa using h3
  have g4 : (op == 4) = false := by simpa using h4
  have g5 : (op == 5) = false := by simpa using h5
  have g6 : (op == 6) = false := by simpa using h6
  have g7 : (op == 7) = false := by simpa using h7
  go_enter Try.func30, Try.ntmps30
  go_wp2
  go_ret2
  exact ⟨rfl, rfl⟩
theorem operandCount_ok (op : Int) (w : World) (h : 0 ≤ need op) :
    Calls Try.prog 30 #[.int .i64 op] w fun e w' => e = .returned (.tuple #[.int .i64 (need op), .bool true]) ∧ w = w' :=
  (operandCount_any op w).mono fun _ _ ⟨he, hw⟩ => ⟨by rw [he, cntI_need op h, decide_eq_true h], hw⟩
theorem operandCount_no (op : Int) (w : World) (h : ¬ 0 ≤ need op) :
    Calls Try.prog 30 #[.int .i64 op] w fun e w' => e = .returned (.tuple #[.int .i64 (cntI op), .bool false]) ∧ w = w' :=
  (operandCount_any op w).mono fun _ _ ⟨he, hw⟩ => ⟨by rw [he, decide_eq_false h], hw⟩
theorem nodeBitValid_any (op bit : Int) (bits : Int) (w : World) :
    Calls Try.prog 31 #[.agg #[.int .i64 op, .int .i64 bit], .int .i64 bits] w fun e w' => e = .returned (.bool (bitOK ⟨op, bit⟩ bits)) ∧ Below w.heap.size w w' := by
  by_cases h1 : op = 1
  · subst h1
    by_cases h2 : 0 ≤ bit
    · go_enter Try.func31, Try.ntmps31
      go_wp2
      go_ret
      exact ⟨ret_bool (by unfold bitOK; simp [h2]), (Below.refl _ _).alloc (Nat.le_refl _) _⟩
    · go_enter Try.func31, Try.ntmps31
      go_wp2
      go_ret
      exact ⟨ret_bool (by unfold bitOK; simp; omega), (Below.refl _ _).alloc (Nat.le_refl _) _⟩
  · have g1 : (op == 1) = false := by simpa using h1
    go_enter Try.func31, Try.ntmps31
    go_wp2
    go_ret
    exact ⟨ret_bool (by unfold bitOK; simp [h1]; rfl), (Below.refl _ _).alloc (Nat.le_refl _) _⟩
set_option maxHeartbeats 1000000 in
theorem iLogicValid_any (v : Value) (l : List Nd) (bits : Int) (w : World) (h : NodesR w w.heap.size v l) :
    Calls Try.prog 21 #[v, .int .i64 bits] w fun e w' => e = .returned (.bool (lvalid l bits)) ∧ Below w.heap.size w w' := by
  obtain ⟨A, c, rfl, hr, hl, hf⟩ := h
  by_cases h24 : 24 < l.length
  · go_enter Try.func21, Try.ntmps21
    go_wp2
    go_ret
    exact ⟨ret_bool (lvalid_false_of_len h24).symm, Below.refl _ _⟩
  go_enter Try.func21, Try.ntmps21
  go_wp2
  go_loopw [5, 15] (fun dv i wr => ∃ k d : Nat, k ≤ l.length ∧ d ≤ k ∧ i = .int .i64 k ∧ dv = .int .i64 d ∧ depOf bits (l.take k) 0 = some d ∧ Below w.heap.size w wr) (fun _ i _ => l.length - (intOf i).toNat)
  case atStart => exact ⟨0, 0, by omega, by omega, rfl, rfl, rfl, Below.refl _ _⟩
  case round =>
    obtain ⟨k, d, hk, hdk, rfl, rfl, hdep, hbr⟩ := hrel
    have Hd := Lib.hid hdep
    clear hdep
    have hsz := hbr.size
    by_cases hlt : k < l.length
    · obtain ⟨p, rfl, hpb, hc1, hc2⟩ := hr.two hlt
      obtain ⟨x, hx⟩ : ∃ x, x = l[k] := ⟨_, rfl⟩
      rw [← hx] at hc1 hc2
      have Hx := Lib.hid hx
      clear hx
      obtain ⟨op, bit⟩ := x
      have g1 := (hbr.cell (p := p.add (k * 2)) (by rw [add_block]; exact hpb)).trans hc1
      have g2 := (hbr.cell (p := ⟨(p.add (k * 2)).block, (p.add (k * 2)).off + 1, none⟩) (by show (p.add (k * 2)).block < _; rw [add_block]; exact hpb)).trans hc2
      clear hc1 hc2 hr hf
      have hn2 := need_le op
      by_cases hN : 0 ≤ need op
      · have hpos := Lib.hid (operandCount_ok op (wr.alloc (.cells #[.int .i64 op, .int .i64 bit] 45)) hN)
        go_wp2_with fail
        refine hpos.out.mono ?_
        rintro e w' ⟨rfl, rfl⟩
        cases hB : bitOK ⟨op, bit⟩ bits
        · have Hs : lvalid l bits = false := lvalid_false_of_dep (depOf_stop bits l k d hlt Hd.out (by rw [← Hx.out]; unfold ndOK; simp [hB]))
          have HS := Lib.hid Hs
          clear Hs
          go_wp2_with (go_at_call 31; refine (nodeBitValid_any op bit bits _).mono ?_; rintro e w2 ⟨rfl, hb2⟩)
          go_ret
          exact ⟨ret_bool HS.out.symm, (hbr.alloc (by omega) _).trans (hb2.mono (by simp; omega))⟩
        · by_cases hD : (d : Int) < need op
          · have HS := Lib.hid (show lvalid l bits = false from lvalid_false_of_dep (depOf_stop bits l k d hlt Hd.out (by rw [← Hx.out]; unfold ndOK; simp; intros; omega)))
            go_wp2_with (go_at_call 31; refine (nodeBitValid_any op bit bits _).mono ?_; rintro e w2 ⟨rfl, hb2⟩)
            go_ret
            exact ⟨ret_bool HS.out.symm, (hbr.alloc (by omega) _).trans (hb2.mono (by simp; omega))⟩
          · have HS := Lib.hid (depOf_step bits l k d hlt Hd.out (by rw [← Hx.out]; unfold ndOK; simp [hB]; omega))
            go_wp2_with (go_at_call 31; refine (nodeBitValid_any op bit bits _).mono ?_; rintro e w2 ⟨rfl, hb2⟩)
            go_roundw
            case rel => exact ⟨k + 1, d + 1 - (need op).toNat, by omega, by omega, by go_num, by go_num, by have := HS.out; rw [← Hx.out] at this; exact this, (hbr.alloc (by omega) _).trans (hb2.mono (by simp; omega))⟩
            case measure => simp [intOf]; omega
      · have hpos := Lib.hid (operandCount_no op (wr.alloc (.cells #[.int .i64 op, .int .i64 bit] 45)) hN)
        have HS := Lib.hid (show lvalid l bits = false from lvalid_false_of_dep (depOf_stop bits l k d hlt Hd.out (by rw [← Hx.out]; unfold ndOK; simp; intros; omega)))
        go_wp2_with fail
        refine hpos.out.mono ?_
        rintro e w' ⟨rfl, rfl⟩
        go_wp2
        go_ret
        exact ⟨ret_bool HS.out.symm, hbr.alloc (by omega) _⟩
    · obtain rfl : k = l.length := by omega
      by_cases hd1 : d = 1
      · have HS := Lib.hid (lvalid_true (l := l) (bits := bits) (by omega) (by have := Hd.out; rw [List.take_length] at this; rw [this, hd1]))
        go_wp2
        go_ret
        exact ⟨ret_bool HS.out.symm, hbr⟩
      · have HS := Lib.hid (lvalid_false_of_dep1 (l := l) (bits := bits) (d := d) (by have := Hd.out; rwa [List.take_length] at this) hd1)
        have g1 : ((d : Int) == 1) = false := by rw [beq_eq_false_iff_ne]; omega
        go_wp2
        go_ret
        exact ⟨ret_bool HS.out.symm, hbr⟩
end Go.Proofs.Ytoagnajljdbobab
