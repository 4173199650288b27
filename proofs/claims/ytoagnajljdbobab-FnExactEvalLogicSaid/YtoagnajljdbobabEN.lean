/- Contracts of the exact laws' helpers: lists of elements. -/
import Derived.Test.YtoagnajljdbobabED
import Derived.Test.YtoagnajljdbobabEC
import Derived.Test.YtoagnajljdbobabIr
namespace Go.Proofs.Ytoagnajljdbobab
open Go.RowKit
attribute [local go_sem ↓] Go.wp_at_zero Go.wp_at_succ

theorem szNodeS_any (A : Option Addr) (n c : Nat) (left : Int) (w : World) (hn : n ≤ 9223372036854775807) (h1 : 0 ≤ left ∧ left ≤ 1048576) :
    Calls Try.prog 5 #[.slice A n c, .int .i64 left] w fun e w' => e = .returned (.int .i64 (szL n left)) ∧ w = w' := by
  by_cases h0 : left - n < 0
  all_goals
    go_enter Try.func5, Try.ntmps5
    go_wp2
    go_ret
    exact ⟨ret_int (by unfold szL; omega), rfl⟩
theorem toNode_any (op bit : Int) (w : World) :
    Calls Try.prog 19 #[.agg #[.int .i64 op, .int .i64 bit]] w fun e w' => e = .returned (.agg #[.int .i64 op, .int .i64 bit]) ∧ Below w.heap.size w w' := by
  go_enter Try.func19, Try.ntmps19
  go_wp2
  refine bodyPost_ret (v := .agg #[.int .i64 op, .int .i64 bit]) (by simp [results, Try.results19, go_sem]) rfl ⟨rfl, (((Below.refl _ _).alloc (Nat.le_refl _) _).alloc (by simp) _).alloc (by simp; omega) _⟩
theorem eqNode_any (o1 b1 o2 b2 : Int) (w : World) :
    Calls Try.prog 26 #[.agg #[.int .i64 o1, .int .i64 b1], .agg #[.int .i64 o2, .int .i64 b2]] w fun e w' => e = .returned (.bool (decide (o1 = o2) && decide (b1 = b2))) ∧ Below w.heap.size w w' := by
  have B : ∀ o p, Below w.heap.size w ((w.alloc o).alloc p) := fun o p => ((Below.refl _ _).alloc (Nat.le_refl _) _).alloc (by simp) _
  by_cases h1 : o1 = o2
  · by_cases h2 : b1 = b2
    · subst h1; subst h2
      go_enter Try.func26, Try.ntmps26
      go_wp2
      go_ret
      exact ⟨ret_bool (by simp), B _ _⟩
    · have e2 : (b1 != b2) = true := by simpa using h2
      subst h1
      go_enter Try.func26, Try.ntmps26
      go_wp2
      go_ret
      exact ⟨ret_bool (by simp [h2]), B _ _⟩
  · have e1 : (o1 != o2) = true := by simpa using h1
    go_enter Try.func26, Try.ntmps26
    go_wp2
    go_ret
    exact ⟨ret_bool (by simp [h1]), B _ _⟩
theorem eqNode_b (o1 b1 o2 b2 : Int) (q : Bool) (h : (decide (o1 = o2) && decide (b1 = b2)) = q) (w : World) :
    Calls Try.prog 26 #[.agg #[.int .i64 o1, .int .i64 b1], .agg #[.int .i64 o2, .int .i64 b2]] w fun e w' => e = .returned (.bool q) ∧ Below w.heap.size w w' := by
  subst h; exact eqNode_any o1 b1 o2 b2 w
theorem made2 (n : Nat) : (madeCells #[Value.int .i64 0, Value.int .i64 0] (n * 2)).toList = List.replicate (n * 2) (.int .i64 0) := by
  unfold madeCells
  apply List.ext_getElem
  · simp
  · intro i h1 h2
    simp
    rcases Nat.mod_two_eq_zero_or_one i with h | h <;> simp [h]
theorem cellsN_step (l : List Nd) (k : Nat) (h : k < l.length) : (((cellsN (l.take k) ++ List.replicate ((l.length - k) * 2) (Value.int .i64 0)).set (k * 2) (.int .i64 l[k].op)).set (k * 2 + 1) (.int .i64 l[k].bit)) = cellsN (l.take (k + 1)) ++ List.replicate ((l.length - (k + 1)) * 2) (Value.int .i64 0) := by
  have hl : (cellsN (l.take k)).length = k * 2 := by rw [cellsN_length, List.length_take]; omega
  rw [take_snocN l k h, cellsN_append]
  rw [show (l.length - k) * 2 = (l.length - (k + 1)) * 2 + 1 + 1 by omega, List.replicate_succ, List.replicate_succ]
  rw [List.set_append_right _ _ (by omega), List.set_append_right _ _ (by omega), hl]
  simp [cellsN]
set_option maxHeartbeats 1000000 in
theorem toNodeS_any (v : Value) (l : List Nd) (w : World) (h : NodesR w w.heap.size v l) (hl5 : l.length ≤ 1048576) :
    Calls Try.prog 8 #[v] w (OwnNP l w) := by
  obtain ⟨A, c, rfl, hr, hl, hf⟩ := h
  go_enter Try.func8, Try.ntmps8
  go_wp2_with (at_make; refine wpl_make rfl _ _ 32 rfl elN l.length rfl rfl ?c1 ?c2 ?_)
  case c1 => omega
  case c2 => omega
  intro w1 hown hb1
  rw [made2] at hown
  have hs1 := hb1.size
  go_wp2
  go_loopw [4] (fun i wr => ∃ k : Nat, k ≤ l.length ∧ i = .int .i64 k ∧ wr.ownsRow w.heap.size 45 2 (.slice (some ⟨w.heap.size, 0, none⟩) l.length l.length) l.length (cellsN (l.take k) ++ List.replicate ((l.length - k) * 2) (Value.int .i64 0)) ∧ Below w.heap.size w wr) (fun i _ => l.length - (intOf i).toNat)
  case atStart => exact ⟨0, by omega, rfl, by simpa [cellsN] using hown, hb1⟩
  case round =>
    obtain ⟨k, hk, rfl, hown', hbr⟩ := hrel
    clear hown hb1 hs1
    have hsz := hbr.size
    by_cases hlt : k < l.length
    · obtain ⟨p, rfl, hpb, hc1, hc2⟩ := hr.two hlt
      have hstep := cellsN_step l k hlt
      obtain ⟨x, hx⟩ : ∃ x, x = l[k] := ⟨_, rfl⟩
      rw [← hx] at hc1 hc2 hstep
      clear hx
      obtain ⟨op, bit⟩ := x
      have g1 := (hbr.cell (p := p.add (k * 2)) (by rw [add_block]; exact hpb)).trans hc1
      have g2 := (hbr.cell (p := ⟨(p.add (k * 2)).block, (p.add (k * 2)).off + 1, none⟩) (by show (p.add (k * 2)).block < _; rw [add_block]; exact hpb)).trans hc2
      have HO := Lib.hid hown'
      have HS := Lib.hid hstep
      clear hc1 hc2 hstep hown' hr hf
      go_wp2_with fail
      refine (toNode_any op bit _).mono ?_
      rintro e w2 ⟨rfl, hb2⟩
      have hb3 := hbr.trans (hb2.mono hsz)
      have hown2 := own_below HO.out hb2
      have y1 := hown2.cellAt (k * 2) (by omega)
      have y2 := hown2.cellAt (k * 2 + 1) (by omega)
      have z1 := hown2.frozenAt (k * 2)
      have z2 := hown2.frozenAt (k * 2 + 1)
      obtain ⟨u1, hu1⟩ : ∃ u, (cellsN (l.take k) ++ List.replicate ((l.length - k) * 2) (Value.int .i64 0))[k * 2]? = some u := ⟨_, List.getElem?_eq_getElem (by rw [List.length_append, cellsN_length, List.length_take, List.length_replicate]; omega)⟩
      obtain ⟨u2, hu2⟩ : ∃ u, (cellsN (l.take k) ++ List.replicate ((l.length - k) * 2) (Value.int .i64 0))[k * 2 + 1]? = some u := ⟨_, List.getElem?_eq_getElem (by rw [List.length_append, cellsN_length, List.length_take, List.length_replicate]; omega)⟩
      rw [hu1] at y1
      rw [hu2] at y2
      have hst := ((hown2.stored (k * 2) (.int .i64 op)).1.stored (k * 2 + 1) (.int .i64 bit)).1
      have hst' := hst
      rw [HS.out] at hst'
      have H := Lib.hid hst'
      have i1 : (k : Int) < (l.length : Int) := by omega
      clear hst hst' hu1 hu2 hown2 hbr hb2
      go_wp2
      go_roundw
      case rel => exact ⟨k + 1, by omega, by go_num, H.out, (hb3.setCell (by simp) _).setCell (by simp) _⟩
      case measure => simp [intOf]; omega
    · go_wp2
      go_ret
      obtain rfl : k = l.length := by omega
      refine ⟨_, rfl, ?_, hbr⟩
      unfold OwnN
      simpa using hown'
set_option maxRecDepth 100000 in
set_option maxHeartbeats 1000000 in
theorem eqNodeS_any (v1 v2 : Value) (a b : List Nd) (w : World) (h1 : NodesR w w.heap.size v1 a) (h2 : NodesR w w.heap.size v2 b) :
    Calls Try.prog 11 #[v1, v2] w fun e w' => e = .returned (.bool (sameL a b)) ∧ Below w.heap.size w w' := by
  obtain ⟨A, c, rfl, hr, hl, hf⟩ := h1
  obtain ⟨A2, c2, rfl, hr2, hl2, hf2⟩ := h2
  clear hf hf2
  by_cases hne : a.length = b.length
  · have hq : ((a.length : Int) != (b.length : Int)) = false := by rw [bne_eq_false_iff_eq]; omega
    have Hne := Lib.hid hne
    clear hne
    go_enter Try.func11, Try.ntmps11
    go_wp2
    go_loopw [5] (fun i wr => ∃ k : Nat, k ≤ a.length ∧ i = .int .i64 k ∧ agree a b k ∧ Below w.heap.size w wr) (fun i _ => a.length - (intOf i).toNat)
    case atStart => exact ⟨0, by omega, rfl, agree_zero _ _, Below.refl _ _⟩
    case round =>
      obtain ⟨k, hk, rfl, hag, hbr⟩ := hrel
      have hsz := hbr.size
      by_cases hlt : k < a.length
      · have hlt2 : k < b.length := by have := Hne.out; omega
        obtain ⟨p, rfl, hpb, hc1, hc2⟩ := hr.two hlt
        obtain ⟨p2, rfl, hpb2, hc3, hc4⟩ := hr2.two hlt2
        have g1 := (hbr.cell (p := p.add (k * 2)) (by rw [add_block]; exact hpb)).trans hc1
        have g2 := (hbr.cell (p := ⟨(p.add (k * 2)).block, (p.add (k * 2)).off + 1, none⟩) (by show (p.add (k * 2)).block < _; rw [add_block]; exact hpb)).trans hc2
        have g3 := (hbr.cell (p := p2.add (k * 2)) (by rw [add_block]; exact hpb2)).trans hc3
        have g4 := (hbr.cell (p := ⟨(p2.add (k * 2)).block, (p2.add (k * 2)).off + 1, none⟩) (by show (p2.add (k * 2)).block < _; rw [add_block]; exact hpb2)).trans hc4
        have i1 : (k : Int) < (a.length : Int) := by omega
        have i2 : (k : Int) < (b.length : Int) := by omega
        obtain ⟨x, hx⟩ : ∃ x, x = a[k] := ⟨_, rfl⟩
        obtain ⟨y, hy⟩ : ∃ y, y = b[k] := ⟨_, rfl⟩
        rw [← hx] at g1 g2
        rw [← hy] at g3 g4
        have Hx := Lib.hid hx
        have Hy := Lib.hid hy
        obtain ⟨o1, b1⟩ := x
        obtain ⟨o2, b2⟩ := y
        clear hx hy hc1 hc2 hc3 hc4 hr hr2
        cases hxy : (decide (o1 = o2) && decide (b1 = b2))
        · have Hag := Lib.hid (sameL_ne (a := a) (b := b) hlt hlt2 (by rw [← Hx.out, ← Hy.out]; intro e; injection e with e1 e2; subst e1; subst e2; simp at hxy))
          have HC := Lib.hid (eqNode_b o1 b1 o2 b2 _ hxy)
          clear hag hxy
          go_wp2_with fail
          go_still_tail 8, (by kernel_rfl)
          go_wp2_with fail
          refine (HC.out _).mono ?_
          rintro e w2 ⟨rfl, hb2⟩
          have hb3 : Below w.heap.size w w2 := hbr.drew.trans (hb2.mono (by show w.heap.size ≤ wr.heap.size; exact hsz))
          go_wp2
          go_ret
          exact ⟨ret_bool Hag.out, hb3⟩
        · have Hag := Lib.hid (agree_succ hag hlt hlt2 (by rw [← Hx.out, ← Hy.out]; simp at hxy; rw [hxy.1, hxy.2]))
          have HC := Lib.hid (eqNode_b o1 b1 o2 b2 _ hxy)
          clear hag hxy
          go_wp2_with fail
          go_still_tail 8, (by kernel_rfl)
          go_wp2_with fail
          refine (HC.out _).mono ?_
          rintro e w2 ⟨rfl, hb2⟩
          have hb3 : Below w.heap.size w w2 := hbr.drew.trans (hb2.mono (by show w.heap.size ≤ wr.heap.size; exact hsz))
          go_wp2
          go_roundw
          case rel => exact ⟨k + 1, by omega, by go_num, Hag.out, hb3⟩
          case measure => simp [intOf]; omega
      · go_wp2
        go_ret
        exact ⟨ret_bool (sameL_all Hne.out fun j g1 g2 => hag j g1 g2 (by omega)), hbr⟩
  · have hq : ((a.length : Int) != (b.length : Int)) = true := by rw [bne_iff_ne]; omega
    have Hs := Lib.hid (sameL_len hne)
    clear hne
    go_enter Try.func11, Try.ntmps11
    go_wp2
    go_ret
    exact ⟨ret_bool Hs.out, Below.refl _ _⟩
def markN (n k : Nat) : List Nd := (List.range n).map fun i => ⟨((k + 2 * i : Nat) : Int), ((k + 2 * i + 1 : Nat) : Int)⟩
theorem markN_len (n k : Nat) : (markN n k).length = n := by simp [markN]
theorem markN_succ (n k : Nat) : markN (n + 1) k = markN n k ++ [⟨((k + 2 * n : Nat) : Int), ((k + 2 * n + 1 : Nat) : Int)⟩] := by unfold markN; rw [List.range_succ, List.map_append]; rfl
theorem markN_step (l : List Nd) (k j : Nat) (h : j < l.length) : (((cellsN (markN j k) ++ (cellsN l).drop (j * 2)).set (j * 2) (.int .i64 ((k + 2 * j : Nat) : Int))).set (j * 2 + 1) (.int .i64 ((k + 2 * j + 1 : Nat) : Int))) = cellsN (markN (j + 1) k) ++ (cellsN l).drop ((j + 1) * 2) := by
  have hl : (cellsN (markN j k)).length = j * 2 := by rw [cellsN_length, markN_len]
  have hn := cellsN_length l
  rw [markN_succ, cellsN_append]
  rw [List.drop_eq_getElem_cons (show j * 2 < (cellsN l).length by omega), List.drop_eq_getElem_cons (show j * 2 + 1 < (cellsN l).length by omega)]
  rw [List.set_append_right _ _ (by omega), List.set_append_right _ _ (by omega), hl]
  rw [Nat.sub_self, show j * 2 + 1 - j * 2 = 1 by omega, List.set_cons_zero, List.set_cons_succ, List.set_cons_zero, List.append_assoc, show (j + 1) * 2 = j * 2 + 1 + 1 by omega]
  rfl
end Go.Proofs.Ytoagnajljdbobab
