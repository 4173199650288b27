/- The size of a list of rungs, on a reading that knows little of its elements. -/
import Derived.Test.YtlpoeijjlkdceaaET
namespace Go.Proofs.Ytlpoeijjlkdceaa
open Go.RowKit
attribute [local go_sem ↓] Go.wp_at_zero Go.wp_at_succ

/-- A rung of which only the cells are known. -/
structure Rw where
  a : Option Addr
  n : Nat
  c : Nat
  x : Int
  y : Int
def rw0 (q : Rw) : Value × Rg := (.slice q.a q.n q.c, ⟨[], q.x, q.y⟩)
def rwOK (w : World) (B : Nat) (q : Rw) : Prop := q.n ≤ 9223372036854775807 ∧ (fit64 q.x ∧ fit64 q.y) ∧ (q.n ≤ 1048576 → ∃ l : List Nd, l.length = q.n ∧ NodesR w B (.slice q.a q.n q.c) l)
def LadW (w : World) (B : Nat) (v : Value) (qs : List Rw) : Prop :=
  ∃ A c, v = .slice A qs.length c ∧ Rd w B 3 A qs.length (cellsR (qs.map rw0)) ∧ qs.length ≤ c ∧ ∀ q ∈ qs, rwOK w B q
def sumW : List Rw → Nat
  | [] => 0
  | q :: qs => q.n + sumW qs
theorem sumW_app (a b : List Rw) : sumW (a ++ b) = sumW a + sumW b := by
  induction a with
  | nil => simp [sumW]
  | cons r a ih =>
    show r.n + sumW (a ++ b) = (r.n + sumW a) + sumW b
    omega
theorem sumW_take (rs : List Rw) (k : Nat) (h : k < rs.length) : sumW (rs.take (k + 1)) = sumW (rs.take k) + rs[k].n := by
  rw [List.take_succ_eq_append_getElem h, sumW_app]; simp [sumW]
theorem strong_list (w : World) (B : Nat) (qs : List Rw) (h : ∀ q ∈ qs, rwOK w B q) (hs : sumW qs ≤ 1048576) :
    ∃ ps : List (Value × Rg), ps.length = qs.length ∧ cellsR ps = cellsR (qs.map rw0) ∧ (∀ p ∈ ps, NodesR w B p.1 p.2.logic ∧ rgFit p.2) ∧ sumL (lads ps) = sumW qs := by
  induction qs with
  | nil => exact ⟨[], rfl, rfl, by simp, rfl⟩
  | cons q qs ih =>
    have hs' : q.n + sumW qs ≤ 1048576 := hs
    obtain ⟨ps, e1, e2, e3, e4⟩ := ih (fun q hq => h q (List.mem_cons_of_mem _ hq)) (by omega)
    obtain ⟨-, hf, hl⟩ := h q List.mem_cons_self
    obtain ⟨l, el, hN⟩ := hl (by omega)
    refine ⟨(.slice q.a q.n q.c, ⟨l, q.x, q.y⟩) :: ps, by simp [e1], ?_, fun p hp => ?_, ?_⟩
    · rw [List.map_cons, cellsR_cons, cellsR_cons, e2]; rfl
    · rcases List.mem_cons.1 hp with rfl | hp
      · exact ⟨hN, hf⟩
      · exact e3 p hp
    · show l.length + sumL (lads ps) = q.n + sumW qs
      omega
theorem LadW.strong {w : World} {B : Nat} {A : Option Addr} {c n : Nat} {qs : List Rw} (h : LadW w B (.slice A n c) qs) (hn : qs.length = n) (hs : n + sumW qs ≤ 1048576) : ∃ ps, ps.length = n ∧ LadR w B (.slice A n c) ps ∧ sumL (lads ps) = sumW qs := by
  obtain ⟨A', c', e, hr, hc, hq⟩ := h
  injection e with e1 e2 e3
  subst e1; subst e3
  obtain ⟨ps, p1, p2, p3, p4⟩ := strong_list w B qs hq (by omega)
  have p1' : ps.length = n := by omega
  refine ⟨ps, p1', ⟨A, c, by rw [p1'], by rw [p2, p1]; exact hr, by omega, p3⟩, p4⟩
def SZP (A : Option Addr) (n c : Nat) (left : Int) (w : World) (e : Ending) (w' : World) : Prop :=
  ∃ r : Int, e = .returned (.int .i64 r) ∧ Below w.heap.size w w' ∧ (r = -1 ∨ ∃ ps : List (Value × Rg), ps.length = n ∧ LadR w w.heap.size (.slice A n c) ps ∧ (n : Int) + (sumL (lads ps) : Nat) ≤ left ∧ r = left - (n : Int) - (sumL (lads ps) : Nat))
set_option maxHeartbeats 2000000 in
theorem szRungS_any (A : Option Addr) (n c : Nat) (left : Int) (w : World) (hn : n ≤ 9223372036854775807) (h1 : 0 ≤ left ∧ left ≤ 1048576) (f : n ≤ 1048576 → ∃ qs : List Rw, qs.length = n ∧ LadW w w.heap.size (.slice A n c) qs) :
    Calls Try.prog 60 #[.slice A n c, .int .i64 left] w (SZP A n c left w) := by
  by_cases h0 : left - n < 0
  · go_enter Try.func60, Try.ntmps60
    go_wp2
    go_ret
    exact ⟨-1, rfl, Below.refl _ _, .inl rfl⟩
  · obtain ⟨qs, hql, hW⟩ := f (by omega)
    have HS := Lib.hid (fun (h : n + sumW qs ≤ 1048576) => hW.strong hql h)
    obtain ⟨A', c', e, hr, hc, hq⟩ := hW
    injection e with e1 e2 e3
    subst e1; subst e3
    subst hql
    have HQ := Lib.hid hq
    clear hq e2 f
    go_enter Try.func60, Try.ntmps60
    go_wp2
    go_loopw [1, 5] (fun t i wr => ∃ k : Nat, k ≤ qs.length ∧ i = .int .i64 k ∧ t = .int .i64 (left - (qs.length : Int) - ((sumW (qs.take k) : Nat) : Int)) ∧ ((sumW (qs.take k) : Nat) : Int) ≤ left - (qs.length : Int) ∧ Below w.heap.size w wr) (fun _ i _ => qs.length - (intOf i).toNat)
    case atStart => exact ⟨0, by omega, rfl, by simp [sumW], by simp [sumW]; omega, Below.refl _ _⟩
    case round =>
      obtain ⟨k, hk, rfl, rfl, hle, hbr⟩ := hrel
      have hsz := hbr.size
      by_cases hlt : k < qs.length
      · have hr' : Rd w w.heap.size 3 A (qs.map rw0).length (cellsR (qs.map rw0)) := by rw [List.length_map]; exact hr
        obtain ⟨p, rfl, hpb, c0, c1, c2⟩ := hr'.three (k := k) (by rw [List.length_map]; exact hlt)
        rw [List.getElem_map] at c0 c1 c2
        obtain ⟨hqn, hqf, -⟩ := HQ.out qs[k] (List.getElem_mem hlt)
        have hst := sumW_take qs k hlt
        have g0 := (hbr.cell (p := p.add (k * 3)) (by rw [add_block]; exact hpb)).trans c0
        have g1 := (hbr.cell (p := ⟨(p.add (k * 3)).block, (p.add (k * 3)).off + 1, none⟩) (by show (p.add (k * 3)).block < _; rw [add_block]; exact hpb)).trans c1
        have g2 := (hbr.cell (p := ⟨(p.add (k * 3)).block, (p.add (k * 3)).off + 2, none⟩) (by show (p.add (k * 3)).block < _; rw [add_block]; exact hpb)).trans c2
        obtain ⟨x, hx⟩ : ∃ x, x = qs[k] := ⟨_, rfl⟩
        rw [← hx] at g0 g1 g2 hqn hqf hst
        clear hx c0 c1 c2 hr'
        obtain ⟨a1, n1, d1, x1, y1⟩ := x
        unfold rw0 at g0 g1 g2
        simp only at g0 g1 g2 hqn hqf hst
        obtain ⟨S, hS⟩ : ∃ S : Nat, S = sumW (qs.take k) := ⟨_, rfl⟩
        rw [← hS] at hle hst ⊢
        have i1 : (k : Int) < (qs.length : Int) := by omega
        by_cases hov : (n1 : Int) ≤ left - (qs.length : Int) - (S : Int)
        · have q0 : 0 ≤ left - (qs.length : Int) - (S : Int) - (n1 : Int) := by omega
          have HST := Lib.hid hst
          clear hS hst hr
          go_wp2_with fail
          refine (szRung_in a1 n1 d1 x1 y1 _ _ ⟨hov, by omega⟩).mono ?_
          rintro e w2 ⟨rfl, hb2⟩
          have hbr2 := hbr.trans (hb2.mono hsz)
          go_wp2
          go_roundw
          case rel => exact ⟨k + 1, by omega, by go_num, by rw [HST.out]; congr 1; omega, by rw [HST.out]; omega, hbr2⟩
          case measure => simp [intOf]; omega
        · clear hS hst hr
          go_wp2_with fail
          refine (szRung_over a1 n1 d1 x1 y1 _ _ hqn ⟨by omega, by omega, by omega⟩).mono ?_
          rintro e w2 ⟨rfl, hb2⟩
          have hbr2 := hbr.trans (hb2.mono hsz)
          go_wp2
          go_ret
          exact ⟨-1, rfl, hbr2, .inl rfl⟩
      · obtain rfl : k = qs.length := by omega
        rw [List.take_length] at hle ⊢
        go_wp2
        go_ret
        obtain ⟨ps, p1, p2, p3⟩ := HS.out (by omega)
        exact ⟨_, rfl, hbr, .inr ⟨ps, p1, p2, by rw [p3]; omega, by rw [p3]⟩⟩
end Go.Proofs.Ytlpoeijjlkdceaa
