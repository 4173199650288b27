/- The opening of a rung, and of a list of rungs, that a law takes. -/
import Derived.Test.YtoagnajljdbobaaRS
import Derived.Test.YtoagnajljdbobaaON
import Derived.Lib.SmallJoins
namespace Go.Proofs.Ytoagnajljdbobaa
open Go.ChangeShapes Go.WideShapes Go.ChangeAt Go.RowKit

set_option maxRecDepth 100000 in
theorem lawRung_cells : Try.prog.cellsOf 78 = 3 := by kernel_rfl
set_option maxRecDepth 100000 in
theorem lawNodes_cells : Try.prog.cellsOf 76 = 1 := by kernel_rfl
set_option maxRecDepth 100000 in
/-- A list of elements that was met in a reading. -/
theorem open_nodesF {H : Type} {enc : TypeId × Value → H} {w : World} {fuel : Nat} {u : Value} {x : DataW H × List MemPlace}
    (hf : DataW.trod enc Try.prog w 0 (fun _ => true) true fuel 76 [u] = some x) :
    ∃ A n c, u = .slice A n c ∧ n ≤ 9223372036854775807 ∧ (n ≤ 1048576 → ∃ l : List Nd, l.length = n ∧ NodesR w w.heap.size (.slice A n c) l) := by
  rcases Deep.open_slice Try.underlying76 hf with ⟨hcs, _⟩ | ⟨a, len, cap, m, n, D, Pl, hcs, _, hl, hm, hmm, _, hi⟩
  · simp at hcs
    subst hcs
    exact ⟨none, 0, 0, rfl, by omega, fun _ => ⟨[], rfl, none, 0, rfl, Rd.none_, by simp, by simp⟩⟩
  · simp at hcs
    subst hcs
    simp at hmm
    have key : ∀ i, i < len → ∃ x : Nd, w.cell? (a.add (i * 2)) = some (.int .i64 x.op) ∧ w.cell? (a.add (i * 2 + 1)) = some (.int .i64 x.bit) ∧ ndFit x := by
      intro i hin
      obtain ⟨cs, hc, ht⟩ := hi i (by omega)
      rw [lawNode_cells] at hc
      obtain ⟨-, hlen, hat⟩ := World.cells?_some hc
      obtain ⟨ys, n', -, -, -, hys, hg⟩ := DataW.trod_struct Try.underlying152 ht
      obtain ⟨u0, u1, rfl⟩ : ∃ u0 u1, cs = [u0, u1] := by
        rcases cs with _ | ⟨u0, _ | ⟨u1, _ | ⟨u2, cs⟩⟩⟩
        · simp at hlen
        · simp at hlen
        · exact ⟨u0, u1, rfl⟩
        · simp at hlen
      obtain ⟨y0, y1, rfl⟩ : ∃ y0 y1, ys = [y0, y1] := by
        rcases ys with _ | ⟨u0, _ | ⟨u1, _ | ⟨u2, cs⟩⟩⟩
        · simp at hys
        · simp at hys
        · exact ⟨u0, u1, rfl⟩
        · simp at hys
      have h0 := hg 0 _ rfl
      have h1 := hg 1 _ rfl
      clear hg hys hlen ht hc
      simp [lawInt_cells] at h0 h1
      obtain ⟨x0, e0, -, wf0⟩ := DataW.trod_int Try.underlying3 h0
      obtain ⟨x1, e1, -, wf1⟩ := DataW.trod_int Try.underlying3 h1
      simp at e0 e1
      subst e0; subst e1
      have a0 := hat 0 (by omega)
      have a1 := hat 1 (by omega)
      rw [add_add] at a0 a1
      refine ⟨⟨x0, x1⟩, by simpa using a0, by simpa using a1, ?_⟩
      unfold ndFit
      simp [Lit.wf, IntKind.min, IntKind.max, IntKind.signed, IntKind.bits] at wf0 wf1
      simp only
      omega
    refine ⟨some a, len, cap, rfl, by unfold maxLen at hm; omega, fun hn => ?_⟩
    have ex : ∀ k, k ≤ len → ∃ l : List Nd, l.length = k ∧ (∀ j u, (cellsN l)[j]? = some u → w.cell? (a.add j) = some u) ∧ ∀ x ∈ l, ndFit x := by
      intro k
      induction k with
      | zero => exact fun _ => ⟨[], rfl, by simp [cellsN], by simp⟩
      | succ k ih =>
        intro hk
        obtain ⟨l, e, hc, hf⟩ := ih (by omega)
        obtain ⟨x, g0, g1, gf⟩ := key k (by omega)
        refine ⟨l ++ [x], by simp [e], fun j u hu => ?_, fun y hy => ?_⟩
        · rw [cellsN_append] at hu
          have hcl : (cellsN l).length = k * 2 := by rw [cellsN_length, e]
          rcases Nat.lt_or_ge j (k * 2) with hj | hj
          · rw [List.getElem?_append_left (by omega)] at hu; exact hc j u hu
          · rw [List.getElem?_append_right (by omega), hcl] at hu
            have hj2 : j < k * 2 + 2 := by
              have := (List.getElem?_eq_some_iff.1 hu).1
              simp [cellsN] at this; omega
            rcases (show j = k * 2 ∨ j = k * 2 + 1 by omega) with rfl | rfl
            · simp [cellsN] at hu; subst hu; exact g0
            · rw [show k * 2 + 1 - k * 2 = 1 by omega] at hu; simp [cellsN] at hu; subst hu; exact g1
        · rcases List.mem_append.1 hy with hy | hy
          · exact hf y hy
          · simp at hy; subst hy; exact gf
    obtain ⟨l, e, hc, hf⟩ := ex len (Nat.le_refl _)
    refine ⟨l, e, some a, cap, by rw [e], ⟨by rw [cellsN_length], fun h0 => ⟨a, rfl, ?_, hc⟩⟩, ⟨by omega, by omega⟩, hf⟩
    obtain ⟨x, g0, -, -⟩ := key 0 (by omega)
    have := World.block_lt_of_cell? w _ g0
    simpa [Addr.add] using this
set_option maxRecDepth 100000 in
theorem open_rung {H : Type} {enc : TypeId × Value → H} {w : World} {r : Reach} {b0 : Nat} {v : Value} {d : DataW H} {p : List MemPlace}
    (hv : Value.okWide Try.prog w r b0 78 v)
    (h : DataW.Trod enc Try.prog w 0 (fun _ => true) true 78 v d p) :
    ∃ A n c x y, v = .agg #[.slice A n c, .int .i64 x, .int .i64 y] ∧ n ≤ 9223372036854775807 ∧ (fit64 x ∧ fit64 y) ∧ (n ≤ 1048576 → ∃ l : List Nd, l.length = n ∧ NodesR w w.heap.size (.slice A n c) l) := by
  obtain ⟨v0, v1, v2, y0, y1, y2, n, rfl, rfl, rfl, h0, h1, h2⟩ := Joins.open_agg3 Try.underlying78 (by kernel_rfl) lawRung_cells hv h
  obtain ⟨A, m, c, rfl, hm, hl⟩ := open_nodesF h0
  obtain ⟨x1, e1, -, wf1⟩ := DataW.trod_int Try.underlying3 h1
  obtain ⟨x2, e2, -, wf2⟩ := DataW.trod_int Try.underlying3 h2
  simp at e1 e2
  subst e1; subst e2
  simp [Lit.wf, IntKind.min, IntKind.max, IntKind.signed, IntKind.bits] at wf1 wf2
  exact ⟨A, m, c, x1, x2, rfl, hm, by unfold fit64; omega, hl⟩
end Go.Proofs.Ytoagnajljdbobaa
