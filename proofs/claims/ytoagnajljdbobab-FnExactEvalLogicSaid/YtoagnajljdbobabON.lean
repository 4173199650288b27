/- The opening of a list of elements that a law takes. -/
import Derived.Test.YtoagnajljdbobabNm
import Derived.Deep.Slices
import Derived.Deep.Fields
import Derived.ProofKit
import Derived.ChangeOld
namespace Go.Proofs.Ytoagnajljdbobab
open Go.ChangeShapes Go.WideShapes Go.ChangeAt Go.RowKit

set_option maxRecDepth 100000 in
theorem lawNode_cells : Try.prog.cellsOf 47 = 2 := by kernel_rfl
set_option maxRecDepth 100000 in
theorem lawInt_cells : Try.prog.cellsOf 3 = 1 := by kernel_rfl
set_option maxRecDepth 100000 in
theorem open_nodes {H : Type} {enc : TypeId × Value → H} {w : World} {r : Reach} {b0 : Nat} {v : Value} {d : DataW H} {p : List MemPlace}
    (hv : Value.okWide Try.prog w r b0 26 v)
    (h : DataW.Trod enc Try.prog w 0 (fun _ => true) true 26 v d p) :
    ∃ A n c, v = .slice A n c ∧ n ≤ 9223372036854775807 ∧ (n ≤ 1048576 → ∃ l : List Nd, l.length = n ∧ NodesR w w.heap.size (.slice A n c) l) := by
  obtain ⟨a0, n0, c0, rfl⟩ := okWide_slice Try.underlying26 hv
  obtain ⟨fuel, hf⟩ := h
  rcases Deep.open_slice Try.underlying26 hf with ⟨hcs, _⟩ | ⟨a, len, cap, m, n, D, Pl, hcs, _, hl, hm, hmm, _, hi⟩
  · simp [Value.cells] at hcs
    obtain ⟨rfl, rfl, rfl⟩ := hcs
    exact ⟨none, 0, 0, rfl, by omega, fun _ => ⟨[], rfl, none, 0, rfl, Rd.none_, by simp, by simp⟩⟩
  · simp [Value.cells] at hcs
    obtain ⟨rfl, rfl, rfl⟩ := hcs
    simp at hmm
    have key : ∀ i, i < n0 → ∃ x : Nd, w.cell? (a.add (i * 2)) = some (.int .i64 x.op) ∧ w.cell? (a.add (i * 2 + 1)) = some (.int .i64 x.bit) ∧ ndFit x := by
      intro i hin
      obtain ⟨cs, hc, ht⟩ := hi i (by omega)
      rw [lawNode_cells] at hc
      obtain ⟨-, hlen, hat⟩ := World.cells?_some hc
      obtain ⟨ys, n', -, -, -, hys, hg⟩ := DataW.trod_struct Try.underlying47 ht
      obtain ⟨u0, u1, rfl⟩ : ∃ u0 u1, cs = [u0, u1] := by
        rcases cs with _ | ⟨u0, _ | ⟨u1, _ | ⟨u2, cs⟩⟩⟩
        · simp at hlen
        · simp at hlen
        · exact ⟨u0, u1, rfl⟩
        · simp at hlen
      obtain ⟨y0, y1, rfl⟩ : ∃ y0 y1, ys = [y0, y1] := by
        rcases ys with _ | ⟨u0, _ | ⟨u1, _ | ⟨u2, cs⟩⟩⟩
        · simp at hys
        · simp at hys
        · exact ⟨u0, u1, rfl⟩
        · simp at hys
      have h0 := hg 0 _ rfl
      have h1 := hg 1 _ rfl
      clear hg hys hlen ht hc
      simp [lawInt_cells] at h0 h1
      obtain ⟨x0, e0, -, wf0⟩ := DataW.trod_int Try.underlying3 h0
      obtain ⟨x1, e1, -, wf1⟩ := DataW.trod_int Try.underlying3 h1
      simp at e0 e1
      subst e0; subst e1
      have a0 := hat 0 (by omega)
      have a1 := hat 1 (by omega)
      rw [add_add] at a0 a1
      refine ⟨⟨x0, x1⟩, by simpa using a0, by simpa using a1, ?_⟩
      unfold ndFit
      simp [Lit.wf, IntKind.min, IntKind.max, IntKind.signed, IntKind.bits] at wf0 wf1
      simp only
      omega
    refine ⟨some a, n0, c0, rfl, by unfold maxLen at hm; omega, fun hn => ?_⟩
    have ex : ∀ k, k ≤ n0 → ∃ l : List Nd, l.length = k ∧ (∀ j u, (cellsN l)[j]? = some u → w.cell? (a.add j) = some u) ∧ ∀ x ∈ l, ndFit x := by
      intro k
      induction k with
      | zero => exact fun _ => ⟨[], rfl, by simp [cellsN], by simp⟩
      | succ k ih =>
        intro hk
        obtain ⟨l, e, hc, hf⟩ := ih (by omega)
        obtain ⟨x, g0, g1, gf⟩ := key k (by omega)
        refine ⟨l ++ [x], by simp [e], fun j u hu => ?_, fun y hy => ?_⟩
        · rw [cellsN_append] at hu
          have hcl : (cellsN l).length = k * 2 := by rw [cellsN_length, e]
          rcases Nat.lt_or_ge j (k * 2) with hj | hj
          · rw [List.getElem?_append_left (by omega)] at hu; exact hc j u hu
          · rw [List.getElem?_append_right (by omega), hcl] at hu
            have hj2 : j < k * 2 + 2 := by
              have := (List.getElem?_eq_some_iff.1 hu).1
              simp [cellsN] at this; omega
            rcases (show j = k * 2 ∨ j = k * 2 + 1 by omega) with rfl | rfl
            · simp [cellsN] at hu; subst hu; exact g0
            · rw [show k * 2 + 1 - k * 2 = 1 by omega] at hu; simp [cellsN] at hu; subst hu; exact g1
        · rcases List.mem_append.1 hy with hy | hy
          · exact hf y hy
          · simp at hy; subst hy; exact gf
    obtain ⟨l, e, hc, hf⟩ := ex n0 (Nat.le_refl _)
    refine ⟨l, e, some a, c0, by rw [e], ⟨by rw [cellsN_length], fun h0 => ⟨a, rfl, ?_, hc⟩⟩, ⟨by omega, by omega⟩, hf⟩
    obtain ⟨x, g0, -, -⟩ := key 0 (by omega)
    have := World.block_lt_of_cell? w _ g0
    simpa [Addr.add] using this
end Go.Proofs.Ytoagnajljdbobab
