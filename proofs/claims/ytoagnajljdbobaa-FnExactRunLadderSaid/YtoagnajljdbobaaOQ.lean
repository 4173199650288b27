/- The opening of a list of rungs that a law takes. -/
import Derived.Test.YtoagnajljdbobaaEQ
import Derived.Test.YtoagnajljdbobaaOR
namespace Go.Proofs.Ytoagnajljdbobaa
open Go.ChangeShapes Go.WideShapes Go.ChangeAt Go.RowKit

set_option maxRecDepth 100000 in
theorem open_rungs {H : Type} {enc : TypeId × Value → H} {w : World} {r : Reach} {b0 : Nat} {v : Value} {d : DataW H} {p : List MemPlace}
    (hv : Value.okWide Try.prog w r b0 83 v)
    (h : DataW.Trod enc Try.prog w 0 (fun _ => true) true 83 v d p) :
    ∃ A n c, v = .slice A n c ∧ n ≤ 9223372036854775807 ∧ (n ≤ 1048576 → ∃ qs : List Rw, qs.length = n ∧ LadW w w.heap.size (.slice A n c) qs) := by
  obtain ⟨fuel, hf⟩ := h
  obtain ⟨A0, n0, c0, rfl⟩ := okWide_slice Try.underlying83 hv
  rcases Deep.open_slice Try.underlying83 hf with ⟨hcs, _⟩ | ⟨a, len, cap, m, n, D, Pl, hcs, _, hl, hm, hmm, _, hi⟩
  · simp [Value.cells] at hcs
    obtain ⟨rfl, rfl, rfl⟩ := hcs
    exact ⟨none, 0, 0, rfl, by omega, fun _ => ⟨[], rfl, none, 0, rfl, Rd.none_, by simp, by simp⟩⟩
  · simp [Value.cells] at hcs
    obtain ⟨rfl, rfl, rfl⟩ := hcs
    simp at hmm
    have key : ∀ i, i < n0 → ∃ x : Rw, w.cell? (a.add (i * 3)) = some (.slice x.a x.n x.c) ∧ w.cell? (a.add (i * 3 + 1)) = some (.int .i64 x.x) ∧ w.cell? (a.add (i * 3 + 2)) = some (.int .i64 x.y) ∧ rwOK w w.heap.size x := by
      intro i hin
      obtain ⟨cs, hc, ht⟩ := hi i (by omega)
      rw [lawRung_cells] at hc
      obtain ⟨-, hlen, hat⟩ := World.cells?_some hc
      obtain ⟨ys, n', -, -, -, hys, hg⟩ := DataW.trod_struct Try.underlying78 ht
      obtain ⟨u0, u1, u2, rfl⟩ : ∃ u0 u1 u2, cs = [u0, u1, u2] := by
        rcases cs with _ | ⟨u0, _ | ⟨u1, _ | ⟨u2, _ | ⟨u3, cs⟩⟩⟩⟩
        · simp at hlen
        · simp at hlen
        · simp at hlen
        · exact ⟨u0, u1, u2, rfl⟩
        · simp at hlen
      obtain ⟨y0, y1, y2, rfl⟩ : ∃ y0 y1 y2, ys = [y0, y1, y2] := by
        rcases ys with _ | ⟨u0, _ | ⟨u1, _ | ⟨u2, _ | ⟨u3, cs⟩⟩⟩⟩
        · simp at hys
        · simp at hys
        · simp at hys
        · exact ⟨u0, u1, u2, rfl⟩
        · simp at hys
      have h0 := hg 0 _ rfl
      have h1 := hg 1 _ rfl
      have h2 := hg 2 _ rfl
      clear hg hys hlen ht hc
      simp [lawInt_cells, lawNodes_cells] at h0 h1 h2
      obtain ⟨An, nn, cn, e0, hnn, hfn⟩ := open_nodesF h0
      obtain ⟨x1, e1, -, wf1⟩ := DataW.trod_int Try.underlying3 h1
      obtain ⟨x2, e2, -, wf2⟩ := DataW.trod_int Try.underlying3 h2
      simp at e0 e1 e2
      subst e0; subst e1; subst e2
      have a0 := hat 0 (by omega)
      have a1 := hat 1 (by omega)
      have a2 := hat 2 (by omega)
      rw [add_add] at a0 a1 a2
      refine ⟨⟨An, nn, cn, x1, x2⟩, by simpa using a0, by simpa using a1, by simpa using a2, hnn, ?_, hfn⟩
      unfold fit64
      simp [Lit.wf, IntKind.min, IntKind.max, IntKind.signed, IntKind.bits] at wf1 wf2
      simp only
      omega
    refine ⟨some a, n0, c0, rfl, by unfold maxLen at hm; omega, fun hn => ?_⟩
    have ex : ∀ k, k ≤ n0 → ∃ l : List Rw, l.length = k ∧ (∀ j u, (cellsR (l.map rw0))[j]? = some u → w.cell? (a.add j) = some u) ∧ ∀ x ∈ l, rwOK w w.heap.size x := by
      intro k
      induction k with
      | zero => exact fun _ => ⟨[], rfl, by simp [cellsR], by simp⟩
      | succ k ih =>
        intro hk
        obtain ⟨l, e, hc, hf⟩ := ih (by omega)
        obtain ⟨x, g0, g1, g2, gf⟩ := key k (by omega)
        refine ⟨l ++ [x], by simp [e], fun j u hu => ?_, fun y hy => ?_⟩
        · rw [List.map_append, cellsR_append] at hu
          have hcl : (cellsR (l.map rw0)).length = k * 3 := by rw [cellsR_length, List.length_map, e]
          rcases Nat.lt_or_ge j (k * 3) with hj | hj
          · rw [List.getElem?_append_left (by omega)] at hu; exact hc j u hu
          · rw [List.getElem?_append_right (by omega), hcl] at hu
            have hj2 : j < k * 3 + 3 := by
              have := (List.getElem?_eq_some_iff.1 hu).1
              simp [cellsR] at this; omega
            rcases (show j = k * 3 ∨ j = k * 3 + 1 ∨ j = k * 3 + 2 by omega) with rfl | rfl | rfl
            · simp [cellsR, rw0] at hu; subst hu; exact g0
            · rw [show k * 3 + 1 - k * 3 = 1 by omega] at hu; simp [cellsR, rw0] at hu; subst hu; exact g1
            · rw [show k * 3 + 2 - k * 3 = 2 by omega] at hu; simp [cellsR, rw0] at hu; subst hu; exact g2
        · rcases List.mem_append.1 hy with hy | hy
          · exact hf y hy
          · simp at hy; subst hy; exact gf
    obtain ⟨l, e, hc, hf⟩ := ex n0 (Nat.le_refl _)
    refine ⟨l, e, some a, c0, by rw [e], ⟨by rw [cellsR_length, List.length_map], fun h0 => ⟨a, rfl, ?_, hc⟩⟩, by omega, hf⟩
    obtain ⟨x, g0, -, -, -⟩ := key 0 (by omega)
    have := World.block_lt_of_cell? w _ g0
    simpa [Addr.add] using this
end Go.Proofs.Ytoagnajljdbobaa
