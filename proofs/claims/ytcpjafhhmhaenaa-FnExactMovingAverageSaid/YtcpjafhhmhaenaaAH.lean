/- The opening of a list of numbers that a law takes. -/
import Derived.Test.YtcpjafhhmhaenaaOI
namespace Go.Proofs.Ytcpjafhhmhaenaa
open Go.ChangeShapes Go.WideShapes Go.ChangeAt Go.RowKit

set_option maxRecDepth 100000 in
theorem open_nums {H : Type} {enc : TypeId × Value → H} {w : World} {r : Reach} {b0 : Nat} {v : Value} {d : DataW H} {p : List MemPlace}
    (hv : Value.okWide Try.prog w r b0 39 v)
    (h : DataW.Trod enc Try.prog w 0 (fun _ => true) true 39 v d p) :
    ∃ A n c, v = .slice A n c ∧ n ≤ 9223372036854775807 ∧ (n ≤ 1048576 → ∃ l : List Int, l.length = n ∧ IntsR w w.heap.size (.slice A n c) l) := by
  obtain ⟨a0, n0, c0, rfl⟩ := okWide_slice Try.underlying39 hv
  obtain ⟨fuel, hf⟩ := h
  rcases open_ints Try.underlying39 Try.underlying3 (by kernel_rfl) hf with ⟨hcs, _⟩ | ⟨a, l, c, zs, hcs, _, hl, hm, hz, _, hcell, hwz⟩
  · simp [Value.cells] at hcs
    obtain ⟨rfl, rfl, rfl⟩ := hcs
    exact ⟨none, 0, 0, rfl, by omega, fun _ => ⟨[], rfl, none, 0, rfl, Rd.none_, by simp, by simp⟩⟩
  · simp [Value.cells] at hcs
    obtain ⟨rfl, rfl, rfl⟩ := hcs
    simp at hz
    refine ⟨some a, n0, c0, rfl, by unfold maxLen at hm; omega, fun hn => ⟨zs.take n0, by simp; omega, some a, c0, by simp; omega, ?_, by simp; omega, fun x hx => ?_⟩⟩
    · have := rd_row (w := w) (a := a) (n := n0) (f := fun i => .int .i64 (zs.getD i 0)) (fun i hi => hcell i (by omega))
      have hz' : (List.range n0).map (fun i => Value.int .i64 (zs.getD i 0)) = (zs.take n0).map (.int .i64) := by
        apply List.ext_getElem
        · simp; omega
        · intro i h1 h2
          simp at h1
          simp [List.getD, List.getElem?_eq_getElem (show i < zs.length by omega)]
      have hlen : (zs.take n0).length = n0 := by simp; omega
      rw [hlen, ← hz']
      exact this
    · have := hwz x (List.mem_of_mem_take hx)
      simp [Lit.wf, IntKind.min, IntKind.max, IntKind.signed, IntKind.bits] at this
      omega
end Go.Proofs.Ytcpjafhhmhaenaa
