/- The opening of a signal, a list of truth values, that a law takes. -/
import Derived.Test.YtldlfailmmmdmaaOI
namespace Go.Proofs.Ytldlfailmmmdmaa
open Go.ChangeShapes Go.WideShapes Go.ChangeAt Go.RowKit

set_option maxRecDepth 100000 in
theorem open_signal {H : Type} {enc : TypeId × Value → H} {w : World} {r : Reach} {b0 : Nat} {v : Value} {d : DataW H} {p : List MemPlace}
    (hv : Value.okWide Try.prog w r b0 33 v)
    (h : DataW.Trod enc Try.prog w 0 (fun _ => true) true 33 v d p) :
    ∃ A n c, v = .slice A n c ∧ n ≤ 9223372036854775807 ∧ (n ≤ 1048576 → ∃ l : List Bool, l.length = n ∧ BoolsR w w.heap.size (.slice A n c) l) := by
  obtain ⟨a0, n0, c0, rfl⟩ := okWide_slice Try.underlying33 hv
  obtain ⟨fuel, hf⟩ := h
  rcases Deep.open_bools Try.underlying33 Try.underlying4 (by kernel_rfl) hf with ⟨hcs, _⟩ | ⟨a, l, c, B, hcs, _, hl, hm, _, hcell⟩
  · simp [Value.cells] at hcs
    obtain ⟨rfl, rfl, rfl⟩ := hcs
    exact ⟨none, 0, 0, rfl, by omega, fun _ => ⟨[], rfl, none, 0, rfl, Rd.none_, by simp⟩⟩
  · simp [Value.cells] at hcs
    obtain ⟨rfl, rfl, rfl⟩ := hcs
    refine ⟨some a, n0, c0, rfl, by unfold maxLen at hm; omega, fun hn => ⟨(List.range n0).map B, by simp, some a, c0, by simp, ?_, by simp; omega⟩⟩
    have := rd_row (w := w) (a := a) (n := n0) (f := fun i => .bool (B i)) (fun i hi => hcell i (by omega))
    simpa [List.map_map, Function.comp_def] using this
end Go.Proofs.Ytldlfailmmmdmaa
