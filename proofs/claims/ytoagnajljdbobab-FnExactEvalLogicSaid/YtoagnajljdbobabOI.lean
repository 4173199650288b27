/- The opening of an image that a law takes: two slices, in one struct. -/
import Derived.Test.YtoagnajljdbobabA
import Derived.Lib.SmallJoins
import Derived.Deep.Grids
import Derived.ProofKit
import Derived.ChangeOld
namespace Go.Proofs.Ytoagnajljdbobab
open Go.ChangeShapes Go.WideShapes Go.ChangeAt Go.RowKit

set_option maxRecDepth 100000 in
theorem rd_row {w : World} {a : Addr} {n : Nat} {f : Nat → Value} (h : ∀ i, i < n → w.cell? (a.add i) = some (f i)) : Rd w w.heap.size 1 (some a) n ((List.range n).map f) := by
  refine ⟨by simp, fun h0 => ⟨a, rfl, ?_, fun j u hu => ?_⟩⟩
  · have := World.block_lt_of_cell? w _ (h 0 h0)
    simpa [Addr.add] using this
  · rw [List.getElem?_map] at hu
    obtain ⟨i, hi, rfl⟩ := Option.map_eq_some_iff.1 hu
    obtain ⟨hj, rfl⟩ := List.getElem?_eq_some_iff.1 hi
    simp only [List.length_range] at hj
    simpa using h j hj

set_option maxRecDepth 100000 in
theorem imgcells : Try.prog.cellsOf 25 = 2 := by kernel_rfl

set_option maxRecDepth 100000 in
theorem open_image {H : Type} {enc : TypeId × Value → H} {w : World} {r : Reach} {b0 : Nat} {v : Value} {d : DataW H} {p : List MemPlace}
    (hv : Value.okWide Try.prog w r b0 25 v)
    (h : DataW.Trod enc Try.prog w 0 (fun _ => true) true 25 v d p) :
    ∃ A1 n1 c1 A2 n2 c2, v = .agg #[.slice A1 n1 c1, .slice A2 n2 c2] ∧ n1 ≤ 9223372036854775807 ∧ n2 ≤ 9223372036854775807 ∧
      (n1 + n2 ≤ 1048576 → ∃ m : Img, m.bits.length = n1 ∧ m.words.length = n2 ∧ ImgR w w.heap.size (.agg #[.slice A1 n1 c1, .slice A2 n2 c2]) m) := by
  obtain ⟨v0, v1, y0, y1, n, rfl, rfl, rfl, h0, h1⟩ := Joins.open_agg2 Try.underlying25 (by kernel_rfl) imgcells hv h
  have e0 : ∃ (A : Option Addr) (n c : Nat), v0 = .slice A n c ∧ n ≤ 9223372036854775807 ∧ (n ≤ 1048576 → ∃ l : List Bool, l.length = n ∧ BoolsR w w.heap.size (.slice A n c) l) := by
    rcases Deep.open_bools Try.underlying22 Try.underlying4 (by kernel_rfl) h0 with ⟨hcs, _⟩ | ⟨a, l, c, B, hcs, _, hl, hm, _, hcell⟩
    · simp at hcs
      exact ⟨none, 0, 0, hcs, by omega, fun _ => ⟨[], rfl, none, 0, rfl, Rd.none_, by simp⟩⟩
    · simp at hcs
      refine ⟨some a, l, c, hcs, by unfold maxLen at hm; omega, fun hn => ⟨(List.range l).map B, by simp, some a, c, by simp, ?_, by simp; omega⟩⟩
      have := rd_row (w := w) (a := a) (n := l) (f := fun i => .bool (B i)) (fun i hi => hcell i (by omega))
      simpa [List.map_map, Function.comp_def] using this
  have e1 : ∃ (A : Option Addr) (n c : Nat), v1 = .slice A n c ∧ n ≤ 9223372036854775807 ∧ (n ≤ 1048576 → ∃ l : List Int, l.length = n ∧ IntsR w w.heap.size (.slice A n c) l) := by
    rcases open_ints Try.underlying23 Try.underlying3 (by kernel_rfl) h1 with ⟨hcs, _⟩ | ⟨a, l, c, zs, hcs, _, hl, hm, hz, _, hcell, hwz⟩
    · simp at hcs
      exact ⟨none, 0, 0, hcs, by omega, fun _ => ⟨[], rfl, none, 0, rfl, Rd.none_, by simp, by simp⟩⟩
    · simp at hcs
      simp at hz
      refine ⟨some a, l, c, hcs, by unfold maxLen at hm; omega, fun hn => ⟨zs.take l, by simp; omega, some a, c, by simp; omega, ?_, by simp; omega, fun x hx => ?_⟩⟩
      · have := rd_row (w := w) (a := a) (n := l) (f := fun i => .int .i64 (zs.getD i 0)) (fun i hi => hcell i (by omega))
        have hz' : (List.range l).map (fun i => Value.int .i64 (zs.getD i 0)) = (zs.take l).map (.int .i64) := by
          apply List.ext_getElem
          · simp; omega
          · intro i h1 h2
            simp at h1
            simp [List.getD, List.getElem?_eq_getElem (show i < zs.length by omega)]
        have hlen : (zs.take l).length = l := by simp; omega
        rw [hlen, ← hz']
        exact this
      · have := hwz x (List.mem_of_mem_take hx)
        simp [Lit.wf, IntKind.min, IntKind.max, IntKind.signed, IntKind.bits] at this
        omega
  obtain ⟨A1, n1, c1, rfl, k1, f1⟩ := e0
  obtain ⟨A2, n2, c2, rfl, k2, f2⟩ := e1
  refine ⟨A1, n1, c1, A2, n2, c2, rfl, k1, k2, fun hs => ?_⟩
  obtain ⟨l1, e1, g1⟩ := f1 (by omega)
  obtain ⟨l2, e2, g2⟩ := f2 (by omega)
  exact ⟨⟨l1, l2⟩, e1, e2, _, _, rfl, g1, g2⟩
end Go.Proofs.Ytoagnajljdbobab
