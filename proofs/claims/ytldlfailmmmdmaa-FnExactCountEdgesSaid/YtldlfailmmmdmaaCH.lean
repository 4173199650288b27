/- The opening of a counter that a law takes: two ints and two truth values, in one struct. -/
import Derived.Test.YtldlfailmmmdmaaCS
import Derived.Test.YtldlfailmmmdmaaTH
namespace Go.Proofs.Ytldlfailmmmdmaa
open Go.ChangeShapes Go.WideShapes Go.ChangeAt Go.RowKit

set_option maxRecDepth 100000 in
theorem lawCounter_cells : Try.prog.cellsOf 38 = 4 := by kernel_rfl
theorem array4c {α : Type} {cs : Array α} (h : cs.size = 4) : ∃ c0 c1 c2 c3, cs = #[c0, c1, c2, c3] := by
  obtain ⟨l⟩ := cs
  match l, h with
  | [c0, c1, c2, c3], _ => exact ⟨c0, c1, c2, c3, rfl⟩
set_option maxRecDepth 100000 in
theorem open_counter {H : Type} {enc : TypeId × Value → H} {w : World} {r : Reach} {b0 : Nat} {v : Value} {d : DataW H} {p : List MemPlace}
    (hv : Value.okWide Try.prog w r b0 38 v)
    (h : DataW.Trod enc Try.prog w 0 (fun _ => true) true 38 v d p) :
    ∃ c : Cn, v = cnV c ∧ fitC c := by
  obtain ⟨cs, rfl, hsz⟩ := okWide_struct Try.underlying38 hv
  obtain ⟨c0, c1, c2, c3, rfl⟩ := array4c (hsz.trans lawCounter_cells)
  obtain ⟨fuel, hf⟩ := h
  obtain ⟨ys, n', -, -, -, hys, hg⟩ := DataW.trod_struct Try.underlying38 hf
  obtain ⟨y0, y1, y2, y3, rfl⟩ : ∃ y0 y1 y2 y3, ys = [y0, y1, y2, y3] := by
    match ys, hys with
    | [y0, y1, y2, y3], _ => exact ⟨y0, y1, y2, y3, rfl⟩
  have h0 := hg 0 _ rfl
  have h1 := hg 1 _ rfl
  have h2 := hg 2 _ rfl
  have h3 := hg 3 _ rfl
  clear hg hys hf
  simp [Value.cells, intT_cells, boolT_cells] at h0 h1 h2 h3
  obtain ⟨x0, e0, -, wf0⟩ := DataW.trod_int Try.underlying3 h0
  obtain ⟨x1, e1, -, wf1⟩ := DataW.trod_int Try.underlying3 h1
  obtain ⟨x2, e2, -⟩ := DataW.trod_bool Try.underlying4 h2
  obtain ⟨x3, e3, -⟩ := DataW.trod_bool Try.underlying4 h3
  simp at e0 e1 e2 e3
  subst e0; subst e1; subst e2; subst e3
  simp [Lit.wf, IntKind.min, IntKind.max, IntKind.signed, IntKind.bits] at wf0 wf1
  exact ⟨⟨x0, x1, x2, x3⟩, rfl, by unfold fitC; simp only; omega⟩
end Go.Proofs.Ytldlfailmmmdmaa
