/- The opening of a timer that a law takes: three ints and two truth values, in one struct. -/
import Derived.Test.YtikebldmbabmiaaTS
import Derived.Lib.SmallJoins
import Derived.OpenShut
import Derived.ProofKit
import Derived.ChangeOld
namespace Go.Proofs.Ytikebldmbabmiaa
open Go.ChangeShapes Go.WideShapes Go.ChangeAt Go.RowKit

set_option maxRecDepth 100000 in
theorem lawTimer_cells : Try.prog.cellsOf 41 = 5 := by kernel_rfl
set_option maxRecDepth 100000 in
theorem intT_cells : Try.prog.cellsOf 3 = 1 := by kernel_rfl
set_option maxRecDepth 100000 in
theorem boolT_cells : Try.prog.cellsOf 4 = 1 := by kernel_rfl
theorem array5 {α : Type} {cs : Array α} (h : cs.size = 5) : ∃ c0 c1 c2 c3 c4, cs = #[c0, c1, c2, c3, c4] := by
  obtain ⟨l⟩ := cs
  match l, h with
  | [c0, c1, c2, c3, c4], _ => exact ⟨c0, c1, c2, c3, c4, rfl⟩
set_option maxRecDepth 100000 in
theorem open_timer {H : Type} {enc : TypeId × Value → H} {w : World} {r : Reach} {b0 : Nat} {v : Value} {d : DataW H} {p : List MemPlace}
    (hv : Value.okWide Try.prog w r b0 41 v)
    (h : DataW.Trod enc Try.prog w 0 (fun _ => true) true 41 v d p) :
    ∃ t : Tm, v = tmV t ∧ fitT t := by
  obtain ⟨cs, rfl, hsz⟩ := okWide_struct Try.underlying41 hv
  obtain ⟨c0, c1, c2, c3, c4, rfl⟩ := array5 (hsz.trans lawTimer_cells)
  obtain ⟨fuel, hf⟩ := h
  obtain ⟨ys, n', -, -, -, hys, hg⟩ := DataW.trod_struct Try.underlying41 hf
  obtain ⟨y0, y1, y2, y3, y4, rfl⟩ : ∃ y0 y1 y2 y3 y4, ys = [y0, y1, y2, y3, y4] := by
    match ys, hys with
    | [y0, y1, y2, y3, y4], _ => exact ⟨y0, y1, y2, y3, y4, rfl⟩
  have h0 := hg 0 _ rfl
  have h1 := hg 1 _ rfl
  have h2 := hg 2 _ rfl
  have h3 := hg 3 _ rfl
  have h4 := hg 4 _ rfl
  clear hg hys hf
  simp [Value.cells, intT_cells, boolT_cells] at h0 h1 h2 h3 h4
  obtain ⟨x0, e0, -, wf0⟩ := DataW.trod_int Try.underlying3 h0
  obtain ⟨x1, e1, -, wf1⟩ := DataW.trod_int Try.underlying3 h1
  obtain ⟨x2, e2, -, wf2⟩ := DataW.trod_int Try.underlying3 h2
  obtain ⟨x3, e3, -⟩ := DataW.trod_bool Try.underlying4 h3
  obtain ⟨x4, e4, -⟩ := DataW.trod_bool Try.underlying4 h4
  simp at e0 e1 e2 e3 e4
  subst e0; subst e1; subst e2; subst e3; subst e4
  simp [Lit.wf, IntKind.min, IntKind.max, IntKind.signed, IntKind.bits] at wf0 wf1 wf2
  exact ⟨⟨x0, x1, x2, x3, x4⟩, rfl, by unfold fitT; simp only; omega⟩
end Go.Proofs.Ytikebldmbabmiaa
