/- The reader's calls as operations of a region. -/
import Derived.Test.YtcpjafhhmhaenaaTZ
import Derived.Deep.Cut
namespace Go.Proofs.Ytcpjafhhmhaenaa
open Go.RowKit

theorem cf_pick (vs : Array Value) (w : World) : (callFunc 55 vs).run Try.prog w = .ok (.enter 55 vs) w :=
  cf_of Try.func55 (by kernel_rfl) (by kernel_rfl) vs w
section
variable {Q : Exit → Act → World → Prop} {g P0 : Nat} {w0 : World} {T : Nat → RT} {wt : Nat → Nat} {ops : Array Oper} {a0 : Act} {i : Nat} {o : Oper}
theorem ok_pick {x y : Operand} {tys : Array TypeId} {lo hi up : Int} (hw : wt i = 1) (ho : o.op = .call { callee := .value (.func 55), args := #[x, y], argTypes := tys })
    (hx : Knows g w0.heap.size T ops a0 o x (.val (isP (.pointer (some ⟨g, 0, none⟩))))) (hy : Knows g w0.heap.size T ops a0 o y (.val (intP lo hi))) (hb : hi ≤ 1000000) (hu : 0 ≤ up ∧ hi - 1 ≤ up) (hP : P0 + totL wt ops.size ≤ 1000000) (hT : T i = .val (intP 0 up)) :
    OpOK Try.prog Q (SG g w0.heap.size T) (LeG g) (MG g P0 w0) wt ops a0 i o :=
  ok_call ho cf_pick fun a w n k1 k2 hM hn => by
    have ex := hx a w k1 k2
    obtain ⟨m, em, m1, m2⟩ := hy a w k1 k2
    have e1 : (#[x, y] : Array Operand).map a.eval = #[.pointer (some ⟨g, 0, none⟩), .int .i64 m] := by
      have ex' : a.eval x = .pointer (some ⟨g, 0, none⟩) := ex
      simp [ex', em]
    rw [e1]
    refine (pick_any g (P0 + n) m w hM.1 (by omega) (by omega)).mono ?_
    rintro e w' ⟨r, rfl, hr, hR, hF⟩
    refine ⟨_, rfl, by rw [hT]; exact ⟨r, rfl, by omega, by omega⟩, hF, ?_⟩
    rw [hw]
    exact hR
end
theorem ld_int (w : World) (k j : Nat) (u : Value) (h : w.cell? ⟨k, j, none⟩ = some u) : (Instr.loadAt 3 (.pointer (some ⟨k, j, none⟩))).run Try.prog w = .ok u w := by
  simp [go_sem, h]
theorem st_int (w : World) (q c : Nat) (old : Value) (n : Int) (hc : w.cell? ⟨q, c, none⟩ = some old) (hz : w.frozen? ⟨q, c, none⟩ = false) : (Instr.storeAt 3 (.pointer (some ⟨q, c, none⟩)) (.int .i64 n)).run Try.prog w = .ok () (w.setCell ⟨q, c, none⟩ (.int .i64 n)) := by
  simp [go_sem, hc, hz]
theorem ld_bool (w : World) (k j : Nat) (u : Value) (h : w.cell? ⟨k, j, none⟩ = some u) : (Instr.loadAt 4 (.pointer (some ⟨k, j, none⟩))).run Try.prog w = .ok u w := by
  simp [go_sem, h]
theorem Fr.setRow {B g : Nat} {a w : World} (h : Fr B g a w) {q : Nat} (hq : B ≤ q) (cs : Array Value) : Fr B g a (w.setRow q cs) :=
  h.trans ⟨rfl, rfl, rfl, by simp [World.setRow], fun k hk _ => setRow_other w q k cs (by omega)⟩
theorem Rdr.setRow {w : World} {g P : Nat} (h : Rdr w g P) {q : Nat} (hq : g < q) (cs : Array Value) : Rdr (w.setRow q cs) g P :=
  h.keep ⟨rfl, rfl, rfl, by simp [World.setRow], fun k hk => setRow_other w q k cs (by omega)⟩
end Go.Proofs.Ytcpjafhhmhaenaa
