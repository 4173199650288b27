/- Chapter 4: edge traces and filters of signals, in the program and in the specification. -/
import Derived.Test.YtcpjafhhmhaenaaLA
import Derived.Test.YtcpjafhhmhaenaaE
import Derived.Test.YtcpjafhhmhaenaaEA
import Derived.Test.YtcpjafhhmhaenaaIq
namespace Go.Proofs.Ytcpjafhhmhaenaa
open Go.RowKit
attribute [local go_sem ↓] Go.wp_at_zero Go.wp_at_succ

theorem cell_bool {w : World} {B : Nat} {A : Option Addr} {l : List Bool} (h : Rd w B 1 A l.length (l.map .bool)) {k : Nat} (hk : k < l.length) : ∃ p, A = some p ∧ p.block < B ∧ w.cell? (p.add k) = some (.bool l[k]) := by
  obtain ⟨p, u, rfl, hpb, hu, hc⟩ := h.one hk
  have hx : u = Value.bool l[k] := by rw [List.getElem?_map, List.getElem?_eq_getElem hk] at hu; simpa using hu.symm
  subst hx
  exact ⟨p, rfl, hpb, hc⟩
end Go.Proofs.Ytcpjafhhmhaenaa
