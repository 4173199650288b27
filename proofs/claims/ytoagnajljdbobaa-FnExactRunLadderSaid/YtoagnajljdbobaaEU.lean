/- The exact laws of RungValid and RungsIndependent: their walks. -/
import Derived.Test.YtoagnajljdbobaaER
import Derived.Test.YtoagnajljdbobaaRI
import Derived.Test.YtoagnajljdbobaaW
namespace Go.Proofs.Ytoagnajljdbobaa
open Go.RowKit
attribute [local go_sem ↓] Go.wp_at_zero Go.wp_at_succ

theorem OwnN.rung {w : World} {b : Nat} {A : Option Addr} {c : Nat} {l : List Nd} {x y : Int} (h : OwnN w b (.slice A l.length c) l) (hf : ∀ z ∈ l, ndFit z) (hl : l.length ≤ 1048576) (hx : fit64 x ∧ fit64 y) :
    RungR w w.heap.size (.agg #[.slice A l.length c, .int .i64 x, .int .i64 y]) ⟨l, x, y⟩ := ⟨_, rfl, OwnN.read h (show l.length ≤ 8796093022208 by omega) hf, hx⟩
end Go.Proofs.Ytoagnajljdbobaa
