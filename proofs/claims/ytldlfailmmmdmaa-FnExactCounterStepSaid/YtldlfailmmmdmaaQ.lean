/- Contracts of the drawn words and images. -/
import Derived.Test.YtldlfailmmmdmaaP
namespace Go.Proofs.Ytldlfailmmmdmaa
open Go.RowKit
attribute [local go_sem ↓] Go.wp_at_zero Go.wp_at_succ

def WordPost (g P : Nat) (w : World) (e : Ending) (w' : World) : Prop := ∃ x : Int, e = .returned (.int .i64 x) ∧ -40000 ≤ x ∧ x ≤ 40000 ∧ Rdr w' g (P + 7) ∧ Fr w.heap.size g w w'
end Go.Proofs.Ytldlfailmmmdmaa
