/- The law of EdgeTrace: its walk. -/
import Derived.Test.YtldlfailmmmdmaaLC
import Derived.Test.YtldlfailmmmdmaaLD
import Derived.Test.YtldlfailmmmdmaaS
import Derived.Test.YtldlfailmmmdmaaW
namespace Go.Proofs.Ytldlfailmmmdmaa
open Go.RowKit
attribute [local go_sem ↓] Go.wp_at_zero Go.wp_at_succ

def bit (b : Bool) : Int := if b then 1 else 0
theorem edgesTo_get (f : Bool) (l : List Bool) (k : Nat) (h : k < l.length) : (edgesTo f l l.length)[k]'(by rw [edgesTo_len]; exact h) = riseB (befAt f l k) l[k] := by
  simp [edgesTo, edgeAt, List.getD, List.getElem?_eq_getElem h]
end Go.Proofs.Ytldlfailmmmdmaa
