/- The law of EdgeTrace: its walk. -/
import Derived.Test.YtikebldmbabmiaaLC
import Derived.Test.YtikebldmbabmiaaLD
import Derived.Test.YtikebldmbabmiaaS
import Derived.Test.YtikebldmbabmiaaW
namespace Go.Proofs.Ytikebldmbabmiaa
open Go.RowKit
attribute [local go_sem ↓] Go.wp_at_zero Go.wp_at_succ

def bit (b : Bool) : Int := if b then 1 else 0
theorem edgesTo_get (f : Bool) (l : List Bool) (k : Nat) (h : k < l.length) : (edgesTo f l l.length)[k]'(by rw [edgesTo_len]; exact h) = riseB (befAt f l k) l[k] := by
  simp [edgesTo, edgeAt, List.getD, List.getElem?_eq_getElem h]
theorem bools_same (v1 v2 : Value) (a : List Bool) (w : World) (h1 : BoolsR w w.heap.size v1 a) (h2 : BoolsR w w.heap.size v2 a) :
    Calls Try.prog 26 #[v1, v2] w fun e w' => e = .returned (.bool true) ∧ Below w.heap.size w w' :=
  (sameBools_any v1 v2 a a w h1 h2).mono fun _ _ ⟨he, hb⟩ => ⟨by rw [he]; simp [sameL], hb⟩
end Go.Proofs.Ytikebldmbabmiaa
