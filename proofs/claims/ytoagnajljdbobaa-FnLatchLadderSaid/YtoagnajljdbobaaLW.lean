/- The laws of chapter 4 on truth values: their walks. -/
import Derived.Test.YtoagnajljdbobaaLA
import Derived.Test.YtoagnajljdbobaaLD
import Derived.Test.YtoagnajljdbobaaW
namespace Go.Proofs.Ytoagnajljdbobaa
open Go.RowKit
attribute [local go_sem ↓] Go.wp_at_zero Go.wp_at_succ

theorem iSetD_b (s a r q : Bool) (h : setD s a r = q) (w : World) :
    Calls Try.prog 76 #[.bool s, .bool a, .bool r] w fun e w' => e = .returned (.bool q) ∧ w = w' := by subst h; exact iSetDominant_any s a r w
theorem iResD_b (s a r q : Bool) (h : resD s a r = q) (w : World) :
    Calls Try.prog 75 #[.bool s, .bool a, .bool r] w fun e w' => e = .returned (.bool q) ∧ w = w' := by subst h; exact iResetDominant_any s a r w
theorem sResD_b (s a r q : Bool) (h : resD s a r = q) (w : World) :
    Calls Try.prog 77 #[.bool s, .bool a, .bool r] w fun e w' => e = .returned (.bool q) ∧ w = w' := by subst h; exact sResetDominant_any s a r w
end Go.Proofs.Ytoagnajljdbobaa
