/- Timers: the exact laws' helpers; the draws. -/
import Derived.Test.YtldlfailmmmdmaaTW
import Derived.Test.YtldlfailmmmdmaaV
import Derived.Deep.RegionHeld3
namespace Go.Proofs.Ytldlfailmmmdmaa
open Go.RowKit
attribute [local go_sem ↓] Go.wp_at_zero Go.wp_at_succ

def smallT (t : Tm) : Prop := (0 ≤ t.kind ∧ t.kind ≤ 4) ∧ (-1 ≤ t.pre ∧ t.pre ≤ 10001) ∧ (-1 ≤ t.el ∧ t.el ≤ 10001)
theorem smallT.fit {t : Tm} (h : smallT t) : fitT t := by unfold smallT at h; unfold fitT; omega
def DrawT (w : World) (e : Ending) (w' : World) : Prop := ∃ t, e = .returned (tmV t) ∧ smallT t ∧ Below w.heap.size w w'
def DrawTBI (w : World) (e : Ending) (w' : World) : Prop := ∃ t x d, e = .returned (.tuple #[tmV t, .bool x, .int .i64 d]) ∧ smallT t ∧ (-1 ≤ d ∧ d ≤ 1001) ∧ Below w.heap.size w w'
def DrawTSI (w : World) (e : Ending) (w' : World) : Prop := ∃ t A c l d, e = .returned (.tuple #[tmV t, .slice A l.length c, .int .i64 d]) ∧ smallT t ∧ OwnB w' w.heap.size (.slice A l.length c) l ∧ l.length ≤ 201 ∧ (-1 ≤ d ∧ d ≤ 1001) ∧ Below w.heap.size w w'
end Go.Proofs.Ytldlfailmmmdmaa
