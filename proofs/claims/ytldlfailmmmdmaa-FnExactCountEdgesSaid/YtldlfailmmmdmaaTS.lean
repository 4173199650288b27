/- Timers: plain facts; the specification's functions. -/
import Derived.Test.YtldlfailmmmdmaaTQ
import Derived.Test.YtldlfailmmmdmaaLC
namespace Go.Proofs.Ytldlfailmmmdmaa
open Go.RowKit
attribute [local go_sem ↓] Go.wp_at_zero Go.wp_at_succ

structure Tm where
  kind : Int
  pre : Int
  el : Int
  bef : Bool
  out : Bool
def tmV (t : Tm) : Value := .agg #[.int .i64 t.kind, .int .i64 t.pre, .int .i64 t.el, .bool t.bef, .bool t.out]
def fitT (t : Tm) : Prop := (-9223372036854775808 ≤ t.kind ∧ t.kind ≤ 9223372036854775807) ∧ (-9223372036854775808 ≤ t.pre ∧ t.pre ≤ 9223372036854775807) ∧ (-9223372036854775808 ≤ t.el ∧ t.el ≤ 9223372036854775807)
def tvalid (t : Tm) : Bool := inB t.kind 1 3 && (inB t.pre 0 10000 && inB t.el 0 t.pre)
def tzero : Tm := ⟨0, 0, 0, false, false⟩
def tmore (t : Tm) (dt : Int) : Int := if t.el + dt < t.pre then t.el + dt else t.pre
def tstep (t : Tm) (x : Bool) (dt : Int) : Tm :=
  if t.kind = 1 then (if x && t.bef then ⟨t.kind, t.pre, tmore t dt, x, decide (tmore t dt = t.pre)⟩ else ⟨t.kind, t.pre, 0, x, x && decide (0 = t.pre)⟩)
  else if t.kind = 2 then (if x then ⟨t.kind, t.pre, 0, x, true⟩ else ⟨t.kind, t.pre, tmore t dt, x, t.out && decide (tmore t dt < t.pre)⟩)
  else if (x && !t.bef) && !(t.out && decide (t.el < t.pre)) then ⟨t.kind, t.pre, 0, x, decide (0 < t.pre)⟩ else ⟨t.kind, t.pre, tmore t dt, x, t.out && decide (tmore t dt < t.pre)⟩
theorem tvalid_parts {t : Tm} (h : tvalid t = true) : (1 ≤ t.kind ∧ t.kind ≤ 3) ∧ (0 ≤ t.pre ∧ t.pre ≤ 10000) ∧ (0 ≤ t.el ∧ t.el ≤ t.pre) := by
  unfold tvalid inB at h; simp at h; omega
def TmPost (t : Tm) (w : World) (e : Ending) (w' : World) : Prop := e = .returned (tmV t) ∧ Below w.heap.size w w'
end Go.Proofs.Ytldlfailmmmdmaa
