/- Contracts of chapter 1: bits and words written by the specification. -/
import Derived.Test.YtoagnajljdbobabH
namespace Go.Proofs.Ytoagnajljdbobab
open Go.RowKit
attribute [local go_sem ↓] Go.wp_at_zero Go.wp_at_succ

end Go.Proofs.Ytoagnajljdbobab
