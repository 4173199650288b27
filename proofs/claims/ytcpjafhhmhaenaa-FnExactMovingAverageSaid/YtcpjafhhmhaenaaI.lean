/- Contracts of chapter 1: bits and words written by the specification. -/
import Derived.Test.YtcpjafhhmhaenaaH
namespace Go.Proofs.Ytcpjafhhmhaenaa
open Go.RowKit
attribute [local go_sem ↓] Go.wp_at_zero Go.wp_at_succ

end Go.Proofs.Ytcpjafhhmhaenaa
