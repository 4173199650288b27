/- Contracts of chapter 1: bits and words written by the specification. -/
import Derived.Test.YtikebldmbabmiaaH
namespace Go.Proofs.Ytikebldmbabmiaa
open Go.RowKit
attribute [local go_sem ↓] Go.wp_at_zero Go.wp_at_succ

end Go.Proofs.Ytikebldmbabmiaa
