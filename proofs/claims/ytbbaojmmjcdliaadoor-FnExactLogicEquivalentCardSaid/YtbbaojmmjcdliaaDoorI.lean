/- Contracts of chapter 1: bits and words written by the specification. -/
import Derived.Test.YtbbaojmmjcdliaaDoorH
namespace Go.Proofs.YtbbaojmmjcdliaaDoor
open Go.RowKit
attribute [local go_sem ↓] Go.wp_at_zero Go.wp_at_succ

end Go.Proofs.YtbbaojmmjcdliaaDoor
