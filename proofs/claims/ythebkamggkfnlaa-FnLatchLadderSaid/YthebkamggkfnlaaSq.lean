/- The specification's evaluation over an image, negation, used bits. -/
import Derived.Test.YthebkamggkfnlaaSe
import Derived.Test.YthebkamggkfnlaaIu
import Derived.Test.YthebkamggkfnlaaE
namespace Go.Proofs.Ythebkamggkfnlaa
open Go.RowKit
attribute [local go_sem ↓] Go.wp_at_zero Go.wp_at_succ

end Go.Proofs.Ythebkamggkfnlaa
