/- The specification's functions of chapter 2: validity and evaluation. -/
import Derived.Test.YthebkamggkfnlaaNm
import Derived.WalkSmall
import Derived.StillTailTactics
namespace Go.Proofs.Ythebkamggkfnlaa
open Go.RowKit

end Go.Proofs.Ythebkamggkfnlaa
