/- Rows of bytes that the document's side makes: parts, what is laid, what is appended. -/
import Derived.Test.YtafkkehcacdodaaGreatStrMath
import Derived.Test.YtafkkehcacdodaaGreatRowA
import Derived.Test.YtafkkehcacdodaaGreatSecSmall2
import Derived.Test.YtafkkehcacdodaaGreatNum
import Derived.Deep.OwnRows
import Derived.Deep.RegionHeld3
set_option maxRecDepth 100000
namespace Go.Proofs.YtafkkehcacdodaaGreat
open Go.RowKit

end Go.Proofs.YtafkkehcacdodaaGreat
