/- The document's Write. -/
import Derived.Test.YtafkkehcacdodaaSecRef5
set_option maxRecDepth 100000
namespace Go.Proofs.Ytafkkehcacdodaa
open Go.RowKit
attribute [local go_sem ↓] Go.wp_at_zero Go.wp_at_succ

end Go.Proofs.Ytafkkehcacdodaa
