/- same: are two lists of records one? -/
import Derived.Test.YtafkkehcacdodaaGreatStrRScan2
import Derived.Test.YtafkkehcacdodaaGreatStrAwake
import Derived.BigQuiet
set_option maxRecDepth 100000
namespace Go.Proofs.YtafkkehcacdodaaGreat
open Go.RowKit
attribute [local go_sem ↓] Go.wp_at_zero Go.wp_at_succ

end Go.Proofs.YtafkkehcacdodaaGreat
