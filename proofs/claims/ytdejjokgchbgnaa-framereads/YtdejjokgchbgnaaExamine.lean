/- The contract of examine. -/
import Derived.Test.YtdejjokgchbgnaaIpSmall
set_option maxRecDepth 100000
namespace Go.Proofs.Ytdejjokgchbgnaa
open Go.RowKit
