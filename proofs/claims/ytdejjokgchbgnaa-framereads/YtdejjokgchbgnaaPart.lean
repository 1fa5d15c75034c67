/- The contract of Part. -/
import Derived.Test.YtdejjokgchbgnaaRow
import Derived.Test.YtdejjokgchbgnaaMeasured
import Derived.Test.YtdejjokgchbgnaaCopy
set_option maxRecDepth 100000
namespace Go.Proofs.Ytdejjokgchbgnaa
open Go.RowKit

end Go.Proofs.Ytdejjokgchbgnaa
