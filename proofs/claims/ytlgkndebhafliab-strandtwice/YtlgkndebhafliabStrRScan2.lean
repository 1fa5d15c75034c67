/- The document's Scan; two lists of records. -/
import Derived.Test.YtlgkndebhafliabStrRScan
import Derived.Test.YtlgkndebhafliabSecAwake
set_option maxRecDepth 100000
namespace Go.Proofs.Ytlgkndebhafliab
open Go.RowKit

end Go.Proofs.Ytlgkndebhafliab
