/- The document's Spans. -/
import Derived.Test.YtkkcpofaiocjpabTraSpans
set_option maxRecDepth 100000
namespace Go.Proofs.Ytkkcpofaiocjpab
open Go.RowKit

end Go.Proofs.Ytkkcpofaiocjpab
