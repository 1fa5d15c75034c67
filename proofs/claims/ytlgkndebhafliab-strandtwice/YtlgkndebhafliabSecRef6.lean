/- The document's Write. -/
import Derived.Test.YtlgkndebhafliabSecRef5
set_option maxRecDepth 100000
namespace Go.Proofs.Ytlgkndebhafliab
open Go.RowKit
attribute [local go_sem ↓] Go.wp_at_zero Go.wp_at_succ

theorem infoRW : (Try.prog.info? 128).map (fun i => (i.zero, i.size, i.bytes)) = some (some (.agg #[.int .i64 0, .slice none 0 0]), 2, 32) := by kernel_rfl

end Go.Proofs.Ytlgkndebhafliab
