/- The contract of Quote in the document's own answer: ports and echoes. -/
import Derived.Test.YtdejjokgchbgnaaFrameRquote2
set_option maxRecDepth 100000
namespace Go.Proofs.Ytdejjokgchbgnaa
open Go.RowKit
attribute [local go_sem ↓] Go.wp_at_zero Go.wp_at_succ

/-- Two bytes, in the walk's own words. -/
theorem two_bytes (x y : Int) (hx : 0 ≤ x ∧ x < 256) (hy : 0 ≤ y ∧ y < 256) : bits .or .i64 (x * 256) y = x * 256 + y ∧ IntKind.i64.wrap x = x ∧ IntKind.i64.wrap (x * 256) = x * 256 ∧ IntKind.i64.wrap y = y := by
  obtain ⟨x0, x1⟩ := hx
  obtain ⟨y0, y1⟩ := hy
  exact ⟨or_i64 8 (x * 256) y (by omega) (by omega) (by omega) y0 (by omega) (by omega), i64_id _ (by omega) (by omega), i64_id _ (by omega) (by omega), i64_id _ (by omega) (by omega)⟩
end Go.Proofs.Ytdejjokgchbgnaa
