/- The document's Add. -/
import Derived.Test.YtafkkehcacdodaaSecRef
set_option maxRecDepth 100000
namespace Go.Proofs.Ytafkkehcacdodaa
open Go.RowKit
attribute [local go_sem ↓] Go.wp_at_zero Go.wp_at_succ

theorem add_nil (s : St) : s.add [] = s := by simp [St.add]
theorem add_snoc (s : St) (l : List Int) (k : Nat) (h : k < l.length) : s.add (l.take (k + 1)) = (s.add (l.take k)).add [l.getD k 0] := by
  rw [take_snoc l k h]; simp [St.add]

end Go.Proofs.Ytafkkehcacdodaa
