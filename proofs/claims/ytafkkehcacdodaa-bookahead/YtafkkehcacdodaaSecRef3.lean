/- The document's New, Read. -/
import Derived.Test.YtafkkehcacdodaaSecRef2
import Derived.Deep.OwnRows
set_option maxRecDepth 100000
namespace Go.Proofs.Ytafkkehcacdodaa
open Go.RowKit
attribute [local go_sem ↓] Go.wp_at_zero Go.wp_at_succ

/-- Tags of a new disk's blocks. -/
def tagM (tag : Nat → Nat) (N o M S T : Nat) : Nat → Nat := fun k => if k < N then tag k else if k = M then 16 * o + 1 else if k = S then 16 * o + 2 else if k = T then 16 * o + 3 else 0

theorem made_zero5 (n : Nat) : (madeCells #[Value.int .u8 0] n).toList = bytesV (zeros n) := by
  apply List.ext_getElem?
  intro j
  by_cases hj : j < n
  · simp [madeCells, hj, zeros, Nat.mod_one]
  · simp [madeCells, hj, zeros]

theorem row_made (w w' : World) (n : Nat) (Z : Array Value) (hZ : Z.toList = bytesV (zeros n)) (hn : n ≤ maxLen) (h : Below (w.alloc (.cells Z 5)).heap.size (w.alloc (.cells Z 5)) w') : Row w' 1 w.heap.size n n (bytesV (zeros n)) := by
  refine ⟨by simp [zeros], Nat.le_refl _, hn, _, (blk_new w Z 5).later h, ?_, ?_⟩
  · rw [hZ]; simp [zeros]
  · rw [hZ]; simp [zeros]

end Go.Proofs.Ytafkkehcacdodaa
