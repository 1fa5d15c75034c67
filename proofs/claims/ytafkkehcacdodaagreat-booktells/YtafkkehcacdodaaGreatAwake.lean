/- The contract of awake. -/
import Derived.Test.YtafkkehcacdodaaGreatSum
set_option maxRecDepth 100000
namespace Go.Proofs.YtafkkehcacdodaaGreat
open Go.RowKit

theorem sees_new3 (w : World) (x y z : Int) : Sees (w.alloc (.cells #[.int .u8 x, .int .u8 y, .int .u8 z] 5)) w.heap.size 0 [x, y, z] := by
  intro i hi
  have : i = 0 ∨ i = 1 ∨ i = 2 := by simp at hi; omega
  rcases this with rfl | rfl | rfl <;> simp [go_sem]

theorem bts_new1 (w : World) (N : Nat) (x : Int) (hN : N = w.heap.size) (hx : 0 ≤ x ∧ x < 256) : Bts (w.alloc (.cells #[.int .u8 x] 5)) (.slice (some ⟨N, 0, none⟩) 1 1) [x] := by
  subst hN
  refine ⟨_, 1, w.heap.size, 0, rfl, by simp, by decide, ?_, .inl rfl, ?_⟩
  · intro z hz; simp at hz; subst hz; exact hx
  · intro i hi
    have : i = 0 := by simp at hi; omega
    subst this
    simp
