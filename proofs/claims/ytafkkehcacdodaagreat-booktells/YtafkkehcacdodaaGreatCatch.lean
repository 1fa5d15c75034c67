/- The contracts of the deferred functions of Build and Parse. -/
import Derived.Test.YtafkkehcacdodaaGreatRefuse
import Derived.Defers
import Derived.Recover
import Derived.Laws.Pointers
import Derived.Laws.IdiomStrings
import Derived.RegionTactic
import Derived.ChangeAlike
import Derived.BigRegion
set_option maxRecDepth 100000
namespace Go.Proofs.YtafkkehcacdodaaGreat
open Go.RowKit

/-- The cells of two variables that were made, in a later world. -/
theorem two_cells {v w' : World} {C C' : Array Value} {t t' : TypeId} (hb : Below ((v.alloc (.cells C t)).alloc (.cells C' t')).heap.size ((v.alloc (.cells C t)).alloc (.cells C' t')) w') :
    (∀ i x, C[i]? = some x → w'.cell? ⟨v.heap.size, i, none⟩ = some x) ∧ (∀ i, w'.frozen? ⟨v.heap.size, i, none⟩ = false) ∧
    (∀ i x, C'[i]? = some x → w'.cell? ⟨v.heap.size + 1, i, none⟩ = some x) ∧ (∀ i, w'.frozen? ⟨v.heap.size + 1, i, none⟩ = false) := by
  have hsz : ((v.alloc (.cells C t)).alloc (.cells C' t')).heap.size = v.heap.size + 1 + 1 := by simp
  have b1 : Below (v.alloc (.cells C t)).heap.size (v.alloc (.cells C t)) w' := below_trans (below_alloc _ _) hb
  refine ⟨fun i x hx => ?_, fun i => ?_, fun i x hx => ?_, fun i => ?_⟩
  · refine cell_later b1 ?_
    rw [World.cell?_alloc_mark v C t (0, 0) i]; exact hx
  · rw [b1.frozen (by simp), World.frozen?_alloc_mark v C t 0 0 i]; simp
  · refine cell_later hb ?_
    have := World.cell?_alloc_mark (v.alloc (.cells C t)) C' t' (0, 0) i
    rw [show (v.alloc (.cells C t)).heap.size = v.heap.size + 1 by simp] at this
    rw [this]; exact hx
  · rw [hb.frozen (by rw [hsz]; exact Nat.lt_succ_self _)]
    have := World.frozen?_alloc_mark (v.alloc (.cells C t)) C' t' 0 0 i
    rw [show (v.alloc (.cells C t)).heap.size = v.heap.size + 1 by simp] at this
    rw [this]; simp

theorem assert_errno (v : Value) (w : World) : (Instr.typeAssert (.iface 26 v) 20 26 false).run Tryz.prog w = .ok v w := by
  simp [Instr.typeAssert, run_underlying Tryz.underlying26]
