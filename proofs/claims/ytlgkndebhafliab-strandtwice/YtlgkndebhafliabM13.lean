/- The document's first and Scan. -/
import Derived.Test.YtlgkndebhafliabStrRow
import Derived.Test.YtlgkndebhafliabM12
import Derived.Test.YtlgkndebhafliabM7
set_option maxRecDepth 100000
namespace Go.Proofs.Ytlgkndebhafliab
open Go.RowKit

/-- What first answers. -/
def FirstPost (w : World) (l : List Int) (e : Ending) (w' : World) : Prop :=
  (okB l = false ∧ e = .returned (.tuple #[.slice none 0 0, .int .i64 0]) ∨ okB l = true ∧ ∃ v, e = .returned (.tuple #[v, .int .i64 ((bodyB l).length + 7)]) ∧ Owns w' w.heap.size v (bodyB l)) ∧ Below w.heap.size w w'

theorem okB_not {l : List Int} (h : ¬ (2 ≤ l.length ∧ l.getD 0 0 = 90 ∧ 1 ≤ l.getD 1 0 ∧ l.getD 1 0 ≤ 56 ∧ (l.getD 1 0).toNat + 7 ≤ l.length ∧ l.getD ((l.getD 1 0).toNat + 6) 0 = 165)) : okB l = false := by
  unfold okB
  rw [decide_eq_false_iff_not]
  rintro ⟨h1, h2, h3, h4, h5, h6, _⟩
  exact h ⟨h1, h2, h3, h4, h5, h6⟩

end Go.Proofs.Ytlgkndebhafliab

namespace Go.Proofs.Ytlgkndebhafliab
open Go.RowKit

end Go.Proofs.Ytlgkndebhafliab
