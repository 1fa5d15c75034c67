/- The contracts of lay, isPort, shown, word and Pseudo, and of Pseudo in the document's own answer. -/
import Derived.Test.YtejknbkleinjbaaRow
import Derived.Test.YtejknbkleinjbaaUdpMath
namespace Go.Proofs.Ytejknbkleinjbaa
open Go.RowKit

theorem umake12 : ∃ Z : Array Value, Hid (∀ j, j < 12 → Z[j]? = some (.int .u8 0)) ∧ ∀ W : World, (Instr.makeSlice 24 (.int .i64 12) (.int .i64 12)).run Try.prog W = .ok (.slice (some ⟨W.heap.size, 0, none⟩) 12 12) (W.alloc (.cells Z 5)) := by
  refine ⟨madeCells #[.int .u8 0] 12, ?_, fun W => run_make_row' (P := Try.prog) 24 5 (.int .u8 0) 1 Try.underlying24 info5 rfl .i64 .i64 12 (by decide) (by decide) W⟩
  show ∀ j, j < 12 → (madeCells #[.int .u8 0] 12)[j]? = some (.int .u8 0)
  intro j hj
  simp [madeCells, hj, Nat.mod_one]

theorem umake8 : ∃ Z : Array Value, Hid (∀ j, j < 8 → Z[j]? = some (.int .u8 0)) ∧ ∀ W : World, (Instr.makeSlice 24 (.int .i64 8) (.int .i64 8)).run Try.prog W = .ok (.slice (some ⟨W.heap.size, 0, none⟩) 8 8) (W.alloc (.cells Z 5)) := by
  refine ⟨madeCells #[.int .u8 0] 8, ?_, fun W => run_make_row' (P := Try.prog) 24 5 (.int .u8 0) 1 Try.underlying24 info5 rfl .i64 .i64 8 (by decide) (by decide) W⟩
  show ∀ j, j < 8 → (madeCells #[.int .u8 0] 8)[j]? = some (.int .u8 0)
  intro j hj
  simp [madeCells, hj, Nat.mod_one]

theorem zeros_sees (w : World) (Z : Array Value) (n : Nat) (h : ∀ j, j < n → Z[j]? = some (.int .u8 0)) : Sees (w.alloc (.cells Z 5)) w.heap.size 0 (List.replicate n 0) := by
  intro i hi
  rw [List.length_replicate] at hi
  rw [Nat.zero_add, World.cell?_alloc_mark w Z 5 (0, 0) i]
  rw [show (List.replicate n (0 : Int)).getD i 0 = 0 by simp [List.getD, hi]]
  exact h i hi

theorem u64_wrap (x : Int) : IntKind.u64.wrap x = x % 18446744073709551616 := IntKind.wrap_u64 x
