/- The contracts of in, Lay and Build in the document's own answer. -/
import Derived.Test.YtdejjokgchbgnaaRow
import Derived.Test.YtdejjokgchbgnaaRword
import Derived.Test.YtdejjokgchbgnaaHeader
set_option maxRecDepth 100000
namespace Go.Proofs.Ytdejjokgchbgnaa
open Go.RowKit

theorem in_any (x m : Int) (w : World) : Calls Try.prog 24 #[.int .i64 x, .int .i64 m] w fun e w' => e = .returned (.bool (inBb x m)) ∧ w' = w := by
  by_cases h0 : 0 ≤ x
  · by_cases h1 : x ≤ m
    · have E : Hid (inBb x m = true) := decide_eq_true (show inB x m from ⟨h0, h1⟩)
      go_enter Try.func24, Try.ntmps24
      go_wp2
      go_ret
      exact ⟨ret_bool E.out.symm, rfl⟩
    · have E : Hid (inBb x m = false) := decide_eq_false (fun h : inB x m => h1 h.2)
      go_enter Try.func24, Try.ntmps24
      go_wp2
      go_ret
      exact ⟨ret_bool E.out.symm, rfl⟩
  · have E : Hid (inBb x m = false) := decide_eq_false (fun h : inB x m => h0 h.1)
    go_enter Try.func24, Try.ntmps24
    go_wp2
    go_ret
    exact ⟨ret_bool E.out.symm, rfl⟩

end Go.Proofs.Ytdejjokgchbgnaa
