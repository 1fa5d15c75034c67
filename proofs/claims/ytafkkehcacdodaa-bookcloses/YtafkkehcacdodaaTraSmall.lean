/- Small functions of trace and of the document: shut, ahead, end; fair, subs, Same; open, At, meet. -/
import Derived.Test.YtafkkehcacdodaaM18
import Derived.Test.YtafkkehcacdodaaTraKey
import Derived.BigQuiet
set_option maxRecDepth 100000
namespace Go.Proofs.Ytafkkehcacdodaa
open Go.RowKit

set_option maxHeartbeats 1000000 in
theorem shut_any (s : Sp) (t : Int) (w : World) : Calls Try.prog 52 #[spV s, .int .i64 t] w fun e w' => e = .returned (spV (shutS s t)) ∧ Below w.heap.size w w' := by
  obtain ⟨a0, a1, a2, a3, a4, a5⟩ := s
  go_enter Try.func52, Try.ntmps52
  go_wp2
  all_goals
    refine bodyPost_ret (v := spV (shutS ⟨a0, a1, a2, a3, a4, a5⟩ t)) ?_ rfl ⟨rfl, ?_⟩
    · simp [results, Try.results52, go_sem, shutS]
      omega
    · exact (((Below.refl _ w).alloc (Nat.le_refl _) _).alloc (by simp) _)

theorem ahead_any (t : Int) (w : World) (h0 : -9223372036854775808 ≤ t) (h1 : t ≤ 9223372036854775807) : Calls Try.prog 53 #[.int .i64 t] w fun e w' => e = .returned (.int .i64 (aheadT t)) ∧ w' = w := by
  go_enter Try.func53, Try.ntmps53
  go_wp2
  all_goals
    go_ret
    exact ⟨by unfold aheadT; simp; omega, rfl⟩

/-- The document's open. -/
def openN (o : Option Nat) : Int := match o with | some i => i | none => -1

end Go.Proofs.Ytafkkehcacdodaa
