/- Small functions of trace and of the document: shut, ahead, end; fair, subs, Same; open, At, meet. -/
import Derived.Test.YtkkcpofaiocjpabTraRow
import Derived.Test.YtkkcpofaiocjpabTraKey
import Derived.BigQuiet
set_option maxRecDepth 100000
namespace Go.Proofs.Ytkkcpofaiocjpab
open Go.RowKit

set_option maxHeartbeats 1000000 in
theorem shut_any (s : Sp) (t : Int) (w : World) : Calls Try.prog 17 #[spV s, .int .i64 t] w fun e w' => e = .returned (spV (shutS s t)) ∧ Below w.heap.size w w' := by
  obtain ⟨a0, a1, a2, a3, a4, a5⟩ := s
  go_enter Try.func17, Try.ntmps17
  go_wp2
  all_goals
    refine bodyPost_ret (v := spV (shutS ⟨a0, a1, a2, a3, a4, a5⟩ t)) ?_ rfl ⟨rfl, ?_⟩
    · simp [results, Try.results17, go_sem, shutS]
      omega
    · exact (((Below.refl _ w).alloc (Nat.le_refl _) _).alloc (by simp) _)

theorem ahead_any (t : Int) (w : World) (h0 : -9223372036854775808 ≤ t) (h1 : t ≤ 9223372036854775807) : Calls Try.prog 18 #[.int .i64 t] w fun e w' => e = .returned (.int .i64 (aheadT t)) ∧ w' = w := by
  go_enter Try.func18, Try.ntmps18
  go_wp2
  all_goals
    go_ret
    exact ⟨by unfold aheadT; simp; omega, rfl⟩

theorem end_any (s : Sp) (w : World) : Calls Try.prog 19 #[spV s] w fun e w' => e = .returned (.int .i64 (endS s)) ∧ Below w.heap.size w w' := by
  obtain ⟨a0, a1, a2, a3, a4, a5⟩ := s
  cases a5
  · go_enter Try.func19, Try.ntmps19
    go_wp2
    go_ret
    exact ⟨rfl, below_alloc w _⟩
  · go_enter Try.func19, Try.ntmps19
    go_wp2
    go_ret
    exact ⟨rfl, below_alloc w _⟩

theorem at_any (s : Sp) (t : Int) (w : World) : Calls Try.prog 11 #[spV s, .int .i64 t] w fun e w' => e = .returned (.bool (decide (s.frm ≤ t) && (s.opn || decide (t ≤ s.til)))) ∧ Below w.heap.size w w' := by
  obtain ⟨a0, a1, a2, a3, a4, a5⟩ := s
  cases a5
  · by_cases h1 : a3 ≤ t
    · go_enter Try.func11, Try.ntmps11
      go_wp2
      go_ret
      exact ⟨by simp; omega, below_alloc w _⟩
    · have h1' : t < a3 := by omega
      go_enter Try.func11, Try.ntmps11
      go_wp2
      go_ret
      exact ⟨by simp; omega, below_alloc w _⟩
  · by_cases h1 : a3 ≤ t
    · go_enter Try.func11, Try.ntmps11
      go_wp2
      go_ret
      exact ⟨by simp; omega, below_alloc w _⟩
    · have h1' : t < a3 := by omega
      go_enter Try.func11, Try.ntmps11
      go_wp2
      go_ret
      exact ⟨by simp; omega, below_alloc w _⟩

/-- The document's open. -/
def openN (o : Option Nat) : Int := match o with | some i => i | none => -1

end Go.Proofs.Ytkkcpofaiocjpab
