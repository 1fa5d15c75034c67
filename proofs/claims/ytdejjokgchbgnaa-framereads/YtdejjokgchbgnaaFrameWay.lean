/- The contracts of way and of the reader's other. -/
import Derived.Test.YtdejjokgchbgnaaFrameFrame
set_option maxRecDepth 100000
namespace Go.Proofs.Ytdejjokgchbgnaa
open Go.RowKit
attribute [local go_sem ↓] Go.wp_at_zero Go.wp_at_succ

/-- How a protocol is read. -/
def wayF (x : Int) : Nat := if x = 17 then 43 else if x = 6 then 44 else if x = 1 then 45 else 46

theorem way_any (x : Int) (w : World) : Calls Try.prog 28 #[.int .i64 x] w fun e w' => e = .returned (.func (.func (wayF x)) #[] #[]) ∧ w' = w := by
  by_cases h17 : x = 17
  · subst h17
    go_enter Try.func28, Try.ntmps28
    go_wp2
    go_ret
    exact ⟨rfl, rfl⟩
  by_cases h6 : x = 6
  · subst h6
    go_enter Try.func28, Try.ntmps28
    go_wp2
    go_ret
    exact ⟨rfl, rfl⟩
  by_cases h1 : x = 1
  · subst h1
    go_enter Try.func28, Try.ntmps28
    go_wp2
    go_ret
    exact ⟨rfl, rfl⟩
  have E : Hid (wayF x = 46) := by show wayF x = _; unfold wayF; rw [if_neg h17, if_neg h6, if_neg h1]
  have g1 : (x == 17) = false := by simpa using h17
  have g2 : (x == 6) = false := by simpa using h6
  have g3 : (x == 1) = false := by simpa using h1
  clear h17 h6 h1
  go_enter Try.func28, Try.ntmps28
  go_wp2
  go_ret
  exact ⟨by rw [E.out]; rfl, rfl⟩

set_option maxHeartbeats 2000000 in
theorem other_any (p : Dg) (ao ab : Option Addr) (no co nb cb : Nat) (w : World) :
    Calls Try.prog 46 #[ipV p (.slice ao no co) (.slice ab nb cb)] w fun e w' => e = .returned (.tuple #[zeroFV, .int .i64 4]) ∧ Below w.heap.size w w' := by
  have F := fc_new (w := w.alloc (.cells (ipC p (.slice ao no co) (.slice ab nb cb)) 65)) (n := w.heap.size + 1) (C := zeroFC) (t := 37) (by simp) (Below.refl _ _)
  go_enter Try.func46, Try.ntmps46
  go_wp2_with (refine store_fr rfl (.tmp 2) (.tmp 4) rfl (w.heap.size + 1) zeroFC rfl rfl (F.there rfl) rfl oneZ ?_)
  refine bodyPost_ret (results_fr2 rfl _ _ (w.heap.size + 1) _ rfl (range_set zeroFC.toList rfl (F.there rfl)) rfl) rfl ?_
  exact ⟨rfl, setCells_below _ _ _ _ _ (by simp) (below_trans (below_alloc _ _) (below_alloc _ _))⟩
end Go.Proofs.Ytdejjokgchbgnaa
