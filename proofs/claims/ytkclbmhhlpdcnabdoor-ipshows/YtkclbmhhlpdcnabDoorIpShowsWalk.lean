/- The walk of IpShows. -/
import Derived.Test.YtkclbmhhlpdcnabDoorReads
import Derived.Test.YtkclbmhhlpdcnabDoorRshow
import Derived.Test.YtkclbmhhlpdcnabDoorIpAwake
set_option maxRecDepth 100000
namespace Go.Proofs.YtkclbmhhlpdcnabDoor
open Go.RowKit

set_option maxHeartbeats 2000000 in
theorem shows_walk (a : Nat) (m : Int) (w : World) (ha : a < 4294967296) (hm : w.cell? ⟨0, 0, none⟩ = some (.int .i64 m)) (htab : Lib.TabIs Tryd.prog w "internal/strconv.uint64pow10" .u64 Lib.pow10Tab) :
    Calls Tryd.prog 3 #[.int .u32 (a : Int)] w fun e w' => e = .returned (.bool true) ∧ Below w.heap.size w w' := by
  have HA : Hid (a < 4294967296) := ha
  obtain ⟨s, hs⟩ : ∃ s, s = str (showL a) := ⟨_, rfl⟩
  have HS : Hid (s = str (showL a)) := hs
  clear hs
  go_enter Tryd.func3, Tryd.ntmps3
  go_wp2_with fail
  refine (awake2_any _).mono ?_
  rintro e w1 ⟨rfl, b1⟩
  have t1 := Go.Joins.tab_stays gTab htab b1 (Nat.le_refl _)
  have m1 := cell_later b1 hm
  clear htab hm
  go_wp2_with fail
  refine (show_any a w1 HA.out t1).mono ?_
  rintro e w2 ⟨rfl, b2⟩
  have t2 := Go.Joins.tab_stays gTab t1 b2 (Nat.le_refl _)
  have m2 := cell_later b2 m1
  have b2' := below_trans b1 b2
  clear t1 m1 b1 b2
  go_wp2_with fail
  refine (read_ok a m w2 HA.out m2 t2).mono ?_
  rintro e w3 ⟨rfl, b3⟩
  have b3' := below_trans b2' b3
  clear t2 m2 b2' b3
  go_wp2_with fail
  refine (rshow_any a w3 HA.out).mono ?_
  rintro e w4 ⟨rfl, b4⟩
  have b4' := below_trans b3' b4
  clear b3' b4
  rw [← HS.out]
  go_wp2_with fail
  go_ret
  exact ⟨by simp, b4'⟩
end Go.Proofs.YtkclbmhhlpdcnabDoor
