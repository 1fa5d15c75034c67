/- Read on any text, and the walk of IpReads. -/
import Derived.Test.YtkclbmhhlpdcnaaDoorAddressNo
import Derived.Test.YtkclbmhhlpdcnaaDoorIpAwake
set_option maxRecDepth 100000
namespace Go.Proofs.YtkclbmhhlpdcnaaDoor
open Go.RowKit

set_option maxHeartbeats 2000000 in
theorem read_no (s : ByteArray) (m : Int) (w : World) (hs : s.size ≤ 100000) (hno : ¬ IsShow s) (hm : w.cell? ⟨0, 0, none⟩ = some (.int .i64 m)) (he : Errs w) (htab : Lib.TabIs Tryd.prog w "internal/strconv.uint64pow10" .u64 Lib.pow10Tab) :
    Calls Tryd.prog 9 #[.string s] w fun e w' => e = .returned (.tuple #[.int .u32 0, .bool false]) ∧ Below w.heap.size w w' := by
  have hmf : ∀ (fn : Fn) (first cap : Array Value) (w : World), (Instr.makeFunc fn first cap).run Tryd.prog w = .ok (.func fn first cap) w := fun _ _ _ _ => rfl
  go_enter_defers Tryd.func9, Tryd.ntmps9
  go_wp2_with fail
  refine (address_no s m _ hs hno (by exact cell_later (below_trans (below_alloc _ _) (below_alloc _ _)) hm) (by exact he.later (below_trans (below_alloc _ _) (below_alloc _ _))) (by exact Go.Joins.tab_stays gTab htab (below_trans (below_alloc _ _) (below_alloc _ _)) (Nat.le_refl _))).mono ?_
  rintro e w1 ⟨rfl, hb1⟩
  go_wp2_with fail
  obtain ⟨q1, q2, q3, q4⟩ := two_cells hb1
  have hbase : Below w.heap.size w w1 := below_trans (below_trans (below_alloc _ _) (below_alloc _ _)) hb1
  refine leaves_cons (f := 19) (args := #[.pointer (some ⟨w.heap.size, 0, none⟩), .pointer (some ⟨w.heap.size + 1, 0, none⟩)]) (by simp) (by simp [go_sem]) ?_
  refine (rcatch_panicking w.heap.size (w.heap.size + 1) w.heap.size 4 _ _ _ (q1 0 _ rfl) (q2 0) (q3 0 _ rfl) (q4 0) (by omega) (by omega) (by omega)).mono ?_
  rintro e u' w2 ⟨rfl, rfl, d0, d1, hb2⟩
  simp [Leaves, settle, results, Tryd.results9, go_sem, d0, d1]
  exact hbase.trans hb2
