/- Read on any text, and the walk of IpReads. -/
import Derived.Test.YtkclbmhhlpdcnabDoorAddressNo
import Derived.Test.YtkclbmhhlpdcnabDoorIpAwake
set_option maxRecDepth 100000
namespace Go.Proofs.YtkclbmhhlpdcnabDoor
open Go.RowKit

set_option maxHeartbeats 2000000 in
theorem read_no (s : ByteArray) (m : Int) (w : World) (hs : s.size ≤ 100000) (hno : ¬ IsShow s) (hm : w.cell? ⟨0, 0, none⟩ = some (.int .i64 m)) (he : Errs w) (htab : Lib.TabIs Tryd.prog w "internal/strconv.uint64pow10" .u64 Lib.pow10Tab) :
    Calls Tryd.prog 7 #[.string s] w fun e w' => e = .returned (.tuple #[.int .u32 0, .bool false]) ∧ Below w.heap.size w w' := by
  have hmf : ∀ (fn : Fn) (first cap : Array Value) (w : World), (Instr.makeFunc fn first cap).run Tryd.prog w = .ok (.func fn first cap) w := fun _ _ _ _ => rfl
  go_enter_defers Tryd.func7, Tryd.ntmps7
  go_wp2_with fail
  refine (address_no s m _ hs hno (by exact cell_later (below_trans (below_alloc _ _) (below_alloc _ _)) hm) (by exact he.later (below_trans (below_alloc _ _) (below_alloc _ _))) (by exact Go.Joins.tab_stays gTab htab (below_trans (below_alloc _ _) (below_alloc _ _)) (Nat.le_refl _))).mono ?_
  rintro e w1 ⟨rfl, hb1⟩
  go_wp2_with fail
  obtain ⟨q1, q2, q3, q4⟩ := two_cells hb1
  have hbase : Below w.heap.size w w1 := below_trans (below_trans (below_alloc _ _) (below_alloc _ _)) hb1
  refine leaves_cons (f := 14) (args := #[.pointer (some ⟨w.heap.size, 0, none⟩), .pointer (some ⟨w.heap.size + 1, 0, none⟩)]) (by simp) (by simp [go_sem]) ?_
  refine (rcatch_panicking w.heap.size (w.heap.size + 1) w.heap.size 4 _ _ _ (q1 0 _ rfl) (q2 0) (q3 0 _ rfl) (q4 0) (by omega) (by omega) (by omega)).mono ?_
  rintro e u' w2 ⟨rfl, rfl, d0, d1, hb2⟩
  simp [Leaves, settle, results, Tryd.results7, go_sem, d0, d1]
  exact hbase.trans hb2

set_option maxHeartbeats 2000000 in
theorem reads_walk (s : ByteArray) (m : Int) (w : World) (hm : w.cell? ⟨0, 0, none⟩ = some (.int .i64 m)) (he : Errs w) (htab : Lib.TabIs Tryd.prog w "internal/strconv.uint64pow10" .u64 Lib.pow10Tab) :
    Calls Tryd.prog 4 #[.string s] w fun e w' => e = .returned (.bool true) ∧ Below w.heap.size w w' := by
  go_enter Tryd.func4, Tryd.ntmps4
  go_wp2_with fail
  refine (awake2_any _).mono ?_
  rintro e w1 ⟨rfl, b1⟩
  have t1 := Go.Joins.tab_stays gTab htab b1 (Nat.le_refl _)
  have m1 := cell_later b1 hm
  have e1 := he.later b1
  clear htab hm he
  by_cases c1 : 100000 < s.size
  · clear t1 m1 e1
    go_wp2
    go_ret
    exact ⟨rfl, b1⟩
  have hs : s.size ≤ 100000 := by omega
  by_cases c2 : IsShow s
  · obtain ⟨a, ha, hse⟩ := c2
    have HA : Hid (a < 4294967296) := ha
    have HS : Hid (s = str (showL a)) := hse
    have hr := read_ok a m w1 ha m1 t1
    rw [← HS.out] at hr
    clear hse ha
    go_wp2_with fail
    refine hr.mono ?_
    rintro e w2 ⟨rfl, b2⟩
    have t2 := Go.Joins.tab_stays gTab t1 b2 (Nat.le_refl _)
    have b2' := below_trans b1 b2
    clear t1 m1 e1 hr b1 b2
    go_wp2_with fail
    refine (rread_any s w2 hs).mono ?_
    rintro e w3 hp
    rcases hp with ⟨n, hn, hsn, rfl, b3⟩ | ⟨hno, rfl, b3⟩
    case inr => exact absurd ⟨a, HA.out, HS.out⟩ hno
    have hna : n = a := by
      have h1 := rd_show n hn
      have h2 := rd_show a HA.out
      have h3 : str (showL n) = str (showL a) := by rw [← hsn, ← HS.out]
      have h4 : showL n = showL a := by rw [← str_data (showL n), h3, str_data]
      rw [h4, h2] at h1
      simp only [Option.some.injEq, Prod.mk.injEq] at h1
      omega
    subst hna
    have t3 := Go.Joins.tab_stays gTab t2 b3 (Nat.le_refl _)
    have b3' := below_trans b2' b3
    clear t2 b2' b3 hsn hn
    have hsh := show_any n w3 HA.out t3
    rw [← HS.out] at hsh
    clear t3
    go_wp2_with fail
    refine hsh.mono ?_
    rintro e w4 ⟨rfl, b4⟩
    have b4' := below_trans b3' b4
    clear b3' b4 hsh
    go_wp2_with fail
    go_ret
    exact ⟨rfl, b4'⟩
  · have HN : Hid (¬ IsShow s) := c2
    have hr := read_no s m w1 hs c2 m1 e1 t1
    clear c2 t1 m1 e1
    go_wp2_with fail
    refine hr.mono ?_
    rintro e w2 ⟨rfl, b2⟩
    have b2' := below_trans b1 b2
    clear hr b1 b2
    go_wp2_with fail
    refine (rread_any s w2 hs).mono ?_
    rintro e w3 hp
    rcases hp with ⟨n, hn, hsn, rfl, b3⟩ | ⟨hno, rfl, b3⟩
    · exact absurd ⟨n, hn, hsn⟩ HN.out
    have b3' := below_trans b2' b3
    clear b2' b3 hno
    go_wp2_with fail
    go_ret
    exact ⟨rfl, b3'⟩
end Go.Proofs.YtkclbmhhlpdcnabDoor
