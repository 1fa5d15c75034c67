/- The contract of Read. -/
import Derived.Test.YtkclbmhhlpdcnaaDoorAddress
import Derived.Test.YtkclbmhhlpdcnaaDoorCatch
set_option maxRecDepth 100000
namespace Go.Proofs.YtkclbmhhlpdcnaaDoor
open Go.RowKit

theorem frame_r (a b : Value) : (#[a, b] ++ Array.replicate (Tryd.f19.ntmps - #[a, b].size) undef : Array Value) = #[a, b, undef, undef] := by rw [Tryd.ntmps19]; rfl

set_option maxHeartbeats 1000000 in
theorem rcatch_panicking (b b' base : Nat) (x : Int) (v0 v1 : Value) (w : World) (hc : w.cell? ⟨b, 0, none⟩ = some v0) (hz : w.frozen? ⟨b, 0, none⟩ = false) (hc' : w.cell? ⟨b', 0, none⟩ = some v1) (hz' : w.frozen? ⟨b', 0, none⟩ = false) (hpq : ¬ b = b') (h1 : base ≤ b) (h2 : base ≤ b') :
    CallsD Tryd.prog 19 #[.pointer (some ⟨b, 0, none⟩), .pointer (some ⟨b', 0, none⟩)] (.panicking (chainOf x)) w fun e u' w' =>
      e = .returned (.tuple #[]) ∧ u' = .panicking [{ v := .iface 24 (.int .i64 x), recovered := true }] ∧ w'.cell? ⟨b, 0, none⟩ = some (.int .u32 0) ∧ w'.cell? ⟨b', 0, none⟩ = some (.bool false) ∧ Below base w w' := by
  have hpq' : ¬ b' = b := fun e => hpq e.symm
  refine callsD_of_wpS Tryd.func19 rfl fun c₀ cs hu => ?_
  rw [frame_r]
  apply wpS_seq
  apply wpS_region
  simp [wpOpsS, go_sem, recoverD, hu, chainOf, Exit.thenS]
  refine wpS_of_wp ?_
  go_wp2
  have bel : Below base w ((w.setCell ⟨b, 0, none⟩ (.int .u32 0)).setCell ⟨b', 0, none⟩ (.bool false)) := ((Below.refl base w).setCell h1 _).setCell h2 _
  show bodyPostS _ _ _ _ _ _ _ _ _
  simp [bodyPostS, results, Tryd.results19, go_sem, hc, hc', bel]

theorem rcatch_idle (p q : Addr) (w : World) :
    CallsD Tryd.prog 19 #[.pointer (some p), .pointer (some q)] .returning w fun e u' w' => e = .returned (.tuple #[]) ∧ u' = .returning ∧ w' = w := by
  refine callsD_of_wpS Tryd.func19 rfl fun c₀ cs hu => ?_
  rw [frame_r]
  apply wpS_seq
  apply wpS_region
  simp [wpOpsS, go_sem, recoverD, hu, Exit.thenS]
  refine wpS_of_wp ?_
  go_wp2
  cases c₀
  simp_all [bodyPostS, results, Tryd.results19]

set_option maxHeartbeats 2000000 in
theorem read_ok (a : Nat) (m : Int) (w : World) (ha : a < 4294967296) (hm : w.cell? ⟨0, 0, none⟩ = some (.int .i64 m)) (htab : Lib.TabIs Tryd.prog w "internal/strconv.uint64pow10" .u64 Lib.pow10Tab) :
    Calls Tryd.prog 9 #[.string (str (showL a))] w fun e w' => e = .returned (.tuple #[.int .u32 (a : Int), .bool true]) ∧ Below w.heap.size w w' := by
  have hmf : ∀ (fn : Fn) (first cap : Array Value) (w : World), (Instr.makeFunc fn first cap).run Tryd.prog w = .ok (.func fn first cap) w := fun _ _ _ _ => rfl
  go_enter_defers Tryd.func9, Tryd.ntmps9
  go_wp2_with fail
  refine (address_ok a m _ ha (by exact cell_later (below_trans (below_alloc _ _) (below_alloc _ _)) hm) (by exact Go.Joins.tab_stays gTab htab (below_trans (below_alloc _ _) (below_alloc _ _)) (Nat.le_refl _))).mono ?_
  rintro e w1 ⟨rfl, hb1⟩
  obtain ⟨q1, q2, q3, q4⟩ := two_cells hb1
  have c1 := q1 0 _ rfl
  have f1 := q2 0
  have c2 := q3 0 _ rfl
  have f2 := q4 0
  clear q1 q2 q3 q4
  have hbase : Below w.heap.size w w1 := below_trans (below_trans (below_alloc _ _) (below_alloc _ _)) hb1
  have hn1 : ¬ (w.heap.size = w.heap.size + 1) := by omega
  have hn2 : ¬ (w.heap.size + 1 = w.heap.size) := by omega
  clear hb1
  go_wp2_with fail
  refine leaves_cons (f := 19) (args := #[.pointer (some ⟨w.heap.size, 0, none⟩), .pointer (some ⟨w.heap.size + 1, 0, none⟩)]) (by simp) (by simp [go_sem]) ?_
  refine (rcatch_idle _ _ _).mono ?_
  rintro e u' w5 ⟨rfl, rfl, rfl⟩
  simp [Leaves, settle, results, Tryd.results9, go_sem, c1, c2]
  exact (hbase.setCell (by simp) _).setCell (by simp) _
end Go.Proofs.YtkclbmhhlpdcnaaDoor
