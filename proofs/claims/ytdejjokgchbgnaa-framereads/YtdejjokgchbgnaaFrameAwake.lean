/- The contracts of the datagram that the statements play with, and of awake. -/
import Derived.Test.YtdejjokgchbgnaaFrameUdp
import Derived.Test.YtdejjokgchbgnaaUdpAwake
import Derived.Test.YtdejjokgchbgnaaUdpRbuild
import Derived.Test.YtdejjokgchbgnaaRbuildOk
set_option maxRecDepth 100000
namespace Go.Proofs.Ytdejjokgchbgnaa
open Go.RowKit
attribute [local go_sem ↓] Go.wp_at_zero Go.wp_at_succ

def UB : List Int := builtU 167772161 134744072 hiU

def PD : Dg := ⟨0, 0, false, false, 0, 64, 17, 167772161, 134744072, [], UB⟩

def PB : List Int := built PD

theorem ub_bytes : isBytes UB := builtU_bytes _ _ _ (by unfold isBytes; decide)

theorem pd_ok : PD.Ok := ⟨by decide, by decide, by decide, by decide, (fun z h => by cases h), ub_bytes⟩

theorem pd_fits : Fits PD := fits_of PD (by decide)

theorem pb_len : PB.length = 30 := by decide

theorem pb_good : parseE PB = 0 := by decide

theorem pb_dg : dgOf PB = PD := by rfl

theorem pb_bytes : isBytes PB := built_bytes PD pd_ok

set_option maxHeartbeats 2000000 in
theorem play_own (v : Value) (w : World) (hv : Bts w v [104, 105]) :
    Calls Try.prog 9 #[.agg #[.int .u32 167772161, .int .i64 1000], .agg #[.int .u32 134744072, .int .i64 53], .int .i64 64, v] w fun e w' => ∃ u, e = .returned u ∧ Owns w' w.heap.size u PB ∧ Below w.heap.size w w' := by
  obtain ⟨a, c, rfl⟩ : ∃ a c, v = .slice a 2 c := by obtain ⟨a, c, _, _, e, _⟩ := hv; exact ⟨a, c, e⟩
  have hb1 := below_alloc w (.cells #[.int .u32 167772161, .int .i64 1000] 27)
  have hb2 := below_alloc (w.alloc (.cells #[.int .u32 167772161, .int .i64 1000] 27)) (.cells #[.int .u32 134744072, .int .i64 53] 27)
  have hu := urbuild_ok 167772161 134744072 hiU a c _ (by decide) (by decide) (by decide) (by decide) hi_fits (hv.later (below_trans hb1 hb2))
  clear hv
  go_enter Try.func9, Try.ntmps9
  go_wp2_with fail
  refine hu.mono ?_
  rintro e w3 ⟨v3, rfl, hB3, hb3⟩
  have c0 := box_cell (below_trans hb2 hb3) 0 _ rfl
  have d0 : w3.cell? ⟨w.heap.size + 1, 0, none⟩ = some (.int .u32 134744072) := by
    have := box_cell hb3 0 _ rfl
    rwa [show (w.alloc (.cells #[.int .u32 167772161, .int .i64 1000] 27)).heap.size = w.heap.size + 1 by simp] at this
  have bel3 := below_trans (below_trans hb1 hb2) hb3
  obtain ⟨a3, k3, rfl⟩ := Bts.shapeW hB3
  have hr := rbuild_own PD none a3 0 k3 w3 pd_ok pd_fits (bts_nil _) hB3
  clear hu hb1 hb2 hb3 hB3
  go_wp2_with fail
  refine hr.mono ?_
  rintro e w4 ⟨v4, rfl, hB4, hb4⟩
  obtain ⟨a4, k4, rfl⟩ := Bts.shapeW (hB4.bts pb_bytes)
  go_wp2
  go_ret
  exact ⟨_, rfl, hB4.low bel3.size, below_trans bel3 hb4⟩

theorem play_any (v : Value) (w : World) (hv : Bts w v [104, 105]) :
    Calls Try.prog 9 #[.agg #[.int .u32 167772161, .int .i64 1000], .agg #[.int .u32 134744072, .int .i64 53], .int .i64 64, v] w fun e w' => ∃ u, e = .returned u ∧ Bts w' u PB ∧ Below w.heap.size w w' := by
  refine (play_own v w hv).mono ?_
  rintro e w' ⟨u, rfl, ho, hb⟩
  exact ⟨u, rfl, ho.bts pb_bytes, hb⟩

theorem read_pb (v : Value) (w : World) (hv : Bts w v PB) :
    Calls Try.prog 12 #[v] w fun e w' => ∃ C : Array Value, e = .returned (.tuple #[.agg C, .int .i64 0]) ∧ Hid (C.size = 22 ∧ C.all (·.oneCell') = true ∧ C[11]? = some (.int .i64 1) ∧ C[13]? = some (.int .i64 1000) ∧ C[15]? = some (.int .i64 53)) ∧ Below w.heap.size w w' := by
  obtain ⟨a, c, rfl⟩ := Bts.shapeW hv
  obtain ⟨-, b, off, ha, hA⟩ := hv.at_ne
  rcases ha with rfl | ha
  · refine (read_udp_ok b off _ c PB w hA (good_of PB pb_good) (by rw [pb_dg]; rfl) (by rw [pb_dg]; rfl) (by rw [pb_dg]; decide)).mono ?_
    rintro e w' ⟨a1, k1, a2, k2, rfl, -, -, hb⟩
    refine ⟨_, rfl, ?_, hb⟩
    exact ⟨rfl, oneFr _ _ _ _ _ _ _ _, by rw [pb_dg]; rfl, by rw [pb_dg]; rfl, by rw [pb_dg]; rfl⟩
  · exact absurd (congrArg List.length ha) (by rw [pb_len]; decide)

set_option maxHeartbeats 4000000 in
theorem awake6_any (w : World) : Calls Try.prog 8 #[] w fun e w' => e = .returned (.bool true) ∧ Below w.heap.size w w' := by
  have hcv := conv_bytes
  go_enter Try.func8, Try.ntmps8
  go_wp2_with fail
  clear hcv
  refine (play_any _ _ (hi_bts w w.heap.size rfl)).mono ?_
  rintro e w1 ⟨u, rfl, hB1, hb1⟩
  have bel1 := below_trans (below_alloc _ _) hb1
  go_wp2_with fail
  refine (read_pb u w1 hB1).mono ?_
  rintro e w2 ⟨C, rfl, HC, hb2⟩
  have h0 : (w2.alloc (.cells zeroFC 37)).there w2.heap.size 0 22 := (fc_new (w := w2) rfl (Below.refl _ _)).there rfl
  obtain ⟨W5, hW5, F5, hb5⟩ : ∃ W5, W5 = (w2.alloc (.cells zeroFC 37)).setCells w2.heap.size 0 C.toList ∧ FC W5 w2.heap.size C ∧ Below w2.heap.size w2 W5 :=
    ⟨_, rfl, FC.laid (C := zeroFC) (fc_new (w := w2) rfl (Below.refl _ _)) rfl C HC.out.1, setCells_below _ _ _ _ _ (Nat.le_refl _) (below_alloc _ _)⟩
  have hst := run_store_fr C h0 HC.out.1 HC.out.2.1
  rw [← hW5] at hst
  have hC22 := HC.out.1
  have c11 := F5.c 11 _ HC.out.2.2.1
  have c13 := F5.c 13 _ HC.out.2.2.2.1
  have c15 := F5.c 15 _ HC.out.2.2.2.2
  have bel := below_trans (below_trans bel1 hb2) hb5
  clear hb1 hB1 hb2 F5 hW5 h0 hb5 bel1
  go_wp2
  go_ret
  exact ⟨rfl, bel⟩
end Go.Proofs.Ytdejjokgchbgnaa
