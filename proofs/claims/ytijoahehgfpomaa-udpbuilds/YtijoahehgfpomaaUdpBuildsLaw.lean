/- UdpBuilds: for all datagrams between two addresses the call returns true: its bytes, or what may not be. No condition. -/
import Derived.Test.YtijoahehgfpomaaUdpAwake
import Derived.Test.YtijoahehgfpomaaUdpRbuild
namespace Go.Proofs.Ytijoahehgfpomaa.udpBuilds
open Go.ChangeShapes Go.WideShapes Go.ChangeAt Go.RowKit

theorem boxesS {w w' : World} {s d : Int} {u : Ud} {vd : Value} {t : TypeId} (hb : Below (w.alloc (.cells (sentC s d u vd) t)).heap.size (w.alloc (.cells (sentC s d u vd) t)) w') :
    w'.cell? ⟨w.heap.size, 0, none⟩ = some (.int .u32 s) ∧ w'.cell? ⟨w.heap.size, 1, none⟩ = some (.int .u32 d) ∧ w'.cell? ⟨w.heap.size, 2, none⟩ = some (.int .i64 u.src) ∧ w'.cell? ⟨w.heap.size, 3, none⟩ = some (.int .i64 u.dst) ∧ w'.cell? ⟨w.heap.size, 4, none⟩ = some (.bool u.bare) ∧ w'.cell? ⟨w.heap.size, 5, none⟩ = some vd :=
  ⟨box_cell hb 0 _ rfl, box_cell hb 1 _ rfl, box_cell hb 2 _ rfl, box_cell hb 3 _ rfl, box_cell hb 4 _ rfl, box_cell hb 5 _ rfl⟩

set_option maxHeartbeats 1000000 in
theorem walk_big (s d : Int) (u : Ud) (a : Option Addr) (c : Nat) (w : World) (h : 5000 < u.data.length) :
    Calls Try.prog 5 #[sentV s d u (.slice a u.data.length c)] w fun e w' => e = .returned (.bool true) ∧ Below w.heap.size w w' := by
  have h' : (5000 : Int) < (u.data.length : Int) := by omega
  go_enter Try.func5, Try.ntmps5
  go_wp2_with fail
  refine (awake3_any _).mono ?_
  rintro e w1 ⟨rfl, hb1⟩
  obtain ⟨d0, d1, d2, d3, d4, d5⟩ := boxesS hb1
  go_wp2
  go_ret
  exact ⟨rfl, below_trans (below_alloc _ _) hb1⟩

set_option maxHeartbeats 1000000 in
theorem walk_no (s d : Int) (u : Ud) (a : Option Addr) (c : Nat) (w : World) (h : u.data.length ≤ 5000) (hE : ¬ buildU u = 0) :
    Calls Try.prog 5 #[sentV s d u (.slice a u.data.length c)] w fun e w' => e = .returned (.bool true) ∧ Below w.heap.size w w' := by
  have h' : ¬ (5000 : Int) < (u.data.length : Int) := by omega
  have HE : Hid (¬ buildU u = 0) := hE
  obtain ⟨E, hEE⟩ : ∃ E, buildU u = E := ⟨_, rfl⟩
  clear hE
  go_enter Try.func5, Try.ntmps5
  go_wp2_with fail
  refine (awake3_any _).mono ?_
  rintro e w1 ⟨rfl, hb1⟩
  obtain ⟨d0, d1, d2, d3, d4, d5⟩ := boxesS hb1
  go_wp2_with fail
  refine (ubuild_no s d u a c _ (by omega) HE.out).mono ?_
  rintro e w2' ⟨rfl, hb2⟩
  rw [hEE]
  clear d0 d1 d2 d3 d4 d5
  have hx2 := below_trans hb1 hb2
  obtain ⟨d0, d1, d2, d3, d4, d5⟩ := boxesS hx2
  go_wp2_with fail
  refine (urbuild_no s d u a c _ HE.out).mono ?_
  rintro e w3 ⟨rfl, hb3⟩
  rw [hEE]
  have hx3 := below_trans hx2 hb3
  clear d0 d1 d2 d3 d4 d5 hb1 hb2 hb3 hx2 hEE
  go_wp2_with fail
  refine (same_one _ _ _ [] (bts_nil _) (bts_nil _)).mono ?_
  rintro e w5 ⟨rfl, nq, rfl⟩
  go_wp2
  go_ret
  exact ⟨rfl, below_drewN (below_trans (below_alloc _ _) hx3) _⟩

set_option maxHeartbeats 1000000 in
theorem walk_ok (s d : Int) (u : Ud) (a : Option Addr) (c : Nat) (w : World) (s0 : 0 ≤ s) (s1 : s < 4294967296) (t0 : 0 ≤ d) (t1 : d < 4294967296) (f : UFits u) (hD : Bts w (.slice a u.data.length c) u.data) :
    Calls Try.prog 5 #[sentV s d u (.slice a u.data.length c)] w fun e w' => e = .returned (.bool true) ∧ Below w.heap.size w w' := by
  have hlen := f.all
  have HF : Hid (UFits u) := f
  have h' : ¬ (5000 : Int) < (u.data.length : Int) := by omega
  clear f
  go_enter Try.func5, Try.ntmps5
  go_wp2_with fail
  refine (awake3_any _).mono ?_
  rintro e w1 ⟨rfl, hb1⟩
  obtain ⟨d0, d1, d2, d3, d4, d5⟩ := boxesS hb1
  have hbw := below_trans (below_alloc w (.cells (sentC s d u (.slice a u.data.length c)) 37)) hb1
  go_wp2_with fail
  refine (ubuild_ok s d u a c _ s0 s1 t0 t1 HF.out (hD.later hbw)).mono ?_
  rintro e w2' ⟨v, rfl, hF, hb2⟩
  have hbt := hF.bts
  obtain ⟨g, cap, rfl, -⟩ := hF
  clear d0 d1 d2 d3 d4 d5
  have hx2 := below_trans hb1 hb2
  obtain ⟨d0, d1, d2, d3, d4, d5⟩ := boxesS hx2
  go_wp2_with fail
  refine (urbuild_ok s d u a c _ s0 s1 t0 t1 HF.out (hD.later (below_trans hbw hb2))).mono ?_
  rintro e w3 ⟨v3, rfl, hbt3, hb3⟩
  obtain ⟨a3, n3, k3, rfl⟩ := hbt3.shape
  clear d0 d1 d2 d3 d4 d5
  go_wp2_with fail
  refine (same_one _ _ _ (builtU s d u) (hbt.later hb3) hbt3).mono ?_
  rintro e w5 ⟨rfl, nq, rfl⟩
  go_wp2
  go_ret
  exact ⟨rfl, below_drewN (below_trans (below_trans hbw hb2) hb3) _⟩

theorem walk (v0 : Value) (w : World) (V0 : IsSent w v0) :
    Calls Try.prog 5 #[v0] w fun e w' => e = .returned (.bool true) ∧ Below w.heap.size w w' := by
  obtain ⟨s, d, u, a, c, rfl, s0, s1, t0, t1, hD, -⟩ := V0
  by_cases h1 : 5000 < u.data.length
  · exact walk_big s d u a c w h1
  by_cases h2 : buildU u = 0
  · exact walk_ok s d u a c w s0 s1 t0 t1 (ufits_of u h2) hD
  · exact walk_no s d u a c w (by omega) h2

set_option maxRecDepth 100000 in
theorem lifted (os : Os) (started : os.Started) (H : Type) (enc : TypeId × Value → H) :
    ReturnsInHanded {} Try.checked os 5 .any (Rows.udpBuildsSpec.pre6 enc Try.prog Try.f5 Rows.udpBuildsRow.domain false) (Rows.udpBuildsSpec.post enc Try.prog Try.f5 false true false false) := by
  refine returnsInHanded_of_change_sized (C := Try.checked) own started (by kernel_rfl) Try.func5
    (ChangeSpec.witness6 (enc := enc) (C := Try.checked) false ⟨#[], #[.agg #[.int .u32 0, .int .u32 0, .int .i64 0, .int .i64 0, .bool false, .slice none 0 0]], []⟩ 8 (by kernel_rfl) (by kernel_rfl) (by kernel_rfl) (by kernel_rfl)) ?_
  intro W base args ds gs before hval0 hW hcnd hsz0 _
  have hval : ∀ (j : Nat) t v, Try.f5.params[j]? = some t → args[j]? = some v → Value.okWide Try.prog W .any base t v := hval0
  have hsz : ∀ n ∈ DataW.weightsEach Try.prog (Try.f5.params.toList ++ Rows.udpBuildsSpec.plain.varTypes Try.prog) (ds ++ gs), n ≤ reachBytes := fun n hn => by simpa using List.all_eq_true.1 hsz0 n hn
  have hW' := hW
  obtain ⟨p, q, hA0, hV, rfl, hfz, hnd⟩ := hW
  have hA : DataW.TrodAll enc Try.prog W 0 (fun _ => true) true Try.f5.params.toList args.toList ds p := hA0
  rw [Try.params5] at hA hval hsz
  obtain ⟨v0, vs0, d0, ds0, p0, q0, hargs, rfl, rfl, h0, r0⟩ := trodAll_cons hA
  obtain ⟨rfl, rfl, rfl⟩ := trodAll_nil r0
  obtain rfl : args = #[v0] := by cases args; simp_all
  obtain ⟨rfl, rfl⟩ := trodVars_none hV
  have lt0 : ∀ x ∈ p0, x.block < W.heap.size := by obtain ⟨m, hm⟩ := h0; exact DataW.trod_lt m _ _ _ hm
  have V0 := viewSent (hval 0 37 v0 rfl rfl) h0 (fun n hn => hsz n (DataW.weights_mem_each (j := 0) rfl rfl n hn))
  clear hA0 hval0 hsz0 hsz
  refine (walk v0 W V0).mono fun e W' ⟨he, bel⟩ => ?_
  subst he
  exact ⟨_, rfl, _, _, _, [], _, [], hW', trodAll_mk1 (shut_bool Try.underlying4 _), (trodAll_cons_mk (Below.trod laidOut (by kernel_rfl) (of_decide_eq_true (by kernel_rfl)) h0 bel lt0) trodAll_mk0), rfl, bel.frame _, fun h => by cases h⟩

theorem over : Rows.udpBuildsRow.holds Try.pinned (OpenSpec.ofChange Rows.udpBuildsSpec) :=
  OpenClaim.holds_of_wide 5 Try.f5 rfl rfl rfl rfl rfl rfl rfl ⟨rfl, rfl, rfl, rfl, rfl⟩ rfl rfl rfl rfl rfl (by kernel_rfl) Try.func5 (by kernel_rfl)
    (of_decide_eq_true (by kernel_rfl)) (by unfold Func.isWrapper; first | (rw [if_pos (by decide +kernel)]; kernel_rfl) | (rw [if_neg (by decide +kernel)]; exact ⟨rfl, rfl⟩))
    (fun os started H enc _ => lifted os started H enc)

end Go.Proofs.Ytijoahehgfpomaa.udpBuilds
namespace Go.Proofs.Ytijoahehgfpomaa
theorem udpBuilds_holds : Rows.UdpBuildsSaid := udpBuilds.over
#print axioms udpBuilds_holds
end Go.Proofs.Ytijoahehgfpomaa
