/- IcmpBuilds: for all messages the call returns true: their bytes, or what may not be. No condition. -/
import Derived.Test.YtejknbkleinjbaaIcmpAwake
import Derived.Test.YtejknbkleinjbaaIcmpRbuild
namespace Go.Proofs.Ytejknbkleinjbaa.icmpBuilds
open Go.ChangeShapes Go.WideShapes Go.ChangeAt Go.RowKit

theorem boxesW {w w' : World} {m : Wd} {vd : Value} {t : TypeId} (hb : Below (w.alloc (.cells (wdC m vd) t)).heap.size (w.alloc (.cells (wdC m vd) t)) w') :
    w'.cell? ⟨w.heap.size, 0, none⟩ = some (.int .i64 m.type) ∧ w'.cell? ⟨w.heap.size, 1, none⟩ = some (.int .i64 m.code) ∧ w'.cell? ⟨w.heap.size, 2, none⟩ = some (.int .u32 m.rest) ∧ w'.cell? ⟨w.heap.size, 3, none⟩ = some vd :=
  ⟨box_cell hb 0 _ rfl, box_cell hb 1 _ rfl, box_cell hb 2 _ rfl, box_cell hb 3 _ rfl⟩

set_option maxHeartbeats 1000000 in
theorem walk_big (m : Wd) (a : Option Addr) (c : Nat) (w : World) (h : 5000 < m.data.length) :
    Calls Try.prog 5 #[wdV m (.slice a m.data.length c)] w fun e w' => e = .returned (.bool true) ∧ Below w.heap.size w w' := by
  have h' : (5000 : Int) < (m.data.length : Int) := by omega
  go_enter Try.func5, Try.ntmps5
  go_wp2_with fail
  refine (awake5_any _).mono ?_
  rintro e w1 ⟨rfl, hb1⟩
  obtain ⟨d0, d1, d2, d3⟩ := boxesW hb1
  go_wp2
  go_ret
  exact ⟨rfl, below_trans (below_alloc _ _) hb1⟩

set_option maxHeartbeats 1000000 in
theorem walk_no (m : Wd) (a : Option Addr) (c : Nat) (w : World) (h : m.data.length ≤ 5000) (hE : ¬ buildW m = 0) :
    Calls Try.prog 5 #[wdV m (.slice a m.data.length c)] w fun e w' => e = .returned (.bool true) ∧ Below w.heap.size w w' := by
  have h' : ¬ (5000 : Int) < (m.data.length : Int) := by omega
  have HE : Hid (¬ buildW m = 0) := hE
  obtain ⟨E, hEE⟩ : ∃ E, buildW m = E := ⟨_, rfl⟩
  clear hE
  go_enter Try.func5, Try.ntmps5
  go_wp2_with fail
  refine (awake5_any _).mono ?_
  rintro e w1 ⟨rfl, hb1⟩
  obtain ⟨d0, d1, d2, d3⟩ := boxesW hb1
  go_wp2_with fail
  refine (wbuild_no m a c _ (by omega) HE.out).mono ?_
  rintro e w2' ⟨rfl, hb2⟩
  rw [hEE]
  clear d0 d1 d2 d3
  have hx2 := below_trans hb1 hb2
  obtain ⟨d0, d1, d2, d3⟩ := boxesW hx2
  go_wp2_with fail
  refine (wrbuild_no m a c _ HE.out).mono ?_
  rintro e w3 ⟨rfl, hb3⟩
  rw [hEE]
  have hx3 := below_trans hx2 hb3
  clear d0 d1 d2 d3 hb1 hb2 hb3 hx2 hEE
  go_wp2_with fail
  refine (same_one _ _ _ [] (bts_nil _) (bts_nil _)).mono ?_
  rintro e w5 ⟨rfl, nq, rfl⟩
  go_wp2
  go_ret
  exact ⟨rfl, below_drewN (below_trans (below_alloc _ _) hx3) _⟩

set_option maxHeartbeats 1000000 in
theorem walk_ok (m : Wd) (a : Option Addr) (c : Nat) (w : World) (k : m.Ok) (f : WFits m) (hD : Bts w (.slice a m.data.length c) m.data) :
    Calls Try.prog 5 #[wdV m (.slice a m.data.length c)] w fun e w' => e = .returned (.bool true) ∧ Below w.heap.size w w' := by
  have hlen := f.all
  have HF : Hid (WFits m) := f
  have HK : Hid (m.Ok) := k
  have h' : ¬ (5000 : Int) < (m.data.length : Int) := by omega
  clear f k
  go_enter Try.func5, Try.ntmps5
  go_wp2_with fail
  refine (awake5_any _).mono ?_
  rintro e w1 ⟨rfl, hb1⟩
  obtain ⟨d0, d1, d2, d3⟩ := boxesW hb1
  have hbw := below_trans (below_alloc w (.cells (wdC m (.slice a m.data.length c)) 26)) hb1
  go_wp2_with fail
  refine (wbuild_ok m a c _ HK.out HF.out (hD.later hbw)).mono ?_
  rintro e w2' ⟨v, rfl, hF, hb2⟩
  have hbt := hF.bts
  obtain ⟨g, cap, rfl, -⟩ := hF
  clear d0 d1 d2 d3
  have hx2 := below_trans hb1 hb2
  obtain ⟨d0, d1, d2, d3⟩ := boxesW hx2
  go_wp2_with fail
  refine (wrbuild_ok m a c _ HK.out HF.out (hD.later (below_trans hbw hb2))).mono ?_
  rintro e w3 ⟨v3, rfl, hbt3, hb3⟩
  obtain ⟨a3, n3, k3, rfl⟩ := hbt3.shape
  clear d0 d1 d2 d3
  go_wp2_with fail
  refine (same_one _ _ _ (builtW m) (hbt.later hb3) hbt3).mono ?_
  rintro e w5 ⟨rfl, nq, rfl⟩
  go_wp2
  go_ret
  exact ⟨rfl, below_drewN (below_trans (below_trans hbw hb2) hb3) _⟩

theorem walk (v0 : Value) (w : World) (V0 : IsWd w v0) :
    Calls Try.prog 5 #[v0] w fun e w' => e = .returned (.bool true) ∧ Below w.heap.size w w' := by
  obtain ⟨m, a, c, rfl, k, hD, -⟩ := V0
  by_cases h1 : 5000 < m.data.length
  · exact walk_big m a c w h1
  by_cases h2 : buildW m = 0
  · exact walk_ok m a c w k (wfits_of m h2) hD
  · exact walk_no m a c w (by omega) h2

set_option maxRecDepth 100000 in
theorem lifted (os : Os) (started : os.Started) (H : Type) (enc : TypeId × Value → H) :
    ReturnsInHanded {} Try.checked os 5 .any (Rows.icmpBuildsSpec.pre6 enc Try.prog Try.f5 Rows.icmpBuildsRow.domain false) (Rows.icmpBuildsSpec.post enc Try.prog Try.f5 false true false false) := by
  refine returnsInHanded_of_change_sized (C := Try.checked) own started (by kernel_rfl) Try.func5
    (ChangeSpec.witness6 (enc := enc) (C := Try.checked) false ⟨#[], #[.agg #[.int .i64 0, .int .i64 0, .int .u32 0, .slice none 0 0]], []⟩ 8 (by kernel_rfl) (by kernel_rfl) (by kernel_rfl) (by kernel_rfl)) ?_
  intro W base args ds gs before hval0 hW hcnd hsz0 _
  have hval : ∀ (j : Nat) t v, Try.f5.params[j]? = some t → args[j]? = some v → Value.okWide Try.prog W .any base t v := hval0
  have hsz : ∀ n ∈ DataW.weightsEach Try.prog (Try.f5.params.toList ++ Rows.icmpBuildsSpec.plain.varTypes Try.prog) (ds ++ gs), n ≤ reachBytes := fun n hn => by simpa using List.all_eq_true.1 hsz0 n hn
  have hW' := hW
  obtain ⟨p, q, hA0, hV, rfl, hfz, hnd⟩ := hW
  have hA : DataW.TrodAll enc Try.prog W 0 (fun _ => true) true Try.f5.params.toList args.toList ds p := hA0
  rw [Try.params5] at hA hval hsz
  obtain ⟨v0, vs0, d0, ds0, p0, q0, hargs, rfl, rfl, h0, r0⟩ := trodAll_cons hA
  obtain ⟨rfl, rfl, rfl⟩ := trodAll_nil r0
  obtain rfl : args = #[v0] := by cases args; simp_all
  obtain ⟨rfl, rfl⟩ := trodVars_none hV
  have lt0 : ∀ x ∈ p0, x.block < W.heap.size := by obtain ⟨m, hm⟩ := h0; exact DataW.trod_lt m _ _ _ hm
  have V0 := viewWd (hval 0 26 v0 rfl rfl) h0 (fun n hn => hsz n (DataW.weights_mem_each (j := 0) rfl rfl n hn))
  clear hA0 hval0 hsz0 hsz
  refine (walk v0 W V0).mono fun e W' ⟨he, bel⟩ => ?_
  subst he
  exact ⟨_, rfl, _, _, _, [], _, [], hW', trodAll_mk1 (shut_bool Try.underlying4 _), (trodAll_cons_mk (Below.trod laidOut (by kernel_rfl) (of_decide_eq_true (by kernel_rfl)) h0 bel lt0) trodAll_mk0), rfl, bel.frame _, fun h => by cases h⟩

theorem over : Rows.icmpBuildsRow.holds Try.pinned (OpenSpec.ofChange Rows.icmpBuildsSpec) :=
  OpenClaim.holds_of_wide 5 Try.f5 rfl rfl rfl rfl rfl rfl rfl ⟨rfl, rfl, rfl, rfl, rfl⟩ rfl rfl rfl rfl rfl (by kernel_rfl) Try.func5 (by kernel_rfl)
    (of_decide_eq_true (by kernel_rfl)) (by unfold Func.isWrapper; first | (rw [if_pos (by decide +kernel)]; kernel_rfl) | (rw [if_neg (by decide +kernel)]; exact ⟨rfl, rfl⟩))
    (fun os started H enc _ => lifted os started H enc)

end Go.Proofs.Ytejknbkleinjbaa.icmpBuilds
namespace Go.Proofs.Ytejknbkleinjbaa
theorem icmpBuilds_holds : Rows.IcmpBuildsSaid := icmpBuilds.over
#print axioms icmpBuilds_holds
end Go.Proofs.Ytejknbkleinjbaa
