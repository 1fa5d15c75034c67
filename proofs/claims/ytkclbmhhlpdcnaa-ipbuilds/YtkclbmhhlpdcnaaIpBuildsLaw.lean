/- IpBuilds: for all datagrams the call returns true: its bytes, or what may not be. No condition. -/
import Derived.Test.YtkclbmhhlpdcnaaRbuildOk
namespace Go.Proofs.Ytkclbmhhlpdcnaa.ipBuilds
open Go.ChangeShapes Go.WideShapes Go.ChangeAt Go.RowKit

set_option maxHeartbeats 1000000 in
theorem walk_big (p : Dg) (ao ab : Option Addr) (co cb : Nat) (w : World) (hs : smallB p = false) :
    Calls Try.prog 4 #[ipV p (.slice ao p.opts.length co) (.slice ab p.body.length cb)] w fun e w' => e = .returned (.bool true) ∧ Below w.heap.size w w' := by
  go_enter Try.func4, Try.ntmps4
  go_wp2_with fail
  refine (awake2_any _).mono ?_
  rintro e w1 ⟨rfl, hb1⟩
  obtain ⟨d0, d1, d2, d3, d4, d5, d6, d7, d8, d9, d10⟩ := boxes hb1
  go_wp2_with fail
  refine (small_any p ao ab co cb _).mono ?_
  rintro e w2 ⟨rfl, hb2⟩
  rw [hs]
  go_wp2
  go_ret
  exact ⟨rfl, below_trans (below_alloc _ _) (below_trans hb1 hb2)⟩

set_option maxHeartbeats 1000000 in
theorem walk_no (p : Dg) (ao ab : Option Addr) (co cb : Nat) (w : World) (hs : smallB p = true) (hE : ¬ buildE p = 0) :
    Calls Try.prog 4 #[ipV p (.slice ao p.opts.length co) (.slice ab p.body.length cb)] w fun e w' => e = .returned (.bool true) ∧ Below w.heap.size w w' := by
  have HS : Hid (p.body.length ≤ 5000 ∧ p.opts.length ≤ 5000) := by show _ ∧ _; unfold smallB at hs; simpa using hs
  have HE : Hid (¬ buildE p = 0) := hE
  obtain ⟨E, hEE⟩ : ∃ E, buildE p = E := ⟨_, rfl⟩
  clear hE
  go_enter Try.func4, Try.ntmps4
  go_wp2_with fail
  refine (awake2_any _).mono ?_
  rintro e w1 ⟨rfl, hb1⟩
  obtain ⟨d0, d1, d2, d3, d4, d5, d6, d7, d8, d9, d10⟩ := boxes hb1
  go_wp2_with fail
  refine (small_any p ao ab co cb _).mono ?_
  rintro e w2 ⟨rfl, hb2⟩
  rw [hs]
  clear d0 d1 d2 d3 d4 d5 d6 d7 d8 d9 d10
  have hx2 := below_trans hb1 hb2
  obtain ⟨d0, d1, d2, d3, d4, d5, d6, d7, d8, d9, d10⟩ := boxes hx2
  go_wp2_with fail
  refine (build_no p ao ab co cb _ (by have := HS.out.2; omega) (by have := HS.out.1; omega) HE.out).mono ?_
  rintro e w3 ⟨rfl, hb3⟩
  rw [hEE]
  clear d0 d1 d2 d3 d4 d5 d6 d7 d8 d9 d10
  have hx3 := below_trans hx2 hb3
  obtain ⟨d0, d1, d2, d3, d4, d5, d6, d7, d8, d9, d10⟩ := boxes hx3
  go_wp2_with fail
  refine (rbuild_no p ao ab co cb _ HS.out.2 HS.out.1 HE.out).mono ?_
  rintro e w4 ⟨rfl, hb4⟩
  rw [hEE]
  have hx4 := below_trans hx3 hb4
  clear d0 d1 d2 d3 d4 d5 d6 d7 d8 d9 d10 hb1 hb2 hb3 hb4 hx2 hx3 hEE
  go_wp2_with fail
  refine (same_one _ _ _ [] (bts_nil _) (bts_nil _)).mono ?_
  rintro e w5 ⟨rfl, nq, rfl⟩
  go_wp2
  go_ret
  exact ⟨rfl, below_drewN (below_trans (below_alloc _ _) hx4) _⟩

set_option maxHeartbeats 1000000 in
theorem walk_ok (p : Dg) (ao ab : Option Addr) (co cb : Nat) (w : World) (k : p.Ok) (hO : Bts w (.slice ao p.opts.length co) p.opts) (hB : Bts w (.slice ab p.body.length cb) p.body) (hs : smallB p = true) (hE : buildE p = 0) :
    Calls Try.prog 4 #[ipV p (.slice ao p.opts.length co) (.slice ab p.body.length cb)] w fun e w' => e = .returned (.bool true) ∧ Below w.heap.size w w' := by
  have HE : Hid (buildE p = 0) := hE
  have HF : Hid (Fits p) := fits_of p hE
  clear hE
  go_enter Try.func4, Try.ntmps4
  go_wp2_with fail
  refine (awake2_any _).mono ?_
  rintro e w1 ⟨rfl, hb1⟩
  obtain ⟨d0, d1, d2, d3, d4, d5, d6, d7, d8, d9, d10⟩ := boxes hb1
  go_wp2_with fail
  refine (small_any p ao ab co cb _).mono ?_
  rintro e w2 ⟨rfl, hb2⟩
  rw [hs]
  clear d0 d1 d2 d3 d4 d5 d6 d7 d8 d9 d10
  have hx2 := below_trans hb1 hb2
  have hy2 := below_trans (below_alloc w _) hx2
  obtain ⟨d0, d1, d2, d3, d4, d5, d6, d7, d8, d9, d10⟩ := boxes hx2
  go_wp2_with fail
  refine (build_ok p ao ab co cb _ k HE.out (hO.later hy2) (hB.later hy2)).mono ?_
  rintro e w3 ⟨v, rfl, hF, hb3⟩
  have hbt := hF.bts
  obtain ⟨g, cap, rfl, -⟩ := hF
  clear d0 d1 d2 d3 d4 d5 d6 d7 d8 d9 d10
  have hx3 := below_trans hx2 hb3
  have hy3 := below_trans hy2 hb3
  obtain ⟨d0, d1, d2, d3, d4, d5, d6, d7, d8, d9, d10⟩ := boxes hx3
  go_wp2_with fail
  refine (rbuild_ok p ao ab co cb _ k HF.out (hO.later hy3) (hB.later hy3)).mono ?_
  rintro e w4 ⟨v4, rfl, hbt4, hb4⟩
  obtain ⟨a4, n4, k4, rfl⟩ := hbt4.shape
  clear d0 d1 d2 d3 d4 d5 d6 d7 d8 d9 d10
  go_wp2_with fail
  refine (same_one _ _ _ (built p) (hbt.later hb4) hbt4).mono ?_
  rintro e w5 ⟨rfl, nq, rfl⟩
  go_wp2
  go_ret
  exact ⟨rfl, below_drewN (below_trans hy3 hb4) _⟩

theorem walk (v0 : Value) (w : World) (V0 : IsIp w v0) :
    Calls Try.prog 4 #[v0] w fun e w' => e = .returned (.bool true) ∧ Below w.heap.size w w' := by
  obtain ⟨p, ao, ab, co, cb, rfl, k, hO, hB, -, -⟩ := V0
  cases h1 : smallB p
  · exact walk_big p ao ab co cb w h1
  by_cases h2 : buildE p = 0
  · exact walk_ok p ao ab co cb w k hO hB h1 h2
  · exact walk_no p ao ab co cb w h1 h2

set_option maxRecDepth 100000 in
theorem lifted (os : Os) (started : os.Started) (H : Type) (enc : TypeId × Value → H) :
    ReturnsInHanded {} Try.checked os 4 .any (Rows.ipBuildsSpec.pre6 enc Try.prog Try.f4 Rows.ipBuildsRow.domain false) (Rows.ipBuildsSpec.post enc Try.prog Try.f4 false true false false) := by
  refine returnsInHanded_of_change_sized (C := Try.checked) own started (by kernel_rfl) Try.func4
    (ChangeSpec.witness6 (enc := enc) (C := Try.checked) false ⟨#[], #[.agg #[.int .i64 0, .int .i64 0, .bool false, .bool false, .int .i64 0, .int .i64 0, .int .i64 0, .int .u32 0, .int .u32 0, .slice none 0 0, .slice none 0 0]], []⟩ 8 (by kernel_rfl) (by kernel_rfl) (by kernel_rfl) (by kernel_rfl)) ?_
  intro W base args ds gs before hval0 hW hcnd hsz0 _
  have hval : ∀ (j : Nat) t v, Try.f4.params[j]? = some t → args[j]? = some v → Value.okWide Try.prog W .any base t v := hval0
  have hsz : ∀ n ∈ DataW.weightsEach Try.prog (Try.f4.params.toList ++ Rows.ipBuildsSpec.plain.varTypes Try.prog) (ds ++ gs), n ≤ reachBytes := fun n hn => by simpa using List.all_eq_true.1 hsz0 n hn
  have hW' := hW
  obtain ⟨p, q, hA0, hV, rfl, hfz, hnd⟩ := hW
  have hA : DataW.TrodAll enc Try.prog W 0 (fun _ => true) true Try.f4.params.toList args.toList ds p := hA0
  rw [Try.params4] at hA hval hsz
  obtain ⟨v0, vs0, d0, ds0, p0, q0, hargs, rfl, rfl, h0, r0⟩ := trodAll_cons hA
  obtain ⟨rfl, rfl, rfl⟩ := trodAll_nil r0
  obtain rfl : args = #[v0] := by cases args; simp_all
  obtain ⟨rfl, rfl⟩ := trodVars_none hV
  have lt0 : ∀ x ∈ p0, x.block < W.heap.size := by obtain ⟨m, hm⟩ := h0; exact DataW.trod_lt m _ _ _ hm
  have V0 := viewIP (hval 0 26 v0 rfl rfl) h0 (fun n hn => hsz n (DataW.weights_mem_each (j := 0) rfl rfl n hn))
  clear hA0 hval0 hsz0 hsz
  refine (walk v0 W V0).mono fun e W' ⟨he, bel⟩ => ?_
  subst he
  exact ⟨_, rfl, _, _, _, [], _, [], hW', trodAll_mk1 (shut_bool Try.underlying4 _), (trodAll_cons_mk (Below.trod laidOut (by kernel_rfl) (of_decide_eq_true (by kernel_rfl)) h0 bel lt0) trodAll_mk0), rfl, bel.frame _, fun h => by cases h⟩

theorem over : Rows.ipBuildsRow.holds Try.pinned (OpenSpec.ofChange Rows.ipBuildsSpec) :=
  OpenClaim.holds_of_wide 4 Try.f4 rfl rfl rfl rfl rfl rfl rfl ⟨rfl, rfl, rfl, rfl, rfl⟩ rfl rfl rfl rfl rfl (by kernel_rfl) Try.func4 (by kernel_rfl)
    (of_decide_eq_true (by kernel_rfl)) (by unfold Func.isWrapper; first | (rw [if_pos (by decide +kernel)]; kernel_rfl) | (rw [if_neg (by decide +kernel)]; exact ⟨rfl, rfl⟩))
    (fun os started H enc _ => lifted os started H enc)

end Go.Proofs.Ytkclbmhhlpdcnaa.ipBuilds
namespace Go.Proofs.Ytkclbmhhlpdcnaa
theorem ipBuilds_holds : Rows.IpBuildsSaid := ipBuilds.over
#print axioms ipBuilds_holds
end Go.Proofs.Ytkclbmhhlpdcnaa
