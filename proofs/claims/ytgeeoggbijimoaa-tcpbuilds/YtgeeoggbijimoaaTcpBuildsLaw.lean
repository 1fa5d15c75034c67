/- TcpBuilds: for all segments between two addresses the call returns true: its bytes, or what may not be. No condition. -/
import Derived.Test.YtgeeoggbijimoaaTcpAwake
import Derived.Test.YtgeeoggbijimoaaTcpRbuild2
namespace Go.Proofs.Ytgeeoggbijimoaa.tcpBuilds
open Go.ChangeShapes Go.WideShapes Go.ChangeAt Go.RowKit

set_option maxHeartbeats 1000000 in
theorem walk_big (s d : Int) (p : Pc) (ao ad : Option Addr) (co cd : Nat) (w : World) (hs : smallT p = false) :
    Calls Try.prog 5 #[sentTV s d p (.slice ao p.opts.length co) (.slice ad p.data.length cd)] w fun e w' => e = .returned (.bool true) ∧ Below w.heap.size w w' := by
  go_enter Try.func5, Try.ntmps5
  go_wp2_with fail
  refine (awake4_any _).mono ?_
  rintro e w1 ⟨rfl, hb1⟩
  obtain ⟨d0, d1, d2, d3, d4, d5, d6, d7, d8, d9, d10⟩ := boxesT hb1
  go_wp2_with fail
  refine (smallT_any s d p ao ad co cd _).mono ?_
  rintro e w2 ⟨rfl, hb2⟩
  rw [hs]
  go_wp2
  go_ret
  exact ⟨rfl, below_trans (below_alloc _ _) (below_trans hb1 hb2)⟩

set_option maxHeartbeats 1000000 in
theorem walk_no (s d : Int) (p : Pc) (ao ad : Option Addr) (co cd : Nat) (w : World) (k : p.Ok) (hs : smallT p = true) (hE : ¬ buildT p = 0) :
    Calls Try.prog 5 #[sentTV s d p (.slice ao p.opts.length co) (.slice ad p.data.length cd)] w fun e w' => e = .returned (.bool true) ∧ Below w.heap.size w w' := by
  have HS : Hid (p.data.length ≤ 5000 ∧ p.opts.length ≤ 5000) := by show _ ∧ _; unfold smallT at hs; simpa using hs
  have HE : Hid (¬ buildT p = 0) := hE
  obtain ⟨E, hEE⟩ : ∃ E, buildT p = E := ⟨_, rfl⟩
  clear hE
  go_enter Try.func5, Try.ntmps5
  go_wp2_with fail
  refine (awake4_any _).mono ?_
  rintro e w1 ⟨rfl, hb1⟩
  obtain ⟨d0, d1, d2, d3, d4, d5, d6, d7, d8, d9, d10⟩ := boxesT hb1
  go_wp2_with fail
  refine (smallT_any s d p ao ad co cd _).mono ?_
  rintro e w2 ⟨rfl, hb2⟩
  rw [hs]
  clear d0 d1 d2 d3 d4 d5 d6 d7 d8 d9 d10
  have hx2 := below_trans hb1 hb2
  obtain ⟨d0, d1, d2, d3, d4, d5, d6, d7, d8, d9, d10⟩ := boxesT hx2
  go_wp2_with fail
  refine (tbuild_no s d p ao ad co cd _ k (by have := HS.out.2; omega) (by have := HS.out.1; omega) HE.out).mono ?_
  rintro e w3 ⟨rfl, hb3⟩
  rw [hEE]
  have hx3 := below_trans hx2 hb3
  clear d0 d1 d2 d3 d4 d5 d6 d7 d8 d9 d10
  obtain ⟨d0, d1, d2, d3, d4, d5, d6, d7, d8, d9, d10⟩ := boxesT hx3
  go_wp2_with fail
  refine (trbuild_no s d p ao ad co cd _ (by have := HS.out.2; omega) HE.out).mono ?_
  rintro e w4 ⟨rfl, hb4⟩
  rw [hEE]
  have hx4 := below_trans hx3 hb4
  clear d0 d1 d2 d3 d4 d5 d6 d7 d8 d9 d10 hb1 hb2 hb3 hb4 hx2 hx3 hEE
  go_wp2_with fail
  refine (same_one _ _ _ [] (bts_nil _) (bts_nil _)).mono ?_
  rintro e w5 ⟨rfl, nq, rfl⟩
  go_wp2
  go_ret
  exact ⟨rfl, below_drewN (below_trans (below_alloc _ _) hx4) _⟩

set_option maxHeartbeats 2000000 in
theorem walk_ok (s d : Int) (p : Pc) (ao ad : Option Addr) (co cd : Nat) (w : World) (s0 : 0 ≤ s) (s1 : s < 4294967296) (t0 : 0 ≤ d) (t1 : d < 4294967296) (k : p.Ok) (f : TFits p) (hO : Bts w (.slice ao p.opts.length co) p.opts) (hD : Bts w (.slice ad p.data.length cd) p.data) (hs : smallT p = true) :
    Calls Try.prog 5 #[sentTV s d p (.slice ao p.opts.length co) (.slice ad p.data.length cd)] w fun e w' => e = .returned (.bool true) ∧ Below w.heap.size w w' := by
  have HF : Hid (TFits p) := f
  have HK : Hid (p.Ok) := k
  clear k f
  go_enter Try.func5, Try.ntmps5
  go_wp2_with fail
  refine (awake4_any _).mono ?_
  rintro e w1 ⟨rfl, hb1⟩
  obtain ⟨d0, d1, d2, d3, d4, d5, d6, d7, d8, d9, d10⟩ := boxesT hb1
  go_wp2_with fail
  refine (smallT_any s d p ao ad co cd _).mono ?_
  rintro e w2 ⟨rfl, hb2⟩
  rw [hs]
  clear d0 d1 d2 d3 d4 d5 d6 d7 d8 d9 d10
  have hx2 := below_trans hb1 hb2
  have hy2 := below_trans (below_alloc w _) hx2
  obtain ⟨d0, d1, d2, d3, d4, d5, d6, d7, d8, d9, d10⟩ := boxesT hx2
  clear hb1 hb2
  go_wp2_with fail
  refine (tbuild_ok s d p ao ad co cd _ s0 s1 t0 t1 HK.out HF.out (hO.later hy2) (hD.later hy2)).mono ?_
  rintro e w3 ⟨v, rfl, hF, hb3⟩
  have hbt := hF.bts
  obtain ⟨g, cap, rfl, -⟩ := hF
  have hx3 := below_trans hx2 hb3
  have hy3 := below_trans hy2 hb3
  clear d0 d1 d2 d3 d4 d5 d6 d7 d8 d9 d10 hx2 hb3 hy2
  obtain ⟨d0, d1, d2, d3, d4, d5, d6, d7, d8, d9, d10⟩ := boxesT hx3
  go_wp2_with fail
  refine (trbuild_ok s d p ao ad co cd _ s0 s1 t0 t1 HK.out HF.out (hO.later hy3) (hD.later hy3)).mono ?_
  rintro e w4 ⟨v4, rfl, hbt4, hb4⟩
  obtain ⟨a4, n4, k4, rfl⟩ := hbt4.shape
  clear d0 d1 d2 d3 d4 d5 d6 d7 d8 d9 d10
  go_wp2_with fail
  refine (same_one _ _ _ (builtT s d p) (hbt.later hb4) hbt4).mono ?_
  rintro e w5 ⟨rfl, nq, rfl⟩
  go_wp2
  go_ret
  exact ⟨rfl, below_drewN (below_trans hy3 hb4) _⟩

theorem walk (v0 : Value) (w : World) (V0 : IsSentT w v0) :
    Calls Try.prog 5 #[v0] w fun e w' => e = .returned (.bool true) ∧ Below w.heap.size w w' := by
  obtain ⟨s, d, p, ao, ad, co, cd, rfl, s0, s1, t0, t1, k, hO, hD, -, -⟩ := V0
  cases h1 : smallT p
  · exact walk_big s d p ao ad co cd w h1
  by_cases h2 : buildT p = 0
  · exact walk_ok s d p ao ad co cd w s0 s1 t0 t1 k (tfits_of p h2) hO hD h1
  · exact walk_no s d p ao ad co cd w k h1 h2

set_option maxRecDepth 100000 in
theorem lifted (os : Os) (started : os.Started) (H : Type) (enc : TypeId × Value → H) :
    ReturnsInHanded {} Try.checked os 5 .any (Rows.tcpBuildsSpec.pre6 enc Try.prog Try.f5 Rows.tcpBuildsRow.domain false) (Rows.tcpBuildsSpec.post enc Try.prog Try.f5 false true false false) := by
  refine returnsInHanded_of_change_sized (C := Try.checked) own started (by kernel_rfl) Try.func5
    (ChangeSpec.witness6 (enc := enc) (C := Try.checked) false ⟨#[], #[.agg #[.int .u32 0, .int .u32 0, .int .i64 0, .int .i64 0, .int .u32 0, .int .u32 0, .int .i64 0, .int .i64 0, .int .i64 0, .slice none 0 0, .slice none 0 0]], []⟩ 8 (by kernel_rfl) (by kernel_rfl) (by kernel_rfl) (by kernel_rfl)) ?_
  intro W base args ds gs before hval0 hW hcnd hsz0 _
  have hval : ∀ (j : Nat) t v, Try.f5.params[j]? = some t → args[j]? = some v → Value.okWide Try.prog W .any base t v := hval0
  have hsz : ∀ n ∈ DataW.weightsEach Try.prog (Try.f5.params.toList ++ Rows.tcpBuildsSpec.plain.varTypes Try.prog) (ds ++ gs), n ≤ reachBytes := fun n hn => by simpa using List.all_eq_true.1 hsz0 n hn
  have hW' := hW
  obtain ⟨p, q, hA0, hV, rfl, hfz, hnd⟩ := hW
  have hA : DataW.TrodAll enc Try.prog W 0 (fun _ => true) true Try.f5.params.toList args.toList ds p := hA0
  rw [Try.params5] at hA hval hsz
  obtain ⟨v0, vs0, d0, ds0, p0, q0, hargs, rfl, rfl, h0, r0⟩ := trodAll_cons hA
  obtain ⟨rfl, rfl, rfl⟩ := trodAll_nil r0
  obtain rfl : args = #[v0] := by cases args; simp_all
  obtain ⟨rfl, rfl⟩ := trodVars_none hV
  have lt0 : ∀ x ∈ p0, x.block < W.heap.size := by obtain ⟨m, hm⟩ := h0; exact DataW.trod_lt m _ _ _ hm
  have V0 := viewSentT (hval 0 38 v0 rfl rfl) h0 (fun n hn => hsz n (DataW.weights_mem_each (j := 0) rfl rfl n hn))
  clear hA0 hval0 hsz0 hsz
  refine (walk v0 W V0).mono fun e W' ⟨he, bel⟩ => ?_
  subst he
  exact ⟨_, rfl, _, _, _, [], _, [], hW', trodAll_mk1 (shut_bool Try.underlying4 _), (trodAll_cons_mk (Below.trod laidOut (by kernel_rfl) (of_decide_eq_true (by kernel_rfl)) h0 bel lt0) trodAll_mk0), rfl, bel.frame _, fun h => by cases h⟩

theorem over : Rows.tcpBuildsRow.holds Try.pinned (OpenSpec.ofChange Rows.tcpBuildsSpec) :=
  OpenClaim.holds_of_wide 5 Try.f5 rfl rfl rfl rfl rfl rfl rfl ⟨rfl, rfl, rfl, rfl, rfl⟩ rfl rfl rfl rfl rfl (by kernel_rfl) Try.func5 (by kernel_rfl)
    (of_decide_eq_true (by kernel_rfl)) (by unfold Func.isWrapper; first | (rw [if_pos (by decide +kernel)]; kernel_rfl) | (rw [if_neg (by decide +kernel)]; exact ⟨rfl, rfl⟩))
    (fun os started H enc _ => lifted os started H enc)

end Go.Proofs.Ytgeeoggbijimoaa.tcpBuilds
namespace Go.Proofs.Ytgeeoggbijimoaa
theorem tcpBuilds_holds : Rows.TcpBuildsSaid := tcpBuilds.over
#print axioms tcpBuilds_holds
end Go.Proofs.Ytgeeoggbijimoaa
