/- TcpBack: for all segments between two addresses the call returns true: what was built is read back, and built again it is the same bytes. No condition. -/
import Derived.Test.YtgeeoggbijimoaaTcpAwake
import Derived.Test.YtgeeoggbijimoaaTcpParse2
namespace Go.Proofs.Ytgeeoggbijimoaa.tcpBack
open Go.ChangeShapes Go.WideShapes Go.ChangeAt Go.RowKit

set_option maxHeartbeats 1000000 in
theorem walk_big (s d : Int) (p : Pc) (ao ad : Option Addr) (co cd : Nat) (w : World) (hs : smallT p = false) :
    Calls Try.prog 6 #[sentTV s d p (.slice ao p.opts.length co) (.slice ad p.data.length cd)] w fun e w' => e = .returned (.bool true) ∧ Below w.heap.size w w' := by
  go_enter Try.func6, Try.ntmps6
  go_wp2_with fail
  refine (awake4_any _).mono ?_
  rintro e w1 ⟨rfl, hb1⟩
  obtain ⟨d0, d1, d2, d3, d4, d5, d6, d7, d8, d9, d10⟩ := boxesT hb1
  go_wp2_with fail
  refine (smallT_any s d p ao ad co cd _).mono ?_
  rintro e w2 ⟨rfl, hb2⟩
  rw [hs]
  go_wp2
  go_ret
  exact ⟨rfl, below_trans (below_alloc _ _) (below_trans hb1 hb2)⟩

set_option maxHeartbeats 1000000 in
theorem walk_no (s d : Int) (p : Pc) (ao ad : Option Addr) (co cd : Nat) (w : World) (k : p.Ok) (hs : smallT p = true) (hE : ¬ buildT p = 0) :
    Calls Try.prog 6 #[sentTV s d p (.slice ao p.opts.length co) (.slice ad p.data.length cd)] w fun e w' => e = .returned (.bool true) ∧ Below w.heap.size w w' := by
  have HS : Hid (p.data.length ≤ 5000 ∧ p.opts.length ≤ 5000) := by show _ ∧ _; unfold smallT at hs; simpa using hs
  have HE : Hid (¬ buildT p = 0) := hE
  obtain ⟨E, hEE⟩ : ∃ E, buildT p = E := ⟨_, rfl⟩
  have hne : (E != 0) = true := by rw [bne_iff_ne, ← hEE]; exact hE
  clear hE
  go_enter Try.func6, Try.ntmps6
  go_wp2_with fail
  refine (awake4_any _).mono ?_
  rintro e w1 ⟨rfl, hb1⟩
  obtain ⟨d0, d1, d2, d3, d4, d5, d6, d7, d8, d9, d10⟩ := boxesT hb1
  go_wp2_with fail
  refine (smallT_any s d p ao ad co cd _).mono ?_
  rintro e w2 ⟨rfl, hb2⟩
  rw [hs]
  clear d0 d1 d2 d3 d4 d5 d6 d7 d8 d9 d10
  obtain ⟨d0, d1, d2, d3, d4, d5, d6, d7, d8, d9, d10⟩ := boxesT (below_trans hb1 hb2)
  go_wp2_with fail
  refine (tbuild_no s d p ao ad co cd _ k (by have := HS.out.2; omega) (by have := HS.out.1; omega) HE.out).mono ?_
  rintro e w3 ⟨rfl, hb3⟩
  rw [hEE]
  clear d0 d1 d2 d3 d4 d5 d6 d7 d8 d9 d10 hEE
  go_wp2
  go_ret
  exact ⟨rfl, below_trans (below_alloc _ _) (below_trans hb1 (below_trans hb2 hb3))⟩

set_option maxHeartbeats 4000000 in
theorem walk_ok (s d : Int) (p : Pc) (ao ad : Option Addr) (co cd : Nat) (w : World) (s0 : 0 ≤ s) (s1 : s < 4294967296) (t0 : 0 ≤ d) (t1 : d < 4294967296) (k : p.Ok) (f : TFits p) (hO : Bts w (.slice ao p.opts.length co) p.opts) (hD : Bts w (.slice ad p.data.length cd) p.data) (hs : smallT p = true) :
    Calls Try.prog 6 #[sentTV s d p (.slice ao p.opts.length co) (.slice ad p.data.length cd)] w fun e w' => e = .returned (.bool true) ∧ Below w.heap.size w w' := by
  have HF : Hid (TFits p) := f
  have HK : Hid (p.Ok) := k
  have hall := f.all
  clear k f
  go_enter Try.func6, Try.ntmps6
  go_wp2_with fail
  refine (awake4_any _).mono ?_
  rintro e w1 ⟨rfl, hb1⟩
  obtain ⟨d0, d1, d2, d3, d4, d5, d6, d7, d8, d9, d10⟩ := boxesT hb1
  go_wp2_with fail
  refine (smallT_any s d p ao ad co cd _).mono ?_
  rintro e w2 ⟨rfl, hb2⟩
  rw [hs]
  clear d0 d1 d2 d3 d4 d5 d6 d7 d8 d9 d10
  have hx2 := below_trans hb1 hb2
  have hy2 := below_trans (below_alloc w _) hx2
  obtain ⟨d0, d1, d2, d3, d4, d5, d6, d7, d8, d9, d10⟩ := boxesT hx2
  clear hb1 hb2
  go_wp2_with fail
  refine (tbuild_ok s d p ao ad co cd _ s0 s1 t0 t1 HK.out HF.out (hO.later hy2) (hD.later hy2)).mono ?_
  rintro e w3 ⟨v, rfl, hF, hb3⟩
  have hbt := hF.bts
  obtain ⟨g, cap, rfl, hge, q2, q3, q4, q5, q6⟩ := hF
  have hA3 : At w3 g 0 (builtT s d p).length cap (builtT s d p) := ⟨q2, q3, rfl, q4, q5⟩
  have HN : Hid ((builtT s d p).length = 20 + p.opts.length + p.data.length) := builtT_length s d p
  rw [HN.out] at hA3 hbt q2 ⊢
  have hx3 := below_trans hx2 hb3
  have hy3 := below_trans hy2 hb3
  clear d0 d1 d2 d3 d4 d5 d6 d7 d8 d9 d10 hx2 hb3 hy2 q6 hge q4 q5
  obtain ⟨d0, d1, d2, d3, d4, d5, d6, d7, d8, d9, d10⟩ := boxesT hx3
  go_wp2_with fail
  refine (tparse_ok' s d g 0 (20 + p.opts.length + p.data.length) cap (builtT s d p) p _ s0 s1 t0 t1 hA3 (by omega) (tgood_built s d p HK.out HF.out.arg) (pc_built s d p HK.out HF.out.arg)).mono ?_
  rintro e w4 ⟨a1, k1, a2, k2, rfl, hv1, hv2, hb4⟩
  have hpb := below_alloc w4 (.cells (pcC p (.slice a1 p.opts.length k1) (.slice a2 p.data.length k2)) 29)
  have hx4 := below_trans hx3 (below_trans hb4 hpb)
  have hy4 := below_trans hy3 (below_trans hb4 hpb)
  have hbt4 := hbt.later (below_trans hb4 hpb)
  clear d0 d1 d2 d3 d4 d5 d6 d7 d8 d9 d10
  obtain ⟨d0, d1, d2, d3, d4, d5, d6, d7, d8, d9, d10⟩ := boxesT hx4
  have hlt : w.heap.size < w4.heap.size := by have := hx3.size; have := hb4.size; simp only [World.size_alloc] at *; omega
  have hv1' := hv1.later hpb
  have hv2' := hv2.later hpb
  clear hb4 hx3 hy3 hA3 hbt
  go_wp2_with fail
  refine (tbuild_ok s d p a1 a2 k1 k2 _ s0 s1 t0 t1 HK.out HF.out hv1' hv2').mono ?_
  rintro e w5 ⟨v5, rfl, hF5, hb5⟩
  have hbt5 := hF5.bts
  obtain ⟨a5, n5, k5, rfl⟩ := hbt5.shape
  have hx5 := below_trans hx4 hb5
  have hy5 := below_trans hy4 hb5
  clear d0 d1 d2 d3 d4 d5 d6 d7 d8 d9 d10 hF5
  obtain ⟨d0, d1, d2, d3, d4, d5, d6, d7, d8, d9, d10⟩ := boxesT hx5
  obtain ⟨e0, e1, e2, e3, e4, e5, e6, e7, e8⟩ := boxesP hb5
  have q1 := hv1'.later hb5
  have q2' := hv2'.later hb5
  have q3' := hO.later hy5
  have q4' := hD.later hy5
  have q5' := hbt4.later hb5
  clear hx4 hy4 hv1 hv2 hv1' hv2' hpb hb5 hbt4 hx5
  go_wp2_with fail
  refine (tsame_one p _ _ _ _ _ q1 q3' q2' q4').mono ?_
  rintro e w6 ⟨rfl, hb6⟩
  clear d0 d1 d2 d3 d4 d5 d6 d7 d8 d9 d10 e0 e1 e2 e3 e4 e5 e6 e7 e8
  go_wp2_with fail
  refine (same_one _ _ _ (builtT s d p) (q5'.later hb6) (hbt5.later hb6)).mono ?_
  rintro e w7 ⟨rfl, nq, rfl⟩
  go_wp2
  go_ret
  exact ⟨rfl, below_drewN (below_trans hy5 hb6) _⟩

theorem walk (v0 : Value) (w : World) (V0 : IsSentT w v0) :
    Calls Try.prog 6 #[v0] w fun e w' => e = .returned (.bool true) ∧ Below w.heap.size w w' := by
  obtain ⟨s, d, p, ao, ad, co, cd, rfl, s0, s1, t0, t1, k, hO, hD, -, -⟩ := V0
  cases h1 : smallT p
  · exact walk_big s d p ao ad co cd w h1
  by_cases h2 : buildT p = 0
  · exact walk_ok s d p ao ad co cd w s0 s1 t0 t1 k (tfits_of p h2) hO hD h1
  · exact walk_no s d p ao ad co cd w k h1 h2

set_option maxRecDepth 100000 in
theorem lifted (os : Os) (started : os.Started) (H : Type) (enc : TypeId × Value → H) :
    ReturnsInHanded {} Try.checked os 6 .any (Rows.tcpBackSpec.pre6 enc Try.prog Try.f6 Rows.tcpBackRow.domain false) (Rows.tcpBackSpec.post enc Try.prog Try.f6 false true false false) := by
  refine returnsInHanded_of_change_sized (C := Try.checked) own started (by kernel_rfl) Try.func6
    (ChangeSpec.witness6 (enc := enc) (C := Try.checked) false ⟨#[], #[.agg #[.int .u32 0, .int .u32 0, .int .i64 0, .int .i64 0, .int .u32 0, .int .u32 0, .int .i64 0, .int .i64 0, .int .i64 0, .slice none 0 0, .slice none 0 0]], []⟩ 8 (by kernel_rfl) (by kernel_rfl) (by kernel_rfl) (by kernel_rfl)) ?_
  intro W base args ds gs before hval0 hW hcnd hsz0 _
  have hval : ∀ (j : Nat) t v, Try.f6.params[j]? = some t → args[j]? = some v → Value.okWide Try.prog W .any base t v := hval0
  have hsz : ∀ n ∈ DataW.weightsEach Try.prog (Try.f6.params.toList ++ Rows.tcpBackSpec.plain.varTypes Try.prog) (ds ++ gs), n ≤ reachBytes := fun n hn => by simpa using List.all_eq_true.1 hsz0 n hn
  have hW' := hW
  obtain ⟨p, q, hA0, hV, rfl, hfz, hnd⟩ := hW
  have hA : DataW.TrodAll enc Try.prog W 0 (fun _ => true) true Try.f6.params.toList args.toList ds p := hA0
  rw [Try.params6] at hA hval hsz
  obtain ⟨v0, vs0, d0, ds0, p0, q0, hargs, rfl, rfl, h0, r0⟩ := trodAll_cons hA
  obtain ⟨rfl, rfl, rfl⟩ := trodAll_nil r0
  obtain rfl : args = #[v0] := by cases args; simp_all
  obtain ⟨rfl, rfl⟩ := trodVars_none hV
  have lt0 : ∀ x ∈ p0, x.block < W.heap.size := by obtain ⟨m, hm⟩ := h0; exact DataW.trod_lt m _ _ _ hm
  have V0 := viewSentT (hval 0 38 v0 rfl rfl) h0 (fun n hn => hsz n (DataW.weights_mem_each (j := 0) rfl rfl n hn))
  clear hA0 hval0 hsz0 hsz
  refine (walk v0 W V0).mono fun e W' ⟨he, bel⟩ => ?_
  subst he
  exact ⟨_, rfl, _, _, _, [], _, [], hW', trodAll_mk1 (shut_bool Try.underlying4 _), (trodAll_cons_mk (Below.trod laidOut (by kernel_rfl) (of_decide_eq_true (by kernel_rfl)) h0 bel lt0) trodAll_mk0), rfl, bel.frame _, fun h => by cases h⟩

theorem over : Rows.tcpBackRow.holds Try.pinned (OpenSpec.ofChange Rows.tcpBackSpec) :=
  OpenClaim.holds_of_wide 6 Try.f6 rfl rfl rfl rfl rfl rfl rfl ⟨rfl, rfl, rfl, rfl, rfl⟩ rfl rfl rfl rfl rfl (by kernel_rfl) Try.func6 (by kernel_rfl)
    (of_decide_eq_true (by kernel_rfl)) (by unfold Func.isWrapper; first | (rw [if_pos (by decide +kernel)]; kernel_rfl) | (rw [if_neg (by decide +kernel)]; exact ⟨rfl, rfl⟩))
    (fun os started H enc _ => lifted os started H enc)

end Go.Proofs.Ytgeeoggbijimoaa.tcpBack
namespace Go.Proofs.Ytgeeoggbijimoaa
theorem tcpBack_holds : Rows.TcpBackSaid := tcpBack.over
#print axioms tcpBack_holds
end Go.Proofs.Ytgeeoggbijimoaa
