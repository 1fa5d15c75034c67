/- TcpParses: for all addresses and bytes the call returns true: the segment that stands there, or the first thing that is wrong. No condition. -/
import Derived.Test.YtgeeoggbijimoaaTcpAwake
import Derived.Test.YtgeeoggbijimoaaTcpRparse2
namespace Go.Proofs.Ytgeeoggbijimoaa.tcpParses
open Go.ChangeShapes Go.WideShapes Go.ChangeAt Go.RowKit

set_option maxHeartbeats 1000000 in
theorem walk_big (s d : Int) (a : Option Addr) (len cap : Nat) (w : World) (h : 5000 < len) :
    Calls Try.prog 4 #[.int .u32 s, .int .u32 d, .slice a len cap] w fun e w' => e = .returned (.bool true) ∧ Below w.heap.size w w' := by
  have h' : (5000 : Int) < len := by omega
  go_enter Try.func4, Try.ntmps4
  go_wp2_with fail
  refine (awake4_any _).mono ?_
  rintro e w1 ⟨rfl, hb1⟩
  go_wp2
  go_ret
  exact ⟨rfl, hb1⟩

set_option maxHeartbeats 2000000 in
theorem walk_no (s d : Int) (a : Option Addr) (b off len cap : Nat) (l : List Int) (w : World) (s0 : 0 ≤ s) (s1 : s < 4294967296) (t0 : 0 ≤ d) (t1 : d < 4294967296) (ha : a = some ⟨b, off, none⟩ ∨ l = []) (hA : At w b off len cap l) (h : len ≤ 5000) (hE : ¬ parseT s d l = 0) :
    Calls Try.prog 4 #[.int .u32 s, .int .u32 d, .slice a len cap] w fun e w' => e = .returned (.bool true) ∧ Below w.heap.size w w' := by
  have h' : ¬ (5000 : Int) < len := by omega
  have HE : Hid (¬ parseT s d l = 0) := hE
  obtain ⟨E, hEE⟩ : ∃ E, parseT s d l = E := ⟨_, rfl⟩
  clear hE
  go_enter Try.func4, Try.ntmps4
  go_wp2_with fail
  refine (awake4_any _).mono ?_
  rintro e w1 ⟨rfl, hb1⟩
  go_wp2_with fail
  refine (tparse_no s d a b off len cap l _ s0 s1 t0 t1 ha (hA.later hb1) (by omega) HE.out).mono ?_
  rintro e w2 ⟨rfl, hb2⟩
  rw [hEE]
  have hx2 := below_trans hb1 (below_trans hb2 (below_alloc w2 (.cells (pcC Pc.zero (.slice none 0 0) (.slice none 0 0)) 29)))
  go_wp2_with fail
  refine (trparse_no s d a b off len cap l _ s0 s1 t0 t1 ha (hA.later hx2) (by omega) HE.out).mono ?_
  rintro e w3 ⟨rfl, hb3⟩
  rw [hEE]
  have hx3 := below_trans hx2 (below_trans hb3 (below_alloc w3 (.cells (pcC Pc.zero (.slice none 0 0) (.slice none 0 0)) 29)))
  obtain ⟨d0, d1, d2, d3, d4, d5, d6, d7, d8⟩ := boxesP hb3
  have hlt : w2.heap.size < w3.heap.size := by have := hb3.size; simp only [World.size_alloc] at this; omega
  clear hb3 hb2 hb1 hEE
  go_wp2_with fail
  refine (tsame_one Pc.zero _ _ _ _ _ (bts_nil _) (bts_nil _) (bts_nil _) (bts_nil _)).mono ?_
  rintro e w4 ⟨rfl, hb4⟩
  go_wp2
  go_ret
  exact ⟨rfl, below_trans hx3 hb4⟩

set_option maxHeartbeats 2000000 in
theorem walk_ok (s d : Int) (b off len cap : Nat) (l : List Int) (w : World) (s0 : 0 ≤ s) (s1 : s < 4294967296) (t0 : 0 ≤ d) (t1 : d < 4294967296) (hA : At w b off len cap l) (h : len ≤ 5000) (g : TGood s d l) :
    Calls Try.prog 4 #[.int .u32 s, .int .u32 d, .slice (some ⟨b, off, none⟩) len cap] w fun e w' => e = .returned (.bool true) ∧ Below w.heap.size w w' := by
  have h' : ¬ (5000 : Int) < len := by omega
  have HG : Hid (TGood s d l) := g
  clear g
  go_enter Try.func4, Try.ntmps4
  go_wp2_with fail
  refine (awake4_any _).mono ?_
  rintro e w1 ⟨rfl, hb1⟩
  go_wp2_with fail
  refine (tparse_ok s d b off len cap l _ s0 s1 t0 t1 (hA.later hb1) (by omega) HG.out).mono ?_
  rintro e w2' ⟨a1, k1, a2, k2, rfl, hv1, hv2, hb2⟩
  have hpb := below_alloc w2' (.cells (pcC (pcOf l) (.slice a1 (pcOf l).opts.length k1) (.slice a2 (pcOf l).data.length k2)) 29)
  have hx2 := below_trans hb1 (below_trans hb2 hpb)
  have hv1' := hv1.later hpb
  have hv2' := hv2.later hpb
  go_wp2_with fail
  refine (trparse_ok s d b off len cap l _ s0 s1 t0 t1 (hA.later hx2) (by omega) HG.out).mono ?_
  rintro e w3 ⟨a3, k3, a4, k4, rfl, hv3, hv4, hb3⟩
  have hpb3 := below_alloc w3 (.cells (pcC (pcOf l) (.slice a3 (pcOf l).opts.length k3) (.slice a4 (pcOf l).data.length k4)) 29)
  have hx3 := below_trans hx2 (below_trans hb3 hpb3)
  have q1 := hv1'.later (below_trans hb3 hpb3)
  have q2 := hv2'.later (below_trans hb3 hpb3)
  have q3 := hv3.later hpb3
  have q4 := hv4.later hpb3
  obtain ⟨d0, d1, d2, d3, d4, d5, d6, d7, d8⟩ := boxesP hb3
  have hlt : w2'.heap.size < w3.heap.size := by have := hb3.size; simp only [World.size_alloc] at this; omega
  clear hb3 hb2 hb1 hpb hpb3 hv1 hv2 hv3 hv4 hv1' hv2'
  go_wp2_with fail
  refine (tsame_one (pcOf l) _ _ _ _ _ q1 q3 q2 q4).mono ?_
  rintro e w4 ⟨rfl, hb4⟩
  go_wp2
  go_ret
  exact ⟨rfl, below_trans hx3 hb4⟩

theorem walk (v0 v1 v2 : Value) (w : World) (V0 : IsU32 w v0) (V1 : IsU32 w v1) (V2 : IsBts w v2) :
    Calls Try.prog 4 #[v0, v1, v2] w fun e w' => e = .returned (.bool true) ∧ Below w.heap.size w w' := by
  obtain ⟨s, rfl, s0, s1⟩ := V0
  obtain ⟨d, rfl, t0, t1⟩ := V1
  obtain ⟨l, ⟨a, cap, b, off, rfl, h2, h3, h4, h5, h6⟩, -⟩ := V2
  have hA : At w b off l.length cap l := ⟨h2, h3, rfl, h4, h6⟩
  by_cases h1 : 5000 < l.length
  · exact walk_big s d a l.length cap w h1
  by_cases h7 : parseT s d l = 0
  · have g := tgood_of s d l h7
    rcases h5 with rfl | rfl
    · exact walk_ok s d b off l.length cap l w s0 s1 t0 t1 hA (by omega) g
    · have := g.a; simp at this
  · exact walk_no s d a b off l.length cap l w s0 s1 t0 t1 h5 hA (by omega) h7

set_option maxRecDepth 100000 in
theorem lifted (os : Os) (started : os.Started) (H : Type) (enc : TypeId × Value → H) :
    ReturnsInHanded {} Try.checked os 4 .any (Rows.tcpParsesSpec.pre6 enc Try.prog Try.f4 Rows.tcpParsesRow.domain false) (Rows.tcpParsesSpec.post enc Try.prog Try.f4 false true false false) := by
  refine returnsInHanded_of_change_sized (C := Try.checked) own started (by kernel_rfl) Try.func4
    (ChangeSpec.witness6 (enc := enc) (C := Try.checked) false ⟨#[], #[.int .u32 0, .int .u32 0, .slice none 0 0], []⟩ 8 (by kernel_rfl) (by kernel_rfl) (by kernel_rfl) (by kernel_rfl)) ?_
  intro W base args ds gs before hval0 hW hcnd hsz0 _
  have hval : ∀ (j : Nat) t v, Try.f4.params[j]? = some t → args[j]? = some v → Value.okWide Try.prog W .any base t v := hval0
  have hsz : ∀ n ∈ DataW.weightsEach Try.prog (Try.f4.params.toList ++ Rows.tcpParsesSpec.plain.varTypes Try.prog) (ds ++ gs), n ≤ reachBytes := fun n hn => by simpa using List.all_eq_true.1 hsz0 n hn
  have hW' := hW
  obtain ⟨p, q, hA0, hV, rfl, hfz, hnd⟩ := hW
  have hA : DataW.TrodAll enc Try.prog W 0 (fun _ => true) true Try.f4.params.toList args.toList ds p := hA0
  rw [Try.params4] at hA hval hsz
  obtain ⟨v0, vs0, d0, ds0, p0, q0, hargs, rfl, rfl, h0, r0⟩ := trodAll_cons hA
  obtain ⟨v1, vs1, d1, ds1, p1, q1, rfl, rfl, rfl, h1, r1⟩ := trodAll_cons r0
  obtain ⟨v2, vs2, d2, ds2, p2, q2, rfl, rfl, rfl, h2, r2⟩ := trodAll_cons r1
  obtain ⟨rfl, rfl, rfl⟩ := trodAll_nil r2
  obtain rfl : args = #[v0, v1, v2] := by cases args; simp_all
  obtain ⟨rfl, rfl⟩ := trodVars_none hV
  have lt0 : ∀ x ∈ p0, x.block < W.heap.size := by obtain ⟨m, hm⟩ := h0; exact DataW.trod_lt m _ _ _ hm
  have V0 := viewU32 (hval 0 27 v0 rfl rfl) h0 (fun n hn => hsz n (DataW.weights_mem_each (j := 0) rfl rfl n hn))
  have lt1 : ∀ x ∈ p1, x.block < W.heap.size := by obtain ⟨m, hm⟩ := h1; exact DataW.trod_lt m _ _ _ hm
  have V1 := viewU32 (hval 1 27 v1 rfl rfl) h1 (fun n hn => hsz n (DataW.weights_mem_each (j := 1) rfl rfl n hn))
  have lt2 : ∀ x ∈ p2, x.block < W.heap.size := by obtain ⟨m, hm⟩ := h2; exact DataW.trod_lt m _ _ _ hm
  have V2 := view26 (hval 2 23 v2 rfl rfl) h2 (fun n hn => hsz n (DataW.weights_mem_each (j := 2) rfl rfl n hn))
  clear hA0 hval0 hsz0 hsz
  refine (walk v0 v1 v2 W V0 V1 V2).mono fun e W' ⟨he, bel⟩ => ?_
  subst he
  exact ⟨_, rfl, _, _, _, [], _, [], hW', trodAll_mk1 (shut_bool Try.underlying4 _), (trodAll_cons_mk (Below.trod laidOut (by kernel_rfl) (of_decide_eq_true (by kernel_rfl)) h0 bel lt0) (trodAll_cons_mk (Below.trod laidOut (by kernel_rfl) (of_decide_eq_true (by kernel_rfl)) h1 bel lt1) (trodAll_cons_mk (Below.trod laidOut (by kernel_rfl) (of_decide_eq_true (by kernel_rfl)) h2 bel lt2) trodAll_mk0))), rfl, bel.frame _, fun h => by cases h⟩

theorem over : Rows.tcpParsesRow.holds Try.pinned (OpenSpec.ofChange Rows.tcpParsesSpec) :=
  OpenClaim.holds_of_wide 4 Try.f4 rfl rfl rfl rfl rfl rfl rfl ⟨rfl, rfl, rfl, rfl, rfl⟩ rfl rfl rfl rfl rfl (by kernel_rfl) Try.func4 (by kernel_rfl)
    (of_decide_eq_true (by kernel_rfl)) (by unfold Func.isWrapper; first | (rw [if_pos (by decide +kernel)]; kernel_rfl) | (rw [if_neg (by decide +kernel)]; exact ⟨rfl, rfl⟩))
    (fun os started H enc _ => lifted os started H enc)

end Go.Proofs.Ytgeeoggbijimoaa.tcpParses
namespace Go.Proofs.Ytgeeoggbijimoaa
theorem tcpParses_holds : Rows.TcpParsesSaid := tcpParses.over
#print axioms tcpParses_holds
end Go.Proofs.Ytgeeoggbijimoaa
