/- UdpParses: for all addresses and bytes the call returns true: the datagram that stands there, or the first thing that is wrong. No condition. -/
import Derived.Test.YtijoahehgfpomaaUdpAwake
import Derived.Test.YtijoahehgfpomaaUdpRparse
namespace Go.Proofs.Ytijoahehgfpomaa.udpParses
open Go.ChangeShapes Go.WideShapes Go.ChangeAt Go.RowKit

theorem boxesU {w w' : World} {u : Ud} {vd : Value} {t : TypeId} (hb : Below (w.alloc (.cells (udC u vd) t)).heap.size (w.alloc (.cells (udC u vd) t)) w') :
    w'.cell? ⟨w.heap.size, 0, none⟩ = some (.int .i64 u.src) ∧ w'.cell? ⟨w.heap.size, 1, none⟩ = some (.int .i64 u.dst) ∧ w'.cell? ⟨w.heap.size, 2, none⟩ = some (.bool u.bare) ∧ w'.cell? ⟨w.heap.size, 3, none⟩ = some vd :=
  ⟨box_cell hb 0 _ rfl, box_cell hb 1 _ rfl, box_cell hb 2 _ rfl, box_cell hb 3 _ rfl⟩

set_option maxHeartbeats 1000000 in
theorem walk_big (s d : Int) (a : Option Addr) (len cap : Nat) (w : World) (h : 70000 < len) :
    Calls Try.prog 4 #[.int .u32 s, .int .u32 d, .slice a len cap] w fun e w' => e = .returned (.bool true) ∧ Below w.heap.size w w' := by
  have h' : (70000 : Int) < len := by omega
  go_enter Try.func4, Try.ntmps4
  go_wp2_with fail
  refine (awake3_any _).mono ?_
  rintro e w1 ⟨rfl, hb1⟩
  go_wp2
  go_ret
  exact ⟨rfl, hb1⟩

set_option maxHeartbeats 2000000 in
theorem walk_no (s d : Int) (a : Option Addr) (b off len cap : Nat) (l : List Int) (w : World) (s0 : 0 ≤ s) (s1 : s < 4294967296) (t0 : 0 ≤ d) (t1 : d < 4294967296) (ha : a = some ⟨b, off, none⟩ ∨ l = []) (hA : At w b off len cap l) (h : len ≤ 70000) (hE : ¬ parseU s d l = 0) :
    Calls Try.prog 4 #[.int .u32 s, .int .u32 d, .slice a len cap] w fun e w' => e = .returned (.bool true) ∧ Below w.heap.size w w' := by
  have h' : ¬ (70000 : Int) < len := by omega
  have HE : Hid (¬ parseU s d l = 0) := hE
  obtain ⟨E, hEE⟩ : ∃ E, parseU s d l = E := ⟨_, rfl⟩
  clear hE
  go_enter Try.func4, Try.ntmps4
  go_wp2_with fail
  refine (awake3_any _).mono ?_
  rintro e w1 ⟨rfl, hb1⟩
  go_wp2_with fail
  refine (uparse_no s d a b off len cap l _ s0 s1 t0 t1 ha (hA.later hb1) h HE.out).mono ?_
  rintro e w2 ⟨rfl, hb2⟩
  rw [hEE]
  have hx2 := below_trans hb1 (below_trans hb2 (below_alloc w2 (.cells (udC Ud.zero (.slice none 0 0)) 25)))
  go_wp2_with fail
  refine (urparse_no s d a b off len cap l _ s0 s1 t0 t1 ha (hA.later hx2) h HE.out).mono ?_
  rintro e w3 ⟨rfl, hb3⟩
  rw [hEE]
  have hx3 := below_trans hx2 (below_trans hb3 (below_alloc w3 (.cells (udC Ud.zero (.slice none 0 0)) 25)))
  obtain ⟨d0, d1, d2, d3⟩ := boxesU hb3
  have hlt : w2.heap.size < w3.heap.size := by have := hb3.size; simp only [World.size_alloc] at this; omega
  clear hb3 hb2 hb1 hEE
  go_wp2_with fail
  refine (usame_one Ud.zero _ _ _ (bts_nil _) (bts_nil _)).mono ?_
  rintro e w4 ⟨rfl, hb4⟩
  go_wp2
  go_ret
  exact ⟨rfl, below_trans hx3 hb4⟩

set_option maxHeartbeats 2000000 in
theorem walk_ok (s d : Int) (b off len cap : Nat) (l : List Int) (w : World) (s0 : 0 ≤ s) (s1 : s < 4294967296) (t0 : 0 ≤ d) (t1 : d < 4294967296) (hA : At w b off len cap l) (h : len ≤ 70000) (g : UGood s d l) :
    Calls Try.prog 4 #[.int .u32 s, .int .u32 d, .slice (some ⟨b, off, none⟩) len cap] w fun e w' => e = .returned (.bool true) ∧ Below w.heap.size w w' := by
  have h' : ¬ (70000 : Int) < len := by omega
  have HG : Hid (UGood s d l) := g
  clear g
  go_enter Try.func4, Try.ntmps4
  go_wp2_with fail
  refine (awake3_any _).mono ?_
  rintro e w1 ⟨rfl, hb1⟩
  go_wp2_with fail
  refine (uparse_ok s d b off len cap l _ s0 s1 t0 t1 (hA.later hb1) h HG.out).mono ?_
  rintro e w2' ⟨a1, k1, rfl, hv1, hb2⟩
  have hpb := below_alloc w2' (.cells (udC (udOf l) (.slice a1 (udOf l).data.length k1)) 25)
  have hx2 := below_trans hb1 (below_trans hb2 hpb)
  have hv1' := hv1.later hpb
  go_wp2_with fail
  refine (urparse_ok s d b off len cap l _ s0 s1 t0 t1 (hA.later hx2) h HG.out).mono ?_
  rintro e w3 ⟨a3, k3, rfl, hv3, hb3⟩
  have hpb3 := below_alloc w3 (.cells (udC (udOf l) (.slice a3 (udOf l).data.length k3)) 25)
  have hx3 := below_trans hx2 (below_trans hb3 hpb3)
  have q1 := hv1'.later (below_trans hb3 hpb3)
  have q3 := hv3.later hpb3
  obtain ⟨d0, d1, d2, d3⟩ := boxesU hb3
  have hlt : w2'.heap.size < w3.heap.size := by have := hb3.size; simp only [World.size_alloc] at this; omega
  clear hb3 hb2 hb1 hpb hpb3 hv1 hv3 hv1'
  go_wp2_with fail
  refine (usame_one (udOf l) _ _ _ q1 q3).mono ?_
  rintro e w4 ⟨rfl, hb4⟩
  go_wp2
  go_ret
  exact ⟨rfl, below_trans hx3 hb4⟩

theorem walk (v0 v1 v2 : Value) (w : World) (V0 : IsU32 w v0) (V1 : IsU32 w v1) (V2 : IsBts w v2) :
    Calls Try.prog 4 #[v0, v1, v2] w fun e w' => e = .returned (.bool true) ∧ Below w.heap.size w w' := by
  obtain ⟨s, rfl, s0, s1⟩ := V0
  obtain ⟨d, rfl, t0, t1⟩ := V1
  obtain ⟨l, ⟨a, cap, b, off, rfl, h2, h3, h4, h5, h6⟩, -⟩ := V2
  have hA : At w b off l.length cap l := ⟨h2, h3, rfl, h4, h6⟩
  by_cases h1 : 70000 < l.length
  · exact walk_big s d a l.length cap w h1
  by_cases h7 : parseU s d l = 0
  · have g := ugood_of s d l h7
    rcases h5 with rfl | rfl
    · exact walk_ok s d b off l.length cap l w s0 s1 t0 t1 hA (by omega) g
    · have := g.a; simp at this
  · exact walk_no s d a b off l.length cap l w s0 s1 t0 t1 h5 hA (by omega) h7

set_option maxRecDepth 100000 in
theorem lifted (os : Os) (started : os.Started) (H : Type) (enc : TypeId × Value → H) :
    ReturnsInHanded {} Try.checked os 4 .any (Rows.udpParsesSpec.pre6 enc Try.prog Try.f4 Rows.udpParsesRow.domain false) (Rows.udpParsesSpec.post enc Try.prog Try.f4 false true false false) := by
  refine returnsInHanded_of_change_sized (C := Try.checked) own started (by kernel_rfl) Try.func4
    (ChangeSpec.witness6 (enc := enc) (C := Try.checked) false ⟨#[], #[.int .u32 0, .int .u32 0, .slice none 0 0], []⟩ 8 (by kernel_rfl) (by kernel_rfl) (by kernel_rfl) (by kernel_rfl)) ?_
  intro W base args ds gs before hval0 hW hcnd hsz0 _
  have hval : ∀ (j : Nat) t v, Try.f4.params[j]? = some t → args[j]? = some v → Value.okWide Try.prog W .any base t v := hval0
  have hsz : ∀ n ∈ DataW.weightsEach Try.prog (Try.f4.params.toList ++ Rows.udpParsesSpec.plain.varTypes Try.prog) (ds ++ gs), n ≤ reachBytes := fun n hn => by simpa using List.all_eq_true.1 hsz0 n hn
  have hW' := hW
  obtain ⟨p, q, hA0, hV, rfl, hfz, hnd⟩ := hW
  have hA : DataW.TrodAll enc Try.prog W 0 (fun _ => true) true Try.f4.params.toList args.toList ds p := hA0
  rw [Try.params4] at hA hval hsz
  obtain ⟨v0, vs0, d0, ds0, p0, q0, hargs, rfl, rfl, h0, r0⟩ := trodAll_cons hA
  obtain ⟨v1, vs1, d1, ds1, p1, q1, rfl, rfl, rfl, h1, r1⟩ := trodAll_cons r0
  obtain ⟨v2, vs2, d2, ds2, p2, q2, rfl, rfl, rfl, h2, r2⟩ := trodAll_cons r1
  obtain ⟨rfl, rfl, rfl⟩ := trodAll_nil r2
  obtain rfl : args = #[v0, v1, v2] := by cases args; simp_all
  obtain ⟨rfl, rfl⟩ := trodVars_none hV
  have lt0 : ∀ x ∈ p0, x.block < W.heap.size := by obtain ⟨m, hm⟩ := h0; exact DataW.trod_lt m _ _ _ hm
  have V0 := viewU32 (hval 0 29 v0 rfl rfl) h0 (fun n hn => hsz n (DataW.weights_mem_each (j := 0) rfl rfl n hn))
  have lt1 : ∀ x ∈ p1, x.block < W.heap.size := by obtain ⟨m, hm⟩ := h1; exact DataW.trod_lt m _ _ _ hm
  have V1 := viewU32 (hval 1 29 v1 rfl rfl) h1 (fun n hn => hsz n (DataW.weights_mem_each (j := 1) rfl rfl n hn))
  have lt2 : ∀ x ∈ p2, x.block < W.heap.size := by obtain ⟨m, hm⟩ := h2; exact DataW.trod_lt m _ _ _ hm
  have V2 := view26 (hval 2 23 v2 rfl rfl) h2 (fun n hn => hsz n (DataW.weights_mem_each (j := 2) rfl rfl n hn))
  clear hA0 hval0 hsz0 hsz
  refine (walk v0 v1 v2 W V0 V1 V2).mono fun e W' ⟨he, bel⟩ => ?_
  subst he
  exact ⟨_, rfl, _, _, _, [], _, [], hW', trodAll_mk1 (shut_bool Try.underlying4 _), (trodAll_cons_mk (Below.trod laidOut (by kernel_rfl) (of_decide_eq_true (by kernel_rfl)) h0 bel lt0) (trodAll_cons_mk (Below.trod laidOut (by kernel_rfl) (of_decide_eq_true (by kernel_rfl)) h1 bel lt1) (trodAll_cons_mk (Below.trod laidOut (by kernel_rfl) (of_decide_eq_true (by kernel_rfl)) h2 bel lt2) trodAll_mk0))), rfl, bel.frame _, fun h => by cases h⟩

theorem over : Rows.udpParsesRow.holds Try.pinned (OpenSpec.ofChange Rows.udpParsesSpec) :=
  OpenClaim.holds_of_wide 4 Try.f4 rfl rfl rfl rfl rfl rfl rfl ⟨rfl, rfl, rfl, rfl, rfl⟩ rfl rfl rfl rfl rfl (by kernel_rfl) Try.func4 (by kernel_rfl)
    (of_decide_eq_true (by kernel_rfl)) (by unfold Func.isWrapper; first | (rw [if_pos (by decide +kernel)]; kernel_rfl) | (rw [if_neg (by decide +kernel)]; exact ⟨rfl, rfl⟩))
    (fun os started H enc _ => lifted os started H enc)

end Go.Proofs.Ytijoahehgfpomaa.udpParses
namespace Go.Proofs.Ytijoahehgfpomaa
theorem udpParses_holds : Rows.UdpParsesSaid := udpParses.over
#print axioms udpParses_holds
end Go.Proofs.Ytijoahehgfpomaa
