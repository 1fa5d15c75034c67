/- IpParses: for all bytes the call returns true: the datagram that stands there, or the first thing that is wrong. No condition. -/
import Derived.Test.YtkclbmhhlpdcnaaIpAwake
import Derived.Test.YtkclbmhhlpdcnaaRparseOk
namespace Go.Proofs.Ytkclbmhhlpdcnaa.ipParses
open Go.ChangeShapes Go.WideShapes Go.ChangeAt Go.RowKit

set_option maxHeartbeats 1000000 in
theorem walk_big (a : Option Addr) (b off len cap : Nat) (l : List Int) (w : World) (ha : a = some ⟨b, off, none⟩ ∨ l = []) (hA : At w b off len cap l) (h : 5000 < len) :
    Calls Try.prog 3 #[.slice a len cap] w fun e w' => e = .returned (.bool true) ∧ Below w.heap.size w w' := by
  have h' : (5000 : Int) < len := by omega
  have hE : parseE l = 3 := by unfold parseE; rw [if_pos (by rw [hA.len]; omega)]
  go_enter Try.func3, Try.ntmps3
  go_wp2_with fail
  refine (awake2_any _).mono ?_
  rintro e w1 ⟨rfl, hb1⟩
  go_wp2_with fail
  refine (parse_no a b off len cap l _ ha (hA.later hb1) (by rw [hE]; decide)).mono ?_
  rintro e w2 ⟨rfl, hb2⟩
  rw [hE]
  go_wp2
  go_ret
  exact ⟨rfl, below_trans (below_trans hb1 hb2) (below_alloc _ _)⟩

theorem zero_nil (w : World) : Bts w (.slice none 0 0) Dg.zero.opts ∧ Bts w (.slice none 0 0) Dg.zero.body := ⟨bts_nil w, bts_nil w⟩

set_option maxHeartbeats 2000000 in
theorem walk_no (a : Option Addr) (b off len cap : Nat) (l : List Int) (w : World) (ha : a = some ⟨b, off, none⟩ ∨ l = []) (hA : At w b off len cap l) (h : len ≤ 5000) (hE : ¬ parseE l = 0) :
    Calls Try.prog 3 #[.slice a len cap] w fun e w' => e = .returned (.bool true) ∧ Below w.heap.size w w' := by
  have h' : ¬ (5000 : Int) < len := by omega
  have HE : Hid (¬ parseE l = 0) := hE
  obtain ⟨E, hEE⟩ : ∃ E, parseE l = E := ⟨_, rfl⟩
  clear hE
  go_enter Try.func3, Try.ntmps3
  go_wp2_with fail
  refine (awake2_any _).mono ?_
  rintro e w1 ⟨rfl, hb1⟩
  go_wp2_with fail
  refine (parse_no a b off len cap l _ ha (hA.later hb1) HE.out).mono ?_
  rintro e w2 ⟨rfl, hb2⟩
  rw [hEE]
  have hx2 := below_trans hb1 (below_trans hb2 (below_alloc w2 (.cells (ipC Dg.zero (.slice none 0 0) (.slice none 0 0)) 26)))
  go_wp2_with fail
  refine (rparse_no a b off len cap l _ ha (hA.later hx2) HE.out).mono ?_
  rintro e w3 ⟨rfl, hb3⟩
  rw [hEE]
  have hx3 := below_trans hx2 (below_trans hb3 (below_alloc w3 (.cells (ipC Dg.zero (.slice none 0 0) (.slice none 0 0)) 26)))
  obtain ⟨d0, d1, d2, d3, d4, d5, d6, d7, d8, d9, d10⟩ := boxes hb3
  have hlt : w2.heap.size < w3.heap.size := by have := hb3.size; simp only [World.size_alloc] at this; omega
  clear hb3 hb2 hb1 hEE
  go_wp2_with fail
  refine (ipsame_one Dg.zero _ _ _ _ _ (bts_nil _) (bts_nil _) (bts_nil _) (bts_nil _)).mono ?_
  rintro e w4 ⟨rfl, hb4⟩
  go_wp2
  go_ret
  exact ⟨rfl, below_trans hx3 hb4⟩

set_option maxHeartbeats 2000000 in
theorem walk_ok (b off len cap : Nat) (l : List Int) (w : World) (hA : At w b off len cap l) (g : Good l) :
    Calls Try.prog 3 #[.slice (some ⟨b, off, none⟩) len cap] w fun e w' => e = .returned (.bool true) ∧ Below w.heap.size w w' := by
  have hl := hA.len
  have ga := g.a
  have h' : ¬ (5000 : Int) < len := by omega
  have HG : Hid (Good l) := g
  clear g
  go_enter Try.func3, Try.ntmps3
  go_wp2_with fail
  refine (awake2_any _).mono ?_
  rintro e w1 ⟨rfl, hb1⟩
  go_wp2_with fail
  refine (parse_ok b off len cap l _ (hA.later hb1) HG.out).mono ?_
  rintro e w2' ⟨a1, k1, a2, k2, rfl, hv1, hv2, hb2⟩
  have hpb := below_alloc w2' (.cells (ipC (dgOf l) (.slice a1 (dgOf l).opts.length k1) (.slice a2 (dgOf l).body.length k2)) 26)
  have hx2 := below_trans hb1 (below_trans hb2 hpb)
  have hv1' := hv1.later hpb
  have hv2' := hv2.later hpb
  obtain ⟨g1, g2, g3, g4, g5, g6, g7, g8, g9⟩ := HG.out
  rw [hl] at g1 g2 g5 g8
  go_wp2_with fail
  refine (rparse_ok b off len cap l _ (hA.later hx2) g1 g2 g3 g4 g5 g6 g7 g8 g9).mono ?_
  rintro e w3 ⟨a3, k3, a4, k4, rfl, hv3, hv4, hb3⟩
  have hpb3 := below_alloc w3 (.cells (ipC (dgOf l) (.slice a3 (dgOf l).opts.length k3) (.slice a4 (dgOf l).body.length k4)) 26)
  have hx3 := below_trans hx2 (below_trans hb3 hpb3)
  have q1 := hv1'.later (below_trans hb3 hpb3)
  have q2 := hv2'.later (below_trans hb3 hpb3)
  have q3 := hv3.later hpb3
  have q4 := hv4.later hpb3
  obtain ⟨d0, d1, d2, d3, d4, d5, d6, d7, d8, d9, d10⟩ := boxes hb3
  have hlt : w2'.heap.size < w3.heap.size := by have := hb3.size; simp only [World.size_alloc] at this; omega
  clear hb3 hb2 hb1 hpb hpb3 hv1 hv2 hv3 hv4 hv1' hv2' g1 g2 g3 g4 g5 g6 g7 g8 g9
  go_wp2_with fail
  refine (ipsame_one (dgOf l) _ _ _ _ _ q1 q2 q3 q4).mono ?_
  rintro e w4 ⟨rfl, hb4⟩
  go_wp2
  go_ret
  exact ⟨rfl, below_trans hx3 hb4⟩

theorem walk (v0 : Value) (w : World) (V0 : IsBts w v0) :
    Calls Try.prog 3 #[v0] w fun e w' => e = .returned (.bool true) ∧ Below w.heap.size w w' := by
  obtain ⟨l, ⟨a, cap, b, off, rfl, h2, h3, h4, h5, h6⟩, -⟩ := V0
  have hA : At w b off l.length cap l := ⟨h2, h3, rfl, h4, h6⟩
  by_cases h1 : 5000 < l.length
  · exact walk_big a b off l.length cap l w h5 hA h1
  by_cases h7 : parseE l = 0
  · have g := good_of l h7
    rcases h5 with rfl | rfl
    · exact walk_ok b off l.length cap l w hA g
    · have := g.b; simp at this
  · exact walk_no a b off l.length cap l w h5 hA (by omega) h7

set_option maxRecDepth 100000 in
theorem lifted (os : Os) (started : os.Started) (H : Type) (enc : TypeId × Value → H) :
    ReturnsInHanded {} Try.checked os 3 .any (Rows.ipParsesSpec.pre6 enc Try.prog Try.f3 Rows.ipParsesRow.domain false) (Rows.ipParsesSpec.post enc Try.prog Try.f3 false true false false) := by
  refine returnsInHanded_of_change_sized (C := Try.checked) own started (by kernel_rfl) Try.func3
    (ChangeSpec.witness6 (enc := enc) (C := Try.checked) false ⟨#[], #[.slice none 0 0], []⟩ 8 (by kernel_rfl) (by kernel_rfl) (by kernel_rfl) (by kernel_rfl)) ?_
  intro W base args ds gs before hval0 hW hcnd hsz0 _
  have hval : ∀ (j : Nat) t v, Try.f3.params[j]? = some t → args[j]? = some v → Value.okWide Try.prog W .any base t v := hval0
  have hsz : ∀ n ∈ DataW.weightsEach Try.prog (Try.f3.params.toList ++ Rows.ipParsesSpec.plain.varTypes Try.prog) (ds ++ gs), n ≤ reachBytes := fun n hn => by simpa using List.all_eq_true.1 hsz0 n hn
  have hW' := hW
  obtain ⟨p, q, hA0, hV, rfl, hfz, hnd⟩ := hW
  have hA : DataW.TrodAll enc Try.prog W 0 (fun _ => true) true Try.f3.params.toList args.toList ds p := hA0
  rw [Try.params3] at hA hval hsz
  obtain ⟨v0, vs0, d0, ds0, p0, q0, hargs, rfl, rfl, h0, r0⟩ := trodAll_cons hA
  obtain ⟨rfl, rfl, rfl⟩ := trodAll_nil r0
  obtain rfl : args = #[v0] := by cases args; simp_all
  obtain ⟨rfl, rfl⟩ := trodVars_none hV
  have lt0 : ∀ x ∈ p0, x.block < W.heap.size := by obtain ⟨m, hm⟩ := h0; exact DataW.trod_lt m _ _ _ hm
  have V0 := view26 (hval 0 22 v0 rfl rfl) h0 (fun n hn => hsz n (DataW.weights_mem_each (j := 0) rfl rfl n hn))
  clear hA0 hval0 hsz0 hsz
  refine (walk v0 W V0).mono fun e W' ⟨he, bel⟩ => ?_
  subst he
  exact ⟨_, rfl, _, _, _, [], _, [], hW', trodAll_mk1 (shut_bool Try.underlying4 _), (trodAll_cons_mk (Below.trod laidOut (by kernel_rfl) (of_decide_eq_true (by kernel_rfl)) h0 bel lt0) trodAll_mk0), rfl, bel.frame _, fun h => by cases h⟩

theorem over : Rows.ipParsesRow.holds Try.pinned (OpenSpec.ofChange Rows.ipParsesSpec) :=
  OpenClaim.holds_of_wide 3 Try.f3 rfl rfl rfl rfl rfl rfl rfl ⟨rfl, rfl, rfl, rfl, rfl⟩ rfl rfl rfl rfl rfl (by kernel_rfl) Try.func3 (by kernel_rfl)
    (of_decide_eq_true (by kernel_rfl)) (by unfold Func.isWrapper; first | (rw [if_pos (by decide +kernel)]; kernel_rfl) | (rw [if_neg (by decide +kernel)]; exact ⟨rfl, rfl⟩))
    (fun os started H enc _ => lifted os started H enc)

end Go.Proofs.Ytkclbmhhlpdcnaa.ipParses
namespace Go.Proofs.Ytkclbmhhlpdcnaa
theorem ipParses_holds : Rows.IpParsesSaid := ipParses.over
#print axioms ipParses_holds
end Go.Proofs.Ytkclbmhhlpdcnaa
