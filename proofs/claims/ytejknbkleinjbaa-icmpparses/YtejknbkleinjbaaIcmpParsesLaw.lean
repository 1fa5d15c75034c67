/- IcmpParses: for all bytes the call returns true: the message that stands there, or the first thing that is wrong. No condition. -/
import Derived.Test.YtejknbkleinjbaaIcmpAwake
import Derived.Test.YtejknbkleinjbaaIcmpRparse
namespace Go.Proofs.Ytejknbkleinjbaa.icmpParses
open Go.ChangeShapes Go.WideShapes Go.ChangeAt Go.RowKit

theorem boxesW {w w' : World} {m : Wd} {vd : Value} {t : TypeId} (hb : Below (w.alloc (.cells (wdC m vd) t)).heap.size (w.alloc (.cells (wdC m vd) t)) w') :
    w'.cell? ⟨w.heap.size, 0, none⟩ = some (.int .i64 m.type) ∧ w'.cell? ⟨w.heap.size, 1, none⟩ = some (.int .i64 m.code) ∧ w'.cell? ⟨w.heap.size, 2, none⟩ = some (.int .u32 m.rest) ∧ w'.cell? ⟨w.heap.size, 3, none⟩ = some vd :=
  ⟨box_cell hb 0 _ rfl, box_cell hb 1 _ rfl, box_cell hb 2 _ rfl, box_cell hb 3 _ rfl⟩

set_option maxHeartbeats 1000000 in
theorem walk_big (a : Option Addr) (len cap : Nat) (w : World) (h : 100000 < len) :
    Calls Try.prog 4 #[.slice a len cap] w fun e w' => e = .returned (.bool true) ∧ Below w.heap.size w w' := by
  have h' : (100000 : Int) < len := by omega
  go_enter Try.func4, Try.ntmps4
  go_wp2_with fail
  refine (awake5_any _).mono ?_
  rintro e w1 ⟨rfl, hb1⟩
  go_wp2
  go_ret
  exact ⟨rfl, hb1⟩

set_option maxHeartbeats 2000000 in
theorem walk_no (a : Option Addr) (b off len cap : Nat) (l : List Int) (w : World) (ha : a = some ⟨b, off, none⟩ ∨ l = []) (hA : At w b off len cap l) (h : len ≤ 100000) (hE : ¬ parseW l = 0) :
    Calls Try.prog 4 #[.slice a len cap] w fun e w' => e = .returned (.bool true) ∧ Below w.heap.size w w' := by
  have h' : ¬ (100000 : Int) < len := by omega
  have HE : Hid (¬ parseW l = 0) := hE
  obtain ⟨E, hEE⟩ : ∃ E, parseW l = E := ⟨_, rfl⟩
  clear hE
  go_enter Try.func4, Try.ntmps4
  go_wp2_with fail
  refine (awake5_any _).mono ?_
  rintro e w1 ⟨rfl, hb1⟩
  go_wp2_with fail
  refine (wparse_no a b off len cap l _ ha (hA.later hb1) (by omega) HE.out).mono ?_
  rintro e w2 ⟨rfl, hb2⟩
  rw [hEE]
  have hx2 := below_trans hb1 (below_trans hb2 (below_alloc w2 (.cells (wdC Wd.zero (.slice none 0 0)) 26)))
  go_wp2_with fail
  refine (wrparse_no a b off len cap l _ ha (hA.later hx2) (by omega) HE.out).mono ?_
  rintro e w3 ⟨rfl, hb3⟩
  rw [hEE]
  have hx3 := below_trans hx2 (below_trans hb3 (below_alloc w3 (.cells (wdC Wd.zero (.slice none 0 0)) 26)))
  obtain ⟨d0, d1, d2, d3⟩ := boxesW hb3
  have hlt : w2.heap.size < w3.heap.size := by have := hb3.size; simp only [World.size_alloc] at this; omega
  clear hb3 hb2 hb1 hEE
  go_wp2_with fail
  refine (wsame_one Wd.zero _ _ _ (bts_nil _) (bts_nil _)).mono ?_
  rintro e w4 ⟨rfl, hb4⟩
  go_wp2
  go_ret
  exact ⟨rfl, below_trans hx3 hb4⟩

set_option maxHeartbeats 2000000 in
theorem walk_ok (b off len cap : Nat) (l : List Int) (w : World) (hA : At w b off len cap l) (h : len ≤ 100000) (g : WGood l) :
    Calls Try.prog 4 #[.slice (some ⟨b, off, none⟩) len cap] w fun e w' => e = .returned (.bool true) ∧ Below w.heap.size w w' := by
  have h' : ¬ (100000 : Int) < len := by omega
  have HG : Hid (WGood l) := g
  clear g
  go_enter Try.func4, Try.ntmps4
  go_wp2_with fail
  refine (awake5_any _).mono ?_
  rintro e w1 ⟨rfl, hb1⟩
  go_wp2_with fail
  refine (wparse_ok b off len cap l _ (hA.later hb1) (by omega) HG.out).mono ?_
  rintro e w2' ⟨a1, k1, rfl, hv1, hb2⟩
  have hpb := below_alloc w2' (.cells (wdC (wdOf l) (.slice a1 (wdOf l).data.length k1)) 26)
  have hx2 := below_trans hb1 (below_trans hb2 hpb)
  have hv1' := hv1.later hpb
  go_wp2_with fail
  refine (wrparse_ok b off len cap l _ (hA.later hx2) (by omega) HG.out).mono ?_
  rintro e w3 ⟨a3, k3, rfl, hv3, hb3⟩
  have hpb3 := below_alloc w3 (.cells (wdC (wdOf l) (.slice a3 (wdOf l).data.length k3)) 26)
  have hx3 := below_trans hx2 (below_trans hb3 hpb3)
  have q1 := hv1'.later (below_trans hb3 hpb3)
  have q3 := hv3.later hpb3
  obtain ⟨d0, d1, d2, d3⟩ := boxesW hb3
  have hlt : w2'.heap.size < w3.heap.size := by have := hb3.size; simp only [World.size_alloc] at this; omega
  clear hb3 hb2 hb1 hpb hpb3 hv1 hv3 hv1'
  go_wp2_with fail
  refine (wsame_one (wdOf l) _ _ _ q1 q3).mono ?_
  rintro e w4 ⟨rfl, hb4⟩
  go_wp2
  go_ret
  exact ⟨rfl, below_trans hx3 hb4⟩

theorem walk (v0 : Value) (w : World) (V0 : IsBts w v0) :
    Calls Try.prog 4 #[v0] w fun e w' => e = .returned (.bool true) ∧ Below w.heap.size w w' := by
  obtain ⟨l, ⟨a, cap, b, off, rfl, h2, h3, h4, h5, h6⟩, -⟩ := V0
  have hA : At w b off l.length cap l := ⟨h2, h3, rfl, h4, h6⟩
  by_cases h1 : 100000 < l.length
  · exact walk_big a l.length cap w h1
  by_cases h7 : parseW l = 0
  · have g := wgood_of l h7
    rcases h5 with rfl | rfl
    · exact walk_ok b off l.length cap l w hA (by omega) g
    · have := g.a; simp at this
  · exact walk_no a b off l.length cap l w h5 hA (by omega) h7

set_option maxRecDepth 100000 in
theorem lifted (os : Os) (started : os.Started) (H : Type) (enc : TypeId × Value → H) :
    ReturnsInHanded {} Try.checked os 4 .any (Rows.icmpParsesSpec.pre6 enc Try.prog Try.f4 Rows.icmpParsesRow.domain false) (Rows.icmpParsesSpec.post enc Try.prog Try.f4 false true false false) := by
  refine returnsInHanded_of_change_sized (C := Try.checked) own started (by kernel_rfl) Try.func4
    (ChangeSpec.witness6 (enc := enc) (C := Try.checked) false ⟨#[], #[.slice none 0 0], []⟩ 8 (by kernel_rfl) (by kernel_rfl) (by kernel_rfl) (by kernel_rfl)) ?_
  intro W base args ds gs before hval0 hW hcnd hsz0 _
  have hval : ∀ (j : Nat) t v, Try.f4.params[j]? = some t → args[j]? = some v → Value.okWide Try.prog W .any base t v := hval0
  have hsz : ∀ n ∈ DataW.weightsEach Try.prog (Try.f4.params.toList ++ Rows.icmpParsesSpec.plain.varTypes Try.prog) (ds ++ gs), n ≤ reachBytes := fun n hn => by simpa using List.all_eq_true.1 hsz0 n hn
  have hW' := hW
  obtain ⟨p, q, hA0, hV, rfl, hfz, hnd⟩ := hW
  have hA : DataW.TrodAll enc Try.prog W 0 (fun _ => true) true Try.f4.params.toList args.toList ds p := hA0
  rw [Try.params4] at hA hval hsz
  obtain ⟨v0, vs0, d0, ds0, p0, q0, hargs, rfl, rfl, h0, r0⟩ := trodAll_cons hA
  obtain ⟨rfl, rfl, rfl⟩ := trodAll_nil r0
  obtain rfl : args = #[v0] := by cases args; simp_all
  obtain ⟨rfl, rfl⟩ := trodVars_none hV
  have lt0 : ∀ x ∈ p0, x.block < W.heap.size := by obtain ⟨m, hm⟩ := h0; exact DataW.trod_lt m _ _ _ hm
  have V0 := view26 (hval 0 24 v0 rfl rfl) h0 (fun n hn => hsz n (DataW.weights_mem_each (j := 0) rfl rfl n hn))
  clear hA0 hval0 hsz0 hsz
  refine (walk v0 W V0).mono fun e W' ⟨he, bel⟩ => ?_
  subst he
  exact ⟨_, rfl, _, _, _, [], _, [], hW', trodAll_mk1 (shut_bool Try.underlying4 _), (trodAll_cons_mk (Below.trod laidOut (by kernel_rfl) (of_decide_eq_true (by kernel_rfl)) h0 bel lt0) trodAll_mk0), rfl, bel.frame _, fun h => by cases h⟩

theorem over : Rows.icmpParsesRow.holds Try.pinned (OpenSpec.ofChange Rows.icmpParsesSpec) :=
  OpenClaim.holds_of_wide 4 Try.f4 rfl rfl rfl rfl rfl rfl rfl ⟨rfl, rfl, rfl, rfl, rfl⟩ rfl rfl rfl rfl rfl (by kernel_rfl) Try.func4 (by kernel_rfl)
    (of_decide_eq_true (by kernel_rfl)) (by unfold Func.isWrapper; first | (rw [if_pos (by decide +kernel)]; kernel_rfl) | (rw [if_neg (by decide +kernel)]; exact ⟨rfl, rfl⟩))
    (fun os started H enc _ => lifted os started H enc)

end Go.Proofs.Ytejknbkleinjbaa.icmpParses
namespace Go.Proofs.Ytejknbkleinjbaa
theorem icmpParses_holds : Rows.IcmpParsesSaid := icmpParses.over
#print axioms icmpParses_holds
end Go.Proofs.Ytejknbkleinjbaa
