/- IcmpKinds: for all types, codes and rests the call returns true: what a message is, and its number. No condition. -/
import Derived.Test.YtejknbkleinjbaaIcmpAwake
import Derived.Test.YtejknbkleinjbaaIcmpKind
namespace Go.Proofs.Ytejknbkleinjbaa.icmpKinds
open Go.ChangeShapes Go.WideShapes Go.ChangeAt Go.RowKit

theorem boxesW {w w' : World} {m : Wd} {vd : Value} {t : TypeId} (hb : Below (w.alloc (.cells (wdC m vd) t)).heap.size (w.alloc (.cells (wdC m vd) t)) w') :
    w'.cell? ⟨w.heap.size, 0, none⟩ = some (.int .i64 m.type) ∧ w'.cell? ⟨w.heap.size, 1, none⟩ = some (.int .i64 m.code) ∧ w'.cell? ⟨w.heap.size, 2, none⟩ = some (.int .u32 m.rest) ∧ w'.cell? ⟨w.heap.size, 3, none⟩ = some vd :=
  ⟨box_cell hb 0 _ rfl, box_cell hb 1 _ rfl, box_cell hb 2 _ rfl, box_cell hb 3 _ rfl⟩

set_option maxHeartbeats 1000000 in
theorem walk_any (t c x : Int) (w : World) (x0 : 0 ≤ x) (x1 : x < 4294967296) :
    Calls Try.prog 7 #[.int .i64 t, .int .i64 c, .int .u32 x] w fun e w' => e = .returned (.bool true) ∧ Below w.heap.size w w' := by
  have hwr : IntKind.i64.wrap (x / 65536) = x / 65536 := i64_id _ (by omega) (by omega)
  go_enter Try.func7, Try.ntmps7
  go_wp2_with fail
  refine (awake5_any _).mono ?_
  rintro e w1 ⟨rfl, hb1⟩
  go_wp2_with fail
  obtain ⟨W0, hW0⟩ : ∃ W0, W0 = w1.alloc (.cells (wdC ⟨t, c, x, []⟩ (.slice none 0 0)) 26) := ⟨_, rfl⟩
  rw [← hW0]
  have HC : Hid (∀ (w' : World), Below W0.heap.size W0 w' → w'.cell? ⟨w1.heap.size, 0, none⟩ = some (.int .i64 t) ∧ w'.cell? ⟨w1.heap.size, 1, none⟩ = some (.int .i64 c) ∧ w'.cell? ⟨w1.heap.size, 2, none⟩ = some (.int .u32 x) ∧ w'.cell? ⟨w1.heap.size, 3, none⟩ = some (.slice none 0 0)) := by
    intro w' hb
    rw [hW0] at hb
    exact boxesW hb
  have hb0 : Below w1.heap.size w1 W0 := by rw [hW0]; exact below_alloc _ _
  obtain ⟨d0, d1, d2, d3⟩ := HC.out W0 (Below.refl _ _)
  clear hW0
  go_region_held3 (fun w' => w'.cell? ⟨w1.heap.size, 0, none⟩ = some (.int .i64 t) ∧ w'.cell? ⟨w1.heap.size, 1, none⟩ = some (.int .i64 c) ∧ w'.cell? ⟨w1.heap.size, 2, none⟩ = some (.int .u32 x) ∧ w'.cell? ⟨w1.heap.size, 3, none⟩ = some (.slice none 0 0)) (first | go_keep | (exact HC.out _ (by with_reducible assumption)))
    (first
      | (go_at_call 9; refine (kind_any ⟨t, c, x, []⟩ none 0 0 _).mono ?_; rintro e w2 ⟨rfl, hb2'⟩; have hb2 : Below W0.heap.size W0 w2 := below_trans (below_drewN (Below.refl _ _) 1) hb2')
      | (go_at_call 17; refine (rkind_any ⟨t, c, x, []⟩ none 0 0 _).mono ?_; rintro e w3 ⟨rfl, hb3'⟩; have hb3 := below_trans hb2 hb3')
      | (go_at_call 10; refine (number_of ⟨t, c, x, []⟩ none 0 0 _ x0 x1).mono ?_; rintro e w4 ⟨rfl, hb4'⟩; have hb4 := below_trans hb3 hb4'))
  have hx4 := below_trans (below_trans hb1 hb0) hb4
  go_wp2
  go_ret
  exact ⟨rfl, hx4⟩

theorem walk (v0 v1 v2 : Value) (w : World) (V0 : IsI64 w v0) (V1 : IsI64 w v1) (V2 : IsU32 w v2) :
    Calls Try.prog 7 #[v0, v1, v2] w fun e w' => e = .returned (.bool true) ∧ Below w.heap.size w w' := by
  obtain ⟨t, rfl, -, -⟩ := V0
  obtain ⟨c, rfl, -, -⟩ := V1
  obtain ⟨x, rfl, x0, x1⟩ := V2
  exact walk_any t c x w x0 x1

set_option maxRecDepth 100000 in
theorem lifted (os : Os) (started : os.Started) (H : Type) (enc : TypeId × Value → H) :
    ReturnsInHanded {} Try.checked os 7 .any (Rows.icmpKindsSpec.pre6 enc Try.prog Try.f7 Rows.icmpKindsRow.domain false) (Rows.icmpKindsSpec.post enc Try.prog Try.f7 false true false false) := by
  refine returnsInHanded_of_change_sized (C := Try.checked) own started (by kernel_rfl) Try.func7
    (ChangeSpec.witness6 (enc := enc) (C := Try.checked) false ⟨#[], #[.int .i64 0, .int .i64 0, .int .u32 0], []⟩ 8 (by kernel_rfl) (by kernel_rfl) (by kernel_rfl) (by kernel_rfl)) ?_
  intro W base args ds gs before hval0 hW hcnd hsz0 _
  have hval : ∀ (j : Nat) t v, Try.f7.params[j]? = some t → args[j]? = some v → Value.okWide Try.prog W .any base t v := hval0
  have hsz : ∀ n ∈ DataW.weightsEach Try.prog (Try.f7.params.toList ++ Rows.icmpKindsSpec.plain.varTypes Try.prog) (ds ++ gs), n ≤ reachBytes := fun n hn => by simpa using List.all_eq_true.1 hsz0 n hn
  have hW' := hW
  obtain ⟨p, q, hA0, hV, rfl, hfz, hnd⟩ := hW
  have hA : DataW.TrodAll enc Try.prog W 0 (fun _ => true) true Try.f7.params.toList args.toList ds p := hA0
  rw [Try.params7] at hA hval hsz
  obtain ⟨v0, vs0, d0, ds0, p0, q0, hargs, rfl, rfl, h0, r0⟩ := trodAll_cons hA
  obtain ⟨v1, vs1, d1, ds1, p1, q1, rfl, rfl, rfl, h1, r1⟩ := trodAll_cons r0
  obtain ⟨v2, vs2, d2, ds2, p2, q2, rfl, rfl, rfl, h2, r2⟩ := trodAll_cons r1
  obtain ⟨rfl, rfl, rfl⟩ := trodAll_nil r2
  obtain rfl : args = #[v0, v1, v2] := by cases args; simp_all
  obtain ⟨rfl, rfl⟩ := trodVars_none hV
  have lt0 : ∀ x ∈ p0, x.block < W.heap.size := by obtain ⟨m, hm⟩ := h0; exact DataW.trod_lt m _ _ _ hm
  have V0 := view3 (hval 0 3 v0 rfl rfl) h0 (fun n hn => hsz n (DataW.weights_mem_each (j := 0) rfl rfl n hn))
  have lt1 : ∀ x ∈ p1, x.block < W.heap.size := by obtain ⟨m, hm⟩ := h1; exact DataW.trod_lt m _ _ _ hm
  have V1 := view3 (hval 1 3 v1 rfl rfl) h1 (fun n hn => hsz n (DataW.weights_mem_each (j := 1) rfl rfl n hn))
  have lt2 : ∀ x ∈ p2, x.block < W.heap.size := by obtain ⟨m, hm⟩ := h2; exact DataW.trod_lt m _ _ _ hm
  have V2 := viewU32 (hval 2 23 v2 rfl rfl) h2 (fun n hn => hsz n (DataW.weights_mem_each (j := 2) rfl rfl n hn))
  clear hA0 hval0 hsz0 hsz
  refine (walk v0 v1 v2 W V0 V1 V2).mono fun e W' ⟨he, bel⟩ => ?_
  subst he
  exact ⟨_, rfl, _, _, _, [], _, [], hW', trodAll_mk1 (shut_bool Try.underlying4 _), (trodAll_cons_mk (Below.trod laidOut (by kernel_rfl) (of_decide_eq_true (by kernel_rfl)) h0 bel lt0) (trodAll_cons_mk (Below.trod laidOut (by kernel_rfl) (of_decide_eq_true (by kernel_rfl)) h1 bel lt1) (trodAll_cons_mk (Below.trod laidOut (by kernel_rfl) (of_decide_eq_true (by kernel_rfl)) h2 bel lt2) trodAll_mk0))), rfl, bel.frame _, fun h => by cases h⟩

theorem over : Rows.icmpKindsRow.holds Try.pinned (OpenSpec.ofChange Rows.icmpKindsSpec) :=
  OpenClaim.holds_of_wide 7 Try.f7 rfl rfl rfl rfl rfl rfl rfl ⟨rfl, rfl, rfl, rfl, rfl⟩ rfl rfl rfl rfl rfl (by kernel_rfl) Try.func7 (by kernel_rfl)
    (of_decide_eq_true (by kernel_rfl)) (by unfold Func.isWrapper; first | (rw [if_pos (by decide +kernel)]; kernel_rfl) | (rw [if_neg (by decide +kernel)]; exact ⟨rfl, rfl⟩))
    (fun os started H enc _ => lifted os started H enc)

end Go.Proofs.Ytejknbkleinjbaa.icmpKinds
namespace Go.Proofs.Ytejknbkleinjbaa
theorem icmpKinds_holds : Rows.IcmpKindsSaid := icmpKinds.over
#print axioms icmpKinds_holds
end Go.Proofs.Ytejknbkleinjbaa
