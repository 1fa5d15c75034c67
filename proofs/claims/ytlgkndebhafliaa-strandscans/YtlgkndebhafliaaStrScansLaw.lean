/- StrandScans: any bytes: the bodies of the frames that they begin with. -/
import Derived.Test.YtlgkndebhafliaaM20
import Derived.Test.YtlgkndebhafliaaRows
set_option maxRecDepth 100000
namespace Go.Proofs.Ytlgkndebhafliaa.strandScans
open Go.ChangeShapes Go.WideShapes Go.ChangeAt Go.RowKit

set_option maxHeartbeats 4000000 in
theorem walk (v0 : Value) (w : World) (V0 : IsBts w v0) : Calls Try.prog 5 #[v0] w fun e w' => e = .returned (.bool true) ∧ Below w.heap.size w w' := by
  obtain ⟨b, hb, _⟩ := V0
  have HB : Hid (Bts w v0 b) := hb
  obtain ⟨a0, c0, rfl, hl0, hm0, _⟩ := bts_src hb
  clear hb
  unfold maxLen at hm0
  go_enter Try.func5, Try.ntmps5
  by_cases hbig : 20000 < b.length
  · have hbI : (20000 : Int) < (b.length : Int) := by omega
    go_wp2_with (go_at_call 9; refine (awake8_ok _).mono ?_; rintro e w1 ⟨rfl, hB1⟩)
    go_ret
    exact ⟨rfl, hB1⟩
  have hbI : ¬ (20000 : Int) < (b.length : Int) := by omega
  go_wp2_with (go_at_call 9; refine (awake8_ok _).mono ?_; rintro e w1 ⟨rfl, hB1⟩)
  refine (scan_ok w1 _ b (HB.out.later hB1) (by omega)).mono ?_
  rintro e w2 ⟨v2, vs, rfl, hL2, hB2⟩
  have hB02 := hB1.trans (hB2.mono hB1.size)
  obtain ⟨av, cv, rfl⟩ := win_shape hL2.win
  have HL2 : Hid (Lst w2 w1.heap.size (.slice av (scanB b).length cv) vs (scanB b)) := hL2
  clear hL2 hB2 hB1
  go_wp2_with fail
  refine (rscan_ok w2 _ b (HB.out.later hB02) (by omega)).mono ?_
  rintro e w3 ⟨v3, us, rfl, hL3, hB3⟩
  have hB03 := hB02.trans (hB3.mono hB02.size)
  have HS := same8_ok w3 _ _ _ _ vs us (scanB b) (HL2.out.later hB3) hL3
  obtain ⟨au, cu, rfl⟩ := win_shape hL3.win
  clear hL3 hB3 hB02
  go_wp2_with fail
  refine HS.mono ?_
  rintro e w4 ⟨rfl, nq, rfl⟩
  go_wp2
  go_ret
  exact ⟨rfl, hB03.trans ((below_drewN w3 nq).mono hB03.size)⟩

set_option maxRecDepth 100000 in
theorem lifted (os : Os) (started : os.Started) (H : Type) (enc : TypeId × Value → H) :
    ReturnsInHanded {} Try.checked os 5 .any (Rows.strandScansSpec.pre6 enc Try.prog Try.f5 Rows.strandScansRow.domain false) (Rows.strandScansSpec.post enc Try.prog Try.f5 false true false false) := by
  refine returnsInHanded_of_change_sized (C := Try.checked) own started (by kernel_rfl) Try.func5
    (ChangeSpec.witness6 (enc := enc) (C := Try.checked) false ⟨#[], #[.slice none 0 0], []⟩ 8 (by kernel_rfl) (by kernel_rfl) (by kernel_rfl) (by kernel_rfl)) ?_
  intro W base args ds gs before hval0 hW hcnd hsz0 _
  have hval : ∀ (j : Nat) t v, Try.f5.params[j]? = some t → args[j]? = some v → Value.okWide Try.prog W .any base t v := hval0
  have hsz : ∀ n ∈ DataW.weightsEach Try.prog (Try.f5.params.toList ++ Rows.strandScansSpec.plain.varTypes Try.prog) (ds ++ gs), n ≤ reachBytes := fun n hn => by simpa using List.all_eq_true.1 hsz0 n hn
  have hW' := hW
  obtain ⟨p, q, hA0, hV, rfl, hfz, hnd⟩ := hW
  have hA : DataW.TrodAll enc Try.prog W 0 (fun _ => true) true Try.f5.params.toList args.toList ds p := hA0
  rw [Try.params5] at hA hval hsz
  obtain ⟨v0, vs0, d0, ds0, p0, q0, hargs, rfl, rfl, h0, r0⟩ := trodAll_cons hA
  obtain ⟨rfl, rfl, rfl⟩ := trodAll_nil r0
  obtain rfl : args = #[v0] := by cases args; simp_all
  obtain ⟨rfl, rfl⟩ := trodVars_none hV
  have lt0 : ∀ x ∈ p0, x.block < W.heap.size := by obtain ⟨m, hm⟩ := h0; exact DataW.trod_lt m _ _ _ hm
  have V0 := view26 (hval 0 23 v0 rfl rfl) h0 (fun n hn => hsz n (DataW.weights_mem_each (j := 0) rfl rfl n hn))
  clear hA0 hval0 hsz0 hsz
  refine (walk v0 W V0).mono fun e W' ⟨he, bel⟩ => ?_
  subst he
  exact ⟨_, rfl, _, _, _, [], _, [], hW', trodAll_mk1 (shut_bool Try.underlying4 _), (trodAll_cons_mk (Below.trod laidOut (by kernel_rfl) (of_decide_eq_true (by kernel_rfl)) h0 bel lt0) trodAll_mk0), rfl, bel.frame _, fun h => by cases h⟩

theorem over : Rows.strandScansRow.holds Try.pinned (OpenSpec.ofChange Rows.strandScansSpec) :=
  OpenClaim.holds_of_wide 5 Try.f5 rfl rfl rfl rfl rfl rfl rfl ⟨rfl, rfl, rfl, rfl, rfl⟩ rfl rfl rfl rfl rfl (by kernel_rfl) Try.func5 (by kernel_rfl)
    (of_decide_eq_true (by kernel_rfl)) (by unfold Func.isWrapper; first | (rw [if_pos (by decide +kernel)]; kernel_rfl) | (rw [if_neg (by decide +kernel)]; exact ⟨rfl, rfl⟩))
    (fun os started H enc _ => lifted os started H enc)

end Go.Proofs.Ytlgkndebhafliaa.strandScans
namespace Go.Proofs.Ytlgkndebhafliaa
theorem strandScans_holds : Rows.StrandScansSaid := strandScans.over
#print axioms strandScans_holds
end Go.Proofs.Ytlgkndebhafliaa
