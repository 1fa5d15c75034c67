/- StrandFrames: any body: its frame, or what may not be; scanned, with anything behind, it comes first. -/
import Derived.Test.YtlgkndebhafliaaStrNum
import Derived.Test.YtlgkndebhafliaaStrRFrame
import Derived.Test.YtlgkndebhafliaaRows
set_option maxRecDepth 100000
namespace Go.Proofs.Ytlgkndebhafliaa.strandFrames
open Go.ChangeShapes Go.WideShapes Go.ChangeAt Go.RowKit

theorem same_refl (l : List Int) : sameB l l = true := by unfold sameB; simp

set_option maxHeartbeats 8000000 in
theorem walk (v0 v1 : Value) (w : World) (V0 : IsBts w v0) (V1 : IsBts w v1) : Calls Try.prog 4 #[v0, v1] w fun e w' => e = .returned (.bool true) ∧ Below w.heap.size w w' := by
  obtain ⟨b, hb, _⟩ := V0
  obtain ⟨m, hm, _⟩ := V1
  have HB : Hid (Bts w v0 b) := hb
  have HM : Hid (Bts w v1 m) := hm
  have hbb : isBytes b := by obtain ⟨_, _, _, _, _, _, _, h, _⟩ := hb; exact h
  have hmb : isBytes m := by obtain ⟨_, _, _, _, _, _, _, h, _⟩ := hm; exact h
  obtain ⟨a0, c0, rfl, hl0, hm0, _⟩ := bts_src hb
  obtain ⟨a1, c1, rfl, hl1, hm1, _⟩ := bts_src hm
  clear hb hm
  unfold maxLen at hm0 hm1
  go_enter Try.func4, Try.ntmps4
  by_cases hbig : 1000 < b.length
  · have hbI : (1000 : Int) < (b.length : Int) := by omega
    go_wp2_with (go_at_call 9; refine (awake8_ok _).mono ?_; rintro e w1 ⟨rfl, hB1⟩)
    go_ret
    exact ⟨rfl, hB1⟩
  have hbI : ¬ (1000 : Int) < (b.length : Int) := by omega
  by_cases hmig : 5000 < m.length
  · have hmI : (5000 : Int) < (m.length : Int) := by omega
    go_wp2_with (go_at_call 9; refine (awake8_ok _).mono ?_; rintro e w1 ⟨rfl, hB1⟩)
    go_ret
    exact ⟨rfl, hB1⟩
  have hmI : ¬ (5000 : Int) < (m.length : Int) := by omega
  by_cases hE : frameE b ≠ 0
  · have hEI : (frameE b != 0) = true := by simpa using hE
    have HS : ∀ wr, Calls Try.prog 15 #[.slice none 0 0, .slice none 0 0] wr fun e w' => e = .returned (.bool true) ∧ ∃ nq, w' = wr.drewN nq := fun wr => same_one wr _ _ [] [] (bts_nil wr) (bts_nil wr)
    go_wp2_with (first
      | (go_at_call 9; refine (awake8_ok _).mono ?_; rintro e w1 ⟨rfl, hB1⟩)
      | (go_at_call 10; refine (frame_no _ _ b (HB.out.later hB1) hE).mono ?_; rintro e w2 ⟨rfl, rfl⟩)
      | (go_at_call 16; refine (rframe_no _ _ b (HB.out.later hB1) hE).mono ?_; rintro e w3 ⟨rfl, rfl⟩)
      | (go_at_call 15; refine (HS _).mono ?_; rintro e w4 ⟨rfl, nq, rfl⟩))
    go_ret
    exact ⟨rfl, hB1.trans ((below_drewN _ nq).mono hB1.size)⟩
  have hE0 : frameE b = 0 := by simpa using hE
  obtain ⟨h1, h56⟩ := frameE_len hE0
  have hfl := frameB_len b
  have hfb := frameB_bytes b hbb h56
  have hsc := scan_frame b m hbb h1 h56
  have HSC : Hid (scanB (frameB b ++ m) = b :: scanB m) := hsc
  clear hE hE0 hsc
  go_wp2_with (go_at_call 9; refine (awake8_ok _).mono ?_; rintro e w1 ⟨rfl, hB1⟩)
  refine (frame_ok w1 _ b (HB.out.later hB1) h1 h56).mono ?_
  rintro e w2 ⟨G, rfl, hF2, hB2⟩
  have hB02 := hB1.trans (hB2.mono hB1.size)
  have hf2 : Bts w2 (.slice (some ⟨G, 0, none⟩) (b.length + 7) (b.length + 7)) (frameB b) := hF2.owns.bts hfb
  clear hF2 hB2 hB1
  go_wp2_with fail
  refine (rframe_ok w2 _ b (HB.out.later hB02) h1 h56).mono ?_
  rintro e w3 ⟨v3, rfl, hO3, hB3⟩
  have hf3 := hf2.later hB3
  have hB03 := hB02.trans (hB3.mono hB02.size)
  have hg3 := hO3.bts hfb
  have HS : Calls Try.prog 15 #[.slice (some ⟨G, 0, none⟩) (b.length + 7) (b.length + 7), v3] w3 fun e w' => e = .returned (.bool true) ∧ ∃ nq, w' = w3.drewN nq := by
    have := same_one w3 _ _ _ _ hf3 hg3
    rwa [same_refl] at this
  obtain ⟨q1, q2, hv3, _⟩ := bts_src hg3
  rw [hfl] at hv3
  rw [hv3] at HS
  subst hv3
  clear hf2 hB3 hO3 hg3 hB02
  have HCP : Hid (∀ nq, Calls Try.prog 18 #[.slice (some ⟨G, 0, none⟩) (b.length + 7) (b.length + 7)] (w3.drewN nq) fun e w' => ∃ v, e = .returned v ∧ Owns w' (w3.drewN nq).heap.size v (frameB b) ∧ Below (w3.drewN nq).heap.size (w3.drewN nq) w') := fun nq => by
    obtain ⟨a, cap, B, off, e, k1, k2, k3, k4, k5⟩ := hf3.later (below_drewN w3 nq)
    rw [hfl] at e k1
    rw [e]
    exact copy_any a B off (b.length + 7) cap (frameB b) (w3.drewN nq) k1 hfl k4 k5 (by omega)
  clear hf3
  go_wp2_with fail
  refine HS.mono ?_
  rintro e w4 ⟨rfl, nq, rfl⟩
  have hB04 := hB03.trans ((below_drewN w3 nq).mono hB03.size)
  have HC := HCP.out nq
  clear HS HCP
  generalize w3.drewN nq = w4 at *
  clear hB03
  go_wp2_with fail
  refine HC.mono ?_
  rintro e w5 ⟨v5, rfl, hO5, hB5⟩
  have hB05 := hB04.trans (hB5.mono hB04.size)
  obtain ⟨v6, w6, hrun6, hO6, hB6⟩ := append_bts w5 w4.heap.size v5 _ _ m hO5 (HM.out.later hB05) hB5.size (by rw [hfl]; omega)
  have hB06 := hB05.trans (hB6.mono hB04.size)
  have hbt6 := hO6.bts (isBytes_append hfb hmb)
  have HSc := scan_ok w6 v6 _ hbt6 (by rw [List.length_append, hfl]; omega)
  rw [HSC.out] at HSc
  clear hO5 hB5 hB05 hO6 hB6 HC hbt6
  go_wp2_with (at_builtin; refine wpl_append_run rfl _ _ 23 rfl _ _ rfl rfl hrun6 ?_)
  refine HSc.mono ?_
  rintro e w7 ⟨v7, vs, rfl, hL7, hB7⟩
  have hB07 := hB06.trans (hB7.mono hB06.size)
  obtain ⟨B7, O7, c7, rfl, hc1, hc2, hc3⟩ := hL7.read (by simp)
  have hc0 := hc3 0 (by simp)
  rw [Nat.add_zero] at hc0
  have he := hL7.bts 0 (by simp)
  have he' : Bts w7 (vs.getD 0 undef) b := he
  have HS2 : Calls Try.prog 15 #[vs.getD 0 undef, .slice a0 b.length c0] w7 fun e w' => e = .returned (.bool true) ∧ ∃ nq, w' = w7.drewN nq := by
    have := same_one w7 _ _ _ _ he' (HB.out.later hB07)
    rwa [same_refl] at this
  obtain ⟨z1, z2, hz, _⟩ := bts_src he'
  rw [hz] at hc0 HS2
  clear hz hc3 he he' hL7 hB7 hB06 HSc
  unfold maxLen at hc2
  have hlen : (b :: scanB m).length = (scanB m).length + 1 := rfl
  rw [hlen] at hc1 ⊢
  generalize (scanB m).length = k at *
  have hk : (1 : Int) ≤ ((k + 1 : Nat) : Int) := by omega
  go_wp2_with (go_at_call 15; refine HS2.mono ?_; rintro e w8 ⟨rfl, nq, rfl⟩)
  go_ret
  exact ⟨ret_bool (by simp), hB07.trans ((below_drewN w7 nq).mono hB07.size)⟩

set_option maxRecDepth 100000 in
theorem lifted (os : Os) (started : os.Started) (H : Type) (enc : TypeId × Value → H) :
    ReturnsInHanded {} Try.checked os 4 .any (Rows.strandFramesSpec.pre6 enc Try.prog Try.f4 Rows.strandFramesRow.domain false) (Rows.strandFramesSpec.post enc Try.prog Try.f4 false true false false) := by
  refine returnsInHanded_of_change_sized (C := Try.checked) own started (by kernel_rfl) Try.func4
    (ChangeSpec.witness6 (enc := enc) (C := Try.checked) false ⟨#[], #[.slice none 0 0, .slice none 0 0], []⟩ 8 (by kernel_rfl) (by kernel_rfl) (by kernel_rfl) (by kernel_rfl)) ?_
  intro W base args ds gs before hval0 hW hcnd hsz0 _
  have hval : ∀ (j : Nat) t v, Try.f4.params[j]? = some t → args[j]? = some v → Value.okWide Try.prog W .any base t v := hval0
  have hsz : ∀ n ∈ DataW.weightsEach Try.prog (Try.f4.params.toList ++ Rows.strandFramesSpec.plain.varTypes Try.prog) (ds ++ gs), n ≤ reachBytes := fun n hn => by simpa using List.all_eq_true.1 hsz0 n hn
  have hW' := hW
  obtain ⟨p, q, hA0, hV, rfl, hfz, hnd⟩ := hW
  have hA : DataW.TrodAll enc Try.prog W 0 (fun _ => true) true Try.f4.params.toList args.toList ds p := hA0
  rw [Try.params4] at hA hval hsz
  obtain ⟨v0, vs0, d0, ds0, p0, q0, hargs, rfl, rfl, h0, r0⟩ := trodAll_cons hA
  obtain ⟨v1, vs1, d1, ds1, p1, q1, rfl, rfl, rfl, h1, r1⟩ := trodAll_cons r0
  obtain ⟨rfl, rfl, rfl⟩ := trodAll_nil r1
  obtain rfl : args = #[v0, v1] := by cases args; simp_all
  obtain ⟨rfl, rfl⟩ := trodVars_none hV
  have lt0 : ∀ x ∈ p0, x.block < W.heap.size := by obtain ⟨m, hm⟩ := h0; exact DataW.trod_lt m _ _ _ hm
  have V0 := view26 (hval 0 23 v0 rfl rfl) h0 (fun n hn => hsz n (DataW.weights_mem_each (j := 0) rfl rfl n hn))
  have lt1 : ∀ x ∈ p1, x.block < W.heap.size := by obtain ⟨m, hm⟩ := h1; exact DataW.trod_lt m _ _ _ hm
  have V1 := view26 (hval 1 23 v1 rfl rfl) h1 (fun n hn => hsz n (DataW.weights_mem_each (j := 1) rfl rfl n hn))
  clear hA0 hval0 hsz0 hsz
  refine (walk v0 v1 W V0 V1).mono fun e W' ⟨he, bel⟩ => ?_
  subst he
  exact ⟨_, rfl, _, _, _, [], _, [], hW', trodAll_mk1 (shut_bool Try.underlying4 _), (trodAll_cons_mk (Below.trod laidOut (by kernel_rfl) (of_decide_eq_true (by kernel_rfl)) h0 bel lt0) (trodAll_cons_mk (Below.trod laidOut (by kernel_rfl) (of_decide_eq_true (by kernel_rfl)) h1 bel lt1) trodAll_mk0)), rfl, bel.frame _, fun h => by cases h⟩

theorem over : Rows.strandFramesRow.holds Try.pinned (OpenSpec.ofChange Rows.strandFramesSpec) :=
  OpenClaim.holds_of_wide 4 Try.f4 rfl rfl rfl rfl rfl rfl rfl ⟨rfl, rfl, rfl, rfl, rfl⟩ rfl rfl rfl rfl rfl (by kernel_rfl) Try.func4 (by kernel_rfl)
    (of_decide_eq_true (by kernel_rfl)) (by unfold Func.isWrapper; first | (rw [if_pos (by decide +kernel)]; kernel_rfl) | (rw [if_neg (by decide +kernel)]; exact ⟨rfl, rfl⟩))
    (fun os started H enc _ => lifted os started H enc)

end Go.Proofs.Ytlgkndebhafliaa.strandFrames
namespace Go.Proofs.Ytlgkndebhafliaa
theorem strandFrames_holds : Rows.StrandFramesSaid := strandFrames.over
#print axioms strandFrames_holds
end Go.Proofs.Ytlgkndebhafliaa
