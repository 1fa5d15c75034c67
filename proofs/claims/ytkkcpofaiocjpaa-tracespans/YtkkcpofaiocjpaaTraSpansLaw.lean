/- TraceSpans: for all entries the call returns true: the spans are the document's. No condition. -/
import Derived.Test.YtkkcpofaiocjpaaTraAwake
import Derived.Test.YtkkcpofaiocjpaaRows
set_option maxRecDepth 100000
namespace Go.Proofs.Ytkkcpofaiocjpaa.traceSpans
open Go.ChangeShapes Go.WideShapes Go.ChangeAt Go.RowKit

set_option maxHeartbeats 2000000 in
theorem walk (v0 : Value) (w : World) (V0 : IsEns w v0) :
    Calls Try.prog 4 #[v0] w fun e w' => e = .returned (.bool true) ∧ Below w.heap.size w w' := by
  obtain ⟨B, O, l, hE, hok⟩ := V0
  have HE : Hid (Ens w v0 B O l) := hE
  have HOK : Hid (∀ e ∈ l, e.Ok) := hok
  clear hE hok
  go_enter Try.func4, Try.ntmps4
  go_wp2_with fail
  refine (awake10_any _).mono ?_
  rintro e w1 ⟨rfl, hb1⟩
  have HF := fair_any v0 B O l w1 (HE.out.later hb1)
  have HB1 : Hid (Below w.heap.size w w1) := hb1
  clear hb1
  cases hf : fairB l with
  | false =>
    rw [hf] at HF
    go_wp2_with fail
    refine HF.mono ?_
    rintro e w2 ⟨rfl, h2⟩
    have h2 := h2.symm
    subst h2
    go_wp2
    go_ret
    exact ⟨rfl, HB1.out⟩
  | true =>
    rw [hf] at HF
    have hl : l.length ≤ 300 := by unfold fairB at hf; simp at hf; exact hf.1
    clear hf
    go_wp2_with fail
    refine HF.mono ?_
    rintro e w2 ⟨rfl, h2⟩
    have h2 := h2.symm
    subst h2
    have HS := spans_ok v0 B O l w1 (HE.out.later HB1.out) HOK.out (by omega)
    go_wp2_with fail
    refine HS.mono ?_
    rintro e w3 ⟨r, rfl, hR, hb3⟩
    have HR : Hid (SpRow w3 (w1.heap.size + 1) r (spans l)) := hR
    have HB3 : Hid (Below w.heap.size w w3) := below_trans HB1.out hb3
    have HT := rspans_ok v0 B O l w3 (HE.out.later HB3.out) HOK.out (by omega)
    obtain ⟨ra, rc, rfl, -⟩ := ownsRow_shape hR
    clear hR hb3 HS HF
    generalize (spans l).length = n at *
    go_wp2_with fail
    refine HT.mono ?_
    rintro e w4 ⟨r4, rfl, hR4, hb4⟩
    obtain ⟨C3, s3, -⟩ := spRow_sps HR.out
    obtain ⟨C4, s4, -⟩ := spRow_sps hR4
    have HM := same10_ok w4 _ _ C3 0 C4 0 (spans l) (s3.later hb4) s4
    have HB4 : Hid (Below w.heap.size w w4) := below_trans HB3.out hb4
    obtain ⟨ra4, rc4, rfl, -⟩ := ownsRow_shape hR4
    clear hR4 hb4 s3 s4 HT
    go_wp2_with fail
    refine (by exact HM : Calls _ _ _ _ _).mono ?_
    rintro e w5 ⟨rfl, nq, rfl⟩
    go_wp2
    go_ret
    exact ⟨rfl, below_trans HB4.out (below_drewN10 _ _)⟩

set_option maxRecDepth 100000 in
theorem lifted (os : Os) (started : os.Started) (H : Type) (enc : TypeId × Value → H) :
    ReturnsInHanded {} Try.checked os 4 .any (Rows.traceSpansSpec.pre6 enc Try.prog Try.f4 Rows.traceSpansRow.domain false) (Rows.traceSpansSpec.post enc Try.prog Try.f4 false true false false) := by
  refine returnsInHanded_of_change_sized (C := Try.checked) own started (by kernel_rfl) Try.func4
    (ChangeSpec.witness6 (enc := enc) (C := Try.checked) false ⟨#[], #[.slice none 0 0], []⟩ 8 (by kernel_rfl) (by kernel_rfl) (by kernel_rfl) (by kernel_rfl)) ?_
  intro W base args ds gs before hval0 hW hcnd hsz0 _
  have hval : ∀ (j : Nat) t v, Try.f4.params[j]? = some t → args[j]? = some v → Value.okWide Try.prog W .any base t v := hval0
  have hsz : ∀ n ∈ DataW.weightsEach Try.prog (Try.f4.params.toList ++ Rows.traceSpansSpec.plain.varTypes Try.prog) (ds ++ gs), n ≤ reachBytes := fun n hn => by simpa using List.all_eq_true.1 hsz0 n hn
  have hW' := hW
  obtain ⟨p, q, hA0, hV, rfl, hfz, hnd⟩ := hW
  have hA : DataW.TrodAll enc Try.prog W 0 (fun _ => true) true Try.f4.params.toList args.toList ds p := hA0
  rw [Try.params4] at hA hval hsz
  obtain ⟨v0, vs0, d0, ds0, p0, q0, hargs, rfl, rfl, h0, r0⟩ := trodAll_cons hA
  obtain ⟨rfl, rfl, rfl⟩ := trodAll_nil r0
  obtain rfl : args = #[v0] := by cases args; simp_all
  obtain ⟨rfl, rfl⟩ := trodVars_none hV
  have lt0 : ∀ x ∈ p0, x.block < W.heap.size := by obtain ⟨m, hm⟩ := h0; exact DataW.trod_lt m _ _ _ hm
  have V0 := viewEns (hval 0 25 v0 rfl rfl) h0 (fun n hn => hsz n (DataW.weights_mem_each (j := 0) rfl rfl n hn))
  clear hA0 hval0 hsz0 hsz
  refine (walk v0 W V0).mono fun e W' ⟨he, bel⟩ => ?_
  subst he
  exact ⟨_, rfl, _, _, _, [], _, [], hW', trodAll_mk1 (shut_bool Try.underlying4 _), (trodAll_cons_mk (Below.trod laidOut (by kernel_rfl) (of_decide_eq_true (by kernel_rfl)) h0 bel lt0) trodAll_mk0), rfl, bel.frame _, fun h => by cases h⟩

theorem over : Rows.traceSpansRow.holds Try.pinned (OpenSpec.ofChange Rows.traceSpansSpec) :=
  OpenClaim.holds_of_wide 4 Try.f4 rfl rfl rfl rfl rfl rfl rfl ⟨rfl, rfl, rfl, rfl, rfl⟩ rfl rfl rfl rfl rfl (by kernel_rfl) Try.func4 (by kernel_rfl)
    (of_decide_eq_true (by kernel_rfl)) (by unfold Func.isWrapper; first | (rw [if_pos (by decide +kernel)]; kernel_rfl) | (rw [if_neg (by decide +kernel)]; exact ⟨rfl, rfl⟩))
    (fun os started H enc _ => lifted os started H enc)

end Go.Proofs.Ytkkcpofaiocjpaa.traceSpans
namespace Go.Proofs.Ytkkcpofaiocjpaa
theorem traceSpans_holds : Rows.TraceSpansSaid := traceSpans.over
#print axioms traceSpans_holds
end Go.Proofs.Ytkkcpofaiocjpaa
