/- TraceKnown: chapter 10's examples: the call returns true. No condition. -/
import Derived.Test.YtkkcpofaiocjpaaTraWho
import Derived.Test.YtkkcpofaiocjpaaTraApart
import Derived.Test.YtkkcpofaiocjpaaTraAwake
import Derived.Test.YtkkcpofaiocjpaaRows
set_option maxRecDepth 100000
namespace Go.Proofs.Ytkkcpofaiocjpaa.traceKnown
open Go.ChangeShapes Go.WideShapes Go.ChangeAt Go.RowKit

def S0 : List Sp := [⟨7, 9, 0, 5, 9, false⟩, ⟨8, 9, 0, 20, 0, true⟩]

theorem S0_ok : OkAll S0 := by
  intro s hs
  simp [S0] at hs
  rcases hs with rfl | rfl <;> constructor <;> decide

theorem who_at (t : Int) (r : List Int) (hs : subsAt S0 9 0 t = r) (hr : r.length ≤ 1) (ht : t ≤ 9223372036854775807) (v : Value) (B O : Nat) (w : World) (h : Sps w v B O S0) :
    Calls Try.prog 12 #[v, .int .u32 9, .int .i64 0, .int .i64 t] w fun e w' => ∃ v', e = .returned v' ∧ URow w' w.heap.size v' r ∧ Below w.heap.size w w' := by
  refine (who_ok 1 sortU_one v B O S0 9 0 t w h S0_ok (by decide) (by rw [hs]; exact hr) ht).mono ?_
  rintro e w' ⟨v', c, rfl, h1, h2, h3⟩
  have hr' : WhoOf S0 9 0 t r := by
    refine ⟨?_, fun x => by rw [hs]⟩
    match r, hr with
    | [], _ => exact List.Pairwise.nil
    | [x], _ => simp
  rw [h2.one hr'] at h1
  exact ⟨v', rfl, h1, h3⟩

theorem lit_u (w : World) (x : Int) : Us (w.alloc (.cells #[.int .u32 x] 29)) (.slice (some ⟨w.heap.size, 0, none⟩) 1 1) w.heap.size 0 [x] :=
  ⟨_, 1, rfl, by simp, by decide, .inl rfl, fun i hi => by
    have : i = 0 := by simp at hi; omega
    subst this
    simp⟩

set_option maxHeartbeats 4000000 in
theorem walk (w : World) : Calls Try.prog 3 #[] w fun e w' => e = .returned (.bool true) ∧ Below w.heap.size w w' := by
  go_enter Try.func3, Try.ntmps3
  go_wp2_with fail
  refine (awake10_any _).mono ?_
  rintro e w1 ⟨rfl, hb1⟩
  go_wp2_with fail
  refine (story_any _).mono ?_
  rintro e w2 ⟨v, B, rfl, hE, hb2⟩
  have hx2 := below_trans hb1 hb2
  have HS := spans_ok v B 0 storyL w2 hE story_ok (by decide)
  rw [story_spans] at HS
  clear hE hb1 hb2
  go_wp2_with fail
  refine HS.mono ?_
  rintro e w3 ⟨sv, rfl, hR, hb3⟩
  obtain ⟨C, hsp, -⟩ := spRow_sps hR
  have HSp : Hid (Sps w3 sv C 0 S0) := hsp
  have HX3 : Hid (Below w.heap.size w w3) := below_trans hx2 hb3
  clear hR hsp hb3 hx2 HS
  have H4 := who_at 4 [] (by decide) (by decide) (by decide) sv C 0 w3 HSp.out
  go_wp2_with fail
  refine H4.mono ?_
  rintro e w4 ⟨v4, rfl, hR4, hb4⟩
  obtain ⟨a4, c4, rfl, -⟩ := ownsRow_shape hR4
  have HX34 : Hid (Below w3.heap.size w3 w4) := hb4
  have H5 := who_at 5 [7] (by decide) (by decide) (by decide) sv C 0 w4 (HSp.out.later HX34.out)
  clear hR4 hb4 H4
  go_wp2_with fail
  refine H5.mono ?_
  rintro e w5 ⟨v5, rfl, hR5, hb5⟩
  obtain ⟨B5, hU5⟩ := uRow_us hR5
  have HX35 : Hid (Below w3.heap.size w3 (w5.alloc (.cells #[.int .u32 7] 29))) := below_trans (below_trans HX34.out hb5) (below_alloc _ _)
  have HM5 := subs_ok (w5.alloc (.cells #[.int .u32 7] 29)) v5 _ B5 0 _ 0 [7] (hU5.later (below_alloc _ _)) (lit_u w5 7)
  clear hR5 hb5 H5 hU5
  go_wp2_with fail
  refine HM5.mono ?_
  rintro e w6 ⟨rfl, nq6, h6⟩
  have HX36 : Hid (Below w3.heap.size w3 w6) := by show Below _ _ _; rw [h6]; exact below_trans HX35.out (below_drewN10 _ _)
  have H9 := who_at 9 [7] (by decide) (by decide) (by decide) sv C 0 w6 (HSp.out.later HX36.out)
  clear h6 HM5
  go_wp2_with fail
  refine H9.mono ?_
  rintro e w7 ⟨v7, rfl, hR7, hb7⟩
  obtain ⟨B7, hU7⟩ := uRow_us hR7
  have HX37 : Hid (Below w3.heap.size w3 (w7.alloc (.cells #[.int .u32 7] 29))) := below_trans (below_trans HX36.out hb7) (below_alloc _ _)
  have HM7 := subs_ok (w7.alloc (.cells #[.int .u32 7] 29)) v7 _ B7 0 _ 0 [7] (hU7.later (below_alloc _ _)) (lit_u w7 7)
  clear hR7 hb7 H9 hU7
  go_wp2_with fail
  refine HM7.mono ?_
  rintro e w8 ⟨rfl, nq8, h8⟩
  have HX38 : Hid (Below w3.heap.size w3 w8) := by show Below _ _ _; rw [h8]; exact below_trans HX37.out (below_drewN10 _ _)
  have H10 := who_at 10 [] (by decide) (by decide) (by decide) sv C 0 w8 (HSp.out.later HX38.out)
  clear h8 HM7
  go_wp2_with fail
  refine H10.mono ?_
  rintro e w9 ⟨v9, rfl, hR9, hb9⟩
  obtain ⟨a9, c9, rfl, -⟩ := ownsRow_shape hR9
  have HX39 : Hid (Below w3.heap.size w3 w9) := below_trans HX38.out hb9
  have H99 := who_at 99 [8] (by decide) (by decide) (by decide) sv C 0 w9 (HSp.out.later HX39.out)
  clear hR9 hb9 H10
  go_wp2_with fail
  refine H99.mono ?_
  rintro e w10 ⟨v10, rfl, hR10, hb10⟩
  obtain ⟨B10, hU10⟩ := uRow_us hR10
  have HX310 : Hid (Below w3.heap.size w3 (w10.alloc (.cells #[.int .u32 8] 29))) := below_trans (below_trans HX39.out hb10) (below_alloc _ _)
  have HM10 := subs_ok (w10.alloc (.cells #[.int .u32 8] 29)) v10 _ B10 0 _ 0 [8] (hU10.later (below_alloc _ _)) (lit_u w10 8)
  clear hR10 hb10 H99 hU10
  go_wp2_with fail
  refine HM10.mono ?_
  rintro e w11 ⟨rfl, nq11, h11⟩
  have HX311 : Hid (Below w3.heap.size w3 w11) := by show Below _ _ _; rw [h11]; exact below_trans HX310.out (below_drewN10 _ _)
  have HA := apart_ok sv C 0 S0 w11 (HSp.out.later HX311.out) S0_ok (by decide)
  rw [show apartB S0 = true from by decide] at HA
  clear h11 HM10
  go_wp2_with fail
  refine HA.mono ?_
  rintro e w12 ⟨rfl, hb12⟩
  have HZ : Hid (Below w.heap.size w w12) := below_trans HX3.out (below_trans HX311.out hb12)
  clear hb12 HA
  go_wp2
  go_ret
  exact ⟨rfl, HZ.out⟩

set_option maxRecDepth 100000 in
theorem lifted (os : Os) (started : os.Started) (H : Type) (enc : TypeId × Value → H) :
    ReturnsInHanded {} Try.checked os 3 .any (Rows.traceKnownSpec.pre6 enc Try.prog Try.f3 Rows.traceKnownRow.domain false) (Rows.traceKnownSpec.post enc Try.prog Try.f3 false true false false) := by
  refine returnsInHanded_of_change_sized (C := Try.checked) own started (by kernel_rfl) Try.func3
    (ChangeSpec.witness6 (enc := enc) (C := Try.checked) false ⟨#[], #[], []⟩ 8 (by kernel_rfl) (by kernel_rfl) (by kernel_rfl) (by kernel_rfl)) ?_
  intro W base args ds gs before hval0 hW hcnd hsz0 _
  have hval : ∀ (j : Nat) t v, Try.f3.params[j]? = some t → args[j]? = some v → Value.okWide Try.prog W .any base t v := hval0
  have hsz : ∀ n ∈ DataW.weightsEach Try.prog (Try.f3.params.toList ++ Rows.traceKnownSpec.plain.varTypes Try.prog) (ds ++ gs), n ≤ reachBytes := fun n hn => by simpa using List.all_eq_true.1 hsz0 n hn
  have hW' := hW
  obtain ⟨p, q, hA0, hV, rfl, hfz, hnd⟩ := hW
  have hA : DataW.TrodAll enc Try.prog W 0 (fun _ => true) true Try.f3.params.toList args.toList ds p := hA0
  rw [Try.params3] at hA hval hsz
  obtain ⟨rfl, rfl, rfl⟩ := trodAll_none hA
  obtain ⟨rfl, rfl⟩ := trodVars_none hV
  clear hA0 hval0 hsz0 hsz
  refine (walk  W ).mono fun e W' ⟨he, bel⟩ => ?_
  subst he
  exact ⟨_, rfl, _, _, _, [], [], [], hW', trodAll_mk1 (shut_bool Try.underlying4 _), trodAll_mk0, rfl, bel.frame _, fun h => by cases h⟩

theorem over : Rows.traceKnownRow.holds Try.pinned (OpenSpec.ofChange Rows.traceKnownSpec) :=
  OpenClaim.holds_of_wide 3 Try.f3 rfl rfl rfl rfl rfl rfl rfl ⟨rfl, rfl, rfl, rfl, rfl⟩ rfl rfl rfl rfl rfl (by kernel_rfl) Try.func3 (by kernel_rfl)
    (of_decide_eq_true (by kernel_rfl)) (by unfold Func.isWrapper; first | (rw [if_pos (by decide +kernel)]; kernel_rfl) | (rw [if_neg (by decide +kernel)]; exact ⟨rfl, rfl⟩))
    (fun os started H enc _ => lifted os started H enc)

end Go.Proofs.Ytkkcpofaiocjpaa.traceKnown
namespace Go.Proofs.Ytkkcpofaiocjpaa
theorem traceKnown_holds : Rows.TraceKnownSaid := traceKnown.over
#print axioms traceKnown_holds
end Go.Proofs.Ytkkcpofaiocjpaa
