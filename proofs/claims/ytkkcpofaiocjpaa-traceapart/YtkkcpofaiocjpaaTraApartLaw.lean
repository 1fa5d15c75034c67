/- TraceApart: for all spans and questions the call returns true: whether no two spans of a block meet; then one at most is told. No condition. -/
import Derived.Test.YtkkcpofaiocjpaaTraRapart
import Derived.Test.YtkkcpofaiocjpaaTraWho
import Derived.Test.YtkkcpofaiocjpaaTraAwake
import Derived.Test.YtkkcpofaiocjpaaRows
set_option maxRecDepth 100000
namespace Go.Proofs.Ytkkcpofaiocjpaa.traceApart
open Go.ChangeShapes Go.WideShapes Go.ChangeAt Go.RowKit

theorem apart_subs {l : List Sp} (h : Apart l) (a k t : Int) : (subsAt l a k t).length ≤ 1 := by
  unfold subsAt
  rw [List.length_map]
  have hp : (l.filter (fun s => hit s a k t)).Pairwise (fun x y => clash x y = false) := List.Pairwise.filter _ h
  have hm : ∀ s ∈ l.filter (fun s => hit s a k t), hit s a k t = true := fun s hs => (List.mem_filter.1 hs).2
  match hf : l.filter (fun s => hit s a k t), hp, hm with
  | [], _, _ => simp
  | [x], _, _ => simp
  | x :: y :: r, hp, hm =>
    exfalso
    have h1 := (List.pairwise_cons.1 hp).1 y (by simp)
    have hx := hit_iff.1 (hm x (by simp))
    have hy := hit_iff.1 (hm y (by simp))
    have : clash x y = true := by
      unfold clash meetB
      rcases hx.2.2 with q1 | q1 <;> rcases hy.2.2 with q2 | q2 <;> simp [q1, q2, hx.1.1, hx.1.2, hy.1.1, hy.1.2] <;> omega
    rw [h1] at this
    cases this

set_option maxHeartbeats 4000000 in
theorem walk (v0 v1 : Value) (w : World) (V0 : IsSps w v0) (V1 : IsAsk w v1) :
    Calls Try.prog 6 #[v0, v1] w fun e w' => e = .returned (.bool true) ∧ Below w.heap.size w w' := by
  obtain ⟨B, O, l, hS, hok⟩ := V0
  obtain ⟨a, k, t, rfl, hP, ht0, ht1⟩ := V1
  have HS : Hid (Sps w v0 B O l) := hS
  have HOK : Hid (OkAll l) := hok
  have HT1 : Hid (t ≤ 9223372036854775807) := ht1
  obtain ⟨a0, c0, rfl, g1, g2, g3, g4⟩ := hS
  unfold maxLen at g2
  clear hok hP ht0 ht1 g4 g3
  by_cases hbig : 300 < l.length
  · have hI : (300 : Int) < (l.length : Int) := by omega
    go_enter Try.func6, Try.ntmps6
    go_wp2_with (go_at_call 9; refine (awake10_any _).mono ?_; rintro e w1 ⟨rfl, hb1⟩)
    go_ret
    exact ⟨rfl, below_trans (below_alloc _ _) hb1⟩
  have hI : ¬ (300 : Int) < (l.length : Int) := by omega
  have HL : Hid (l.length ≤ 1000) := by show _ ≤ _; omega
  have HAp := fun W (h : Sps W (.slice a0 l.length c0) B O l) => apart_ok _ B O l W h HOK.out HL.out
  have HRp := fun W (h : Sps W (.slice a0 l.length c0) B O l) => rapart_ok _ B O l W h HL.out
  have HWh := fun (hA : Apart l) W (h : Sps W (.slice a0 l.length c0) B O l) => who_ok 1 sortU_one _ B O l a k t W h HOK.out HL.out (apart_subs hA a k t) HT1.out
  have HOne : Hid (Apart l → ∀ c, WhoOf l a k t c → c.length ≤ 1) := fun hA c hc => apart_one hA hc
  have HB : Hid (apartB l = true → Apart l) := fun h => of_decide_eq_true h
  generalize l.length = n at *
  generalize apartB l = b at *
  have d : (w.alloc (.cells #[.int .u32 a, .int .i64 k, .int .i64 t] 35)).cell? ⟨w.heap.size, 0, none⟩ = some (.int .u32 a) ∧ (w.alloc (.cells #[.int .u32 a, .int .i64 k, .int .i64 t] 35)).cell? ⟨w.heap.size, 1, none⟩ = some (.int .i64 k) ∧ (w.alloc (.cells #[.int .u32 a, .int .i64 k, .int .i64 t] 35)).cell? ⟨w.heap.size, 2, none⟩ = some (.int .i64 t) := ⟨by simp, by simp, by simp⟩
  have D : Hid (∀ wx, Below (w.alloc (.cells #[.int .u32 a, .int .i64 k, .int .i64 t] 35)).heap.size (w.alloc (.cells #[.int .u32 a, .int .i64 k, .int .i64 t] 35)) wx → wx.cell? ⟨w.heap.size, 0, none⟩ = some (.int .u32 a) ∧ wx.cell? ⟨w.heap.size, 1, none⟩ = some (.int .i64 k) ∧ wx.cell? ⟨w.heap.size, 2, none⟩ = some (.int .i64 t)) := fun wx hx => ⟨cell_later hx d.1, cell_later hx d.2.1, cell_later hx d.2.2⟩
  clear d
  go_enter Try.func6, Try.ntmps6
  go_wp2_with fail
  refine (awake10_any _).mono ?_
  rintro e w1 ⟨rfl, hb1⟩
  have HX1 : Hid (Below (w.alloc (.cells #[.int .u32 a, .int .i64 k, .int .i64 t] 35)).heap.size (w.alloc (.cells #[.int .u32 a, .int .i64 k, .int .i64 t] 35)) w1) := hb1
  have HY1 : Hid (Below w.heap.size w w1) := below_trans (below_alloc _ _) hb1
  clear hb1
  have HA1 := HAp w1 (HS.out.later HY1.out)
  go_wp2_with fail
  refine HA1.mono ?_
  rintro e w2 ⟨rfl, hb2⟩
  have HX2 : Hid (Below (w.alloc (.cells #[.int .u32 a, .int .i64 k, .int .i64 t] 35)).heap.size (w.alloc (.cells #[.int .u32 a, .int .i64 k, .int .i64 t] 35)) w2) := HX1.out.trans (hb2.mono HX1.out.size)
  have HY2 : Hid (Below w.heap.size w w2) := below_trans HY1.out hb2
  clear hb2 HA1
  have HA2 := HRp w2 (HS.out.later HY2.out)
  cases b with
  | false =>
    go_wp2_with (go_at_call 21; refine HA2.mono ?_; rintro e w3 ⟨rfl, hb3⟩)
    go_ret
    exact ⟨rfl, below_trans HY2.out hb3⟩
  | true =>
    have HA := HB.out rfl
    have HWh := HWh HA
    go_wp2_with (first
      | (go_at_call 21; refine HA2.mono ?_; rintro e w3 ⟨rfl, hb3⟩; have HY3 : Hid (Below w.heap.size w w3) := below_trans HY2.out hb3; obtain ⟨d0, d1, d2⟩ := D.out w3 (HX2.out.trans (hb3.mono HX2.out.size)); have HW3 := HWh w3 (HS.out.later HY3.out); clear hb3)
      | (go_at_call 12; refine HW3.mono ?_; rintro e w4 ⟨v', c, rfl, hc1, hc2, hc3⟩; have HY4 : Hid (Below w.heap.size w w4) := below_trans HY3.out hc3; obtain ⟨va, vc, rfl, -⟩ := ownsRow_shape hc1; have hone : c.length ≤ 1 := HOne.out HA c hc2; have honeI : (c.length : Int) ≤ 1 := (by omega); clear hc1 hc2 hc3))
    go_ret
    exact ⟨rfl, HY4.out⟩

set_option maxRecDepth 100000 in
theorem lifted (os : Os) (started : os.Started) (H : Type) (enc : TypeId × Value → H) :
    ReturnsInHanded {} Try.checked os 6 .any (Rows.traceApartSpec.pre6 enc Try.prog Try.f6 Rows.traceApartRow.domain false) (Rows.traceApartSpec.post enc Try.prog Try.f6 false true false false) := by
  refine returnsInHanded_of_change_sized (C := Try.checked) own started (by kernel_rfl) Try.func6
    (ChangeSpec.witness6 (enc := enc) (C := Try.checked) false ⟨#[], #[.slice none 0 0, .agg #[.int .u32 0, .int .i64 0, .int .i64 0]], []⟩ 8 (by kernel_rfl) (by kernel_rfl) (by kernel_rfl) (by kernel_rfl)) ?_
  intro W base args ds gs before hval0 hW hcnd hsz0 _
  have hval : ∀ (j : Nat) t v, Try.f6.params[j]? = some t → args[j]? = some v → Value.okWide Try.prog W .any base t v := hval0
  have hsz : ∀ n ∈ DataW.weightsEach Try.prog (Try.f6.params.toList ++ Rows.traceApartSpec.plain.varTypes Try.prog) (ds ++ gs), n ≤ reachBytes := fun n hn => by simpa using List.all_eq_true.1 hsz0 n hn
  have hW' := hW
  obtain ⟨p, q, hA0, hV, rfl, hfz, hnd⟩ := hW
  have hA : DataW.TrodAll enc Try.prog W 0 (fun _ => true) true Try.f6.params.toList args.toList ds p := hA0
  rw [Try.params6] at hA hval hsz
  obtain ⟨v0, vs0, d0, ds0, p0, q0, hargs, rfl, rfl, h0, r0⟩ := trodAll_cons hA
  obtain ⟨v1, vs1, d1, ds1, p1, q1, rfl, rfl, rfl, h1, r1⟩ := trodAll_cons r0
  obtain ⟨rfl, rfl, rfl⟩ := trodAll_nil r1
  obtain rfl : args = #[v0, v1] := by cases args; simp_all
  obtain ⟨rfl, rfl⟩ := trodVars_none hV
  have lt0 : ∀ x ∈ p0, x.block < W.heap.size := by obtain ⟨m, hm⟩ := h0; exact DataW.trod_lt m _ _ _ hm
  have V0 := viewSps (hval 0 23 v0 rfl rfl) h0 (fun n hn => hsz n (DataW.weights_mem_each (j := 0) rfl rfl n hn))
  have lt1 : ∀ x ∈ p1, x.block < W.heap.size := by obtain ⟨m, hm⟩ := h1; exact DataW.trod_lt m _ _ _ hm
  have V1 := viewAsk (hval 1 35 v1 rfl rfl) h1 (fun n hn => hsz n (DataW.weights_mem_each (j := 1) rfl rfl n hn))
  clear hA0 hval0 hsz0 hsz
  refine (walk v0 v1 W V0 V1).mono fun e W' ⟨he, bel⟩ => ?_
  subst he
  exact ⟨_, rfl, _, _, _, [], _, [], hW', trodAll_mk1 (shut_bool Try.underlying4 _), (trodAll_cons_mk (Below.trod laidOut (by kernel_rfl) (of_decide_eq_true (by kernel_rfl)) h0 bel lt0) (trodAll_cons_mk (Below.trod laidOut (by kernel_rfl) (of_decide_eq_true (by kernel_rfl)) h1 bel lt1) trodAll_mk0)), rfl, bel.frame _, fun h => by cases h⟩

theorem over : Rows.traceApartRow.holds Try.pinned (OpenSpec.ofChange Rows.traceApartSpec) :=
  OpenClaim.holds_of_wide 6 Try.f6 rfl rfl rfl rfl rfl rfl rfl ⟨rfl, rfl, rfl, rfl, rfl⟩ rfl rfl rfl rfl rfl (by kernel_rfl) Try.func6 (by kernel_rfl)
    (of_decide_eq_true (by kernel_rfl)) (by unfold Func.isWrapper; first | (rw [if_pos (by decide +kernel)]; kernel_rfl) | (rw [if_neg (by decide +kernel)]; exact ⟨rfl, rfl⟩))
    (fun os started H enc _ => lifted os started H enc)

end Go.Proofs.Ytkkcpofaiocjpaa.traceApart
namespace Go.Proofs.Ytkkcpofaiocjpaa
theorem traceApart_holds : Rows.TraceApartSaid := traceApart.over
#print axioms traceApart_holds
end Go.Proofs.Ytkkcpofaiocjpaa
