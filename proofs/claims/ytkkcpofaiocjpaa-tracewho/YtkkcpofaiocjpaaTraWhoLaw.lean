/- TraceWho: for all spans and questions the call returns true: who had the block then, each once, rising; an index says the same. No condition. -/
import Derived.Test.YtkkcpofaiocjpaaTraRwho
import Derived.Test.YtkkcpofaiocjpaaTraIndex
import Derived.Test.YtkkcpofaiocjpaaTraAwake
import Derived.Test.YtkkcpofaiocjpaaRows
set_option maxRecDepth 100000
namespace Go.Proofs.Ytkkcpofaiocjpaa.traceWho
open Go.ChangeShapes Go.WideShapes Go.ChangeAt Go.RowKit

set_option maxHeartbeats 4000000 in
theorem walk (v0 v1 : Value) (w : World) (V0 : IsSps w v0) (V1 : IsAsk w v1) :
    Calls Try.prog 5 #[v0, v1] w fun e w' => e = .returned (.bool true) ∧ Below w.heap.size w w' := by
  obtain ⟨B, O, l, hS, hok⟩ := V0
  obtain ⟨a, k, t, rfl, hP, ht0, ht1⟩ := V1
  have HS : Hid (Sps w v0 B O l) := hS
  have HOK : Hid (OkAll l) := hok
  have HT1 : Hid (t ≤ 9223372036854775807) := ht1
  have HPP : Hid (OkP (a, k)) := hP
  obtain ⟨a0, c0, rfl, g1, g2, g3, g4⟩ := hS
  unfold maxLen at g2
  clear hok hP ht0 ht1 g4 g3
  by_cases hbig : 300 < l.length
  · have hI : (300 : Int) < (l.length : Int) := by omega
    go_enter Try.func5, Try.ntmps5
    go_wp2_with (go_at_call 9; refine (awake10_any _).mono ?_; rintro e w1 ⟨rfl, hb1⟩)
    go_ret
    exact ⟨rfl, below_trans (below_alloc _ _) hb1⟩
  have hI : ¬ (300 : Int) < (l.length : Int) := by omega
  have HL : Hid (l.length ≤ 1000) := by show _ ≤ _; omega
  have HRw := fun W (h : Sps W (.slice a0 l.length c0) B O l) => rwho_ok _ B O l a k t W h HL.out
  have HNw := fun W (h : Sps W (.slice a0 l.length c0) B O l) => new_ok _ B O l W h HOK.out HL.out
  have HWh := fun W (h : Sps W (.slice a0 l.length c0) B O l) => who_ok 1000 sortU_all _ B O l a k t W h HOK.out HL.out (Nat.le_trans (by unfold subsAt; rw [List.length_map]; exact List.length_filter_le _ _) HL.out) HT1.out
  have d : (w.alloc (.cells #[.int .u32 a, .int .i64 k, .int .i64 t] 35)).cell? ⟨w.heap.size, 0, none⟩ = some (.int .u32 a) ∧ (w.alloc (.cells #[.int .u32 a, .int .i64 k, .int .i64 t] 35)).cell? ⟨w.heap.size, 1, none⟩ = some (.int .i64 k) ∧ (w.alloc (.cells #[.int .u32 a, .int .i64 k, .int .i64 t] 35)).cell? ⟨w.heap.size, 2, none⟩ = some (.int .i64 t) := ⟨by simp, by simp, by simp⟩
  have D : Hid (∀ wx, Below (w.alloc (.cells #[.int .u32 a, .int .i64 k, .int .i64 t] 35)).heap.size (w.alloc (.cells #[.int .u32 a, .int .i64 k, .int .i64 t] 35)) wx → wx.cell? ⟨w.heap.size, 0, none⟩ = some (.int .u32 a) ∧ wx.cell? ⟨w.heap.size, 1, none⟩ = some (.int .i64 k) ∧ wx.cell? ⟨w.heap.size, 2, none⟩ = some (.int .i64 t)) := fun wx hx => ⟨cell_later hx d.1, cell_later hx d.2.1, cell_later hx d.2.2⟩
  clear d
  go_enter Try.func5, Try.ntmps5
  go_wp2_with fail
  refine (awake10_any _).mono ?_
  rintro e w1 ⟨rfl, hb1⟩
  have HX1 : Hid (Below (w.alloc (.cells #[.int .u32 a, .int .i64 k, .int .i64 t] 35)).heap.size (w.alloc (.cells #[.int .u32 a, .int .i64 k, .int .i64 t] 35)) w1) := hb1
  have HY1 : Hid (Below w.heap.size w w1) := below_trans (below_alloc _ _) hb1
  obtain ⟨d0, d1, d2⟩ := D.out w1 HX1.out
  clear hb1
  have HA1 := HRw w1 (HS.out.later HY1.out)
  clear HRw
  go_wp2_with fail
  refine HA1.mono ?_
  rintro e w2 ⟨v2, c, rfl, hu2, hw2, hb2⟩
  obtain ⟨B2, O2, hus2⟩ := hu2.us
  have HU2 : Hid (Us w2 v2 B2 O2 c) := hus2
  have HW2 : Hid (WhoOf l a k t c) := hw2
  have HX2 : Hid (Below (w.alloc (.cells #[.int .u32 a, .int .i64 k, .int .i64 t] 35)).heap.size (w.alloc (.cells #[.int .u32 a, .int .i64 k, .int .i64 t] 35)) w2) := HX1.out.trans (hb2.mono HX1.out.size)
  have HY2 : Hid (Below w.heap.size w w2) := below_trans HY1.out hb2
  clear hu2 hw2 hb2 hus2 HA1 d0 d1 d2
  have HA2 := HNw w2 (HS.out.later HY2.out)
  clear HNw
  go_wp2_with fail
  refine HA2.mono ?_
  rintro e w3 ⟨x, mb, f, rfl, hx0, hxc, hix, hb3⟩
  have HXC : Hid (w3.cell? ⟨x, 0, none⟩ = some (.map (some mb))) := hxc
  have HIX : Hid (IndexOf w3 w2.heap.size mb l.length l f) := hix
  have HB3 : Hid (Below w2.heap.size w2 w3) := hb3
  have HX3 : Hid (Below (w.alloc (.cells #[.int .u32 a, .int .i64 k, .int .i64 t] 35)).heap.size (w.alloc (.cells #[.int .u32 a, .int .i64 k, .int .i64 t] 35)) w3) := HX2.out.trans (hb3.mono HX2.out.size)
  have HY3 : Hid (Below w.heap.size w w3) := below_trans HY2.out hb3
  obtain ⟨d0, d1, d2⟩ := D.out w3 HX3.out
  clear hx0 hxc hix hb3 HA2
  have HA3 := HWh w3 (HS.out.later HY3.out)
  clear HWh
  go_wp2_with fail
  refine HA3.mono ?_
  rintro e w4 ⟨v4, c4, rfl, hu4, hw4, hb4⟩
  obtain rfl : c4 = c := hw4.one HW2.out
  obtain ⟨B4, hus4⟩ := uRow_us hu4
  have HX4 : Hid (Below (w.alloc (.cells #[.int .u32 a, .int .i64 k, .int .i64 t] 35)).heap.size (w.alloc (.cells #[.int .u32 a, .int .i64 k, .int .i64 t] 35)) w4) := HX3.out.trans (hb4.mono HX3.out.size)
  have HY4 : Hid (Below w.heap.size w w4) := below_trans HY3.out hb4
  have HB4 : Hid (Below w3.heap.size w3 w4) := hb4
  have HM4 := subs_ok w4 v4 v2 B4 0 B2 O2 c4 hus4 ((HU2.out.later HB3.out).later hb4)
  clear hu4 hw4 hus4 hb4 HA3 d0 d1 d2
  go_wp2_with fail
  refine (by exact HM4 : Calls _ _ _ _ _).mono ?_
  rintro e w5 ⟨rfl, nq, rfl⟩
  have hb5 : Below w3.heap.size w3 (w4.drewN nq) := HB4.out.trans ((below_drewN10 w4 nq).mono HB4.out.size)
  obtain ⟨d0, d1, d2⟩ := D.out (w4.drewN nq) (HX4.out.trans ((below_drewN10 w4 nq).mono HX4.out.size))
  have HA5 := iwho_ok (w4.drewN nq) x w2.heap.size mb l.length l f a k t (cell_later hb5 HXC.out) (HIX.out.same hb5.size (fun j _ hj => hb5.block j hj)) HPP.out HT1.out
  have HY5 : Hid (Below w.heap.size w (w4.drewN nq)) := below_trans HY4.out (below_drewN10 _ _)
  have HU5 : Hid (Us (w4.drewN nq) v2 B2 O2 c4) := (HU2.out.later HB3.out).later hb5
  clear hb5 HM4
  generalize w4.drewN nq = w5 at *
  go_wp2_with fail
  refine HA5.mono ?_
  rintro e w6 ⟨v6, c6, rfl, hw6, hu6, hb6⟩
  obtain rfl : c6 = c4 := hw6.one HW2.out
  obtain ⟨B6, hus6⟩ := uRow_us hu6
  have HM6 := subs_ok w6 v6 v2 B6 0 B2 O2 c6 hus6 (HU5.out.later hb6)
  have HY6 : Hid (Below w.heap.size w w6) := below_trans HY5.out hb6
  clear hu6 hw6 hus6 hb6 HA5 d0 d1 d2
  go_wp2_with fail
  refine (by exact HM6 : Calls _ _ _ _ _).mono ?_
  rintro e w7 ⟨rfl, nq2, rfl⟩
  go_wp2
  go_ret
  exact ⟨rfl, below_trans HY6.out (below_drewN10 _ _)⟩

set_option maxRecDepth 100000 in
theorem lifted (os : Os) (started : os.Started) (H : Type) (enc : TypeId × Value → H) :
    ReturnsInHanded {} Try.checked os 5 .any (Rows.traceWhoSpec.pre6 enc Try.prog Try.f5 Rows.traceWhoRow.domain false) (Rows.traceWhoSpec.post enc Try.prog Try.f5 false true false false) := by
  refine returnsInHanded_of_change_sized (C := Try.checked) own started (by kernel_rfl) Try.func5
    (ChangeSpec.witness6 (enc := enc) (C := Try.checked) false ⟨#[], #[.slice none 0 0, .agg #[.int .u32 0, .int .i64 0, .int .i64 0]], []⟩ 8 (by kernel_rfl) (by kernel_rfl) (by kernel_rfl) (by kernel_rfl)) ?_
  intro W base args ds gs before hval0 hW hcnd hsz0 _
  have hval : ∀ (j : Nat) t v, Try.f5.params[j]? = some t → args[j]? = some v → Value.okWide Try.prog W .any base t v := hval0
  have hsz : ∀ n ∈ DataW.weightsEach Try.prog (Try.f5.params.toList ++ Rows.traceWhoSpec.plain.varTypes Try.prog) (ds ++ gs), n ≤ reachBytes := fun n hn => by simpa using List.all_eq_true.1 hsz0 n hn
  have hW' := hW
  obtain ⟨p, q, hA0, hV, rfl, hfz, hnd⟩ := hW
  have hA : DataW.TrodAll enc Try.prog W 0 (fun _ => true) true Try.f5.params.toList args.toList ds p := hA0
  rw [Try.params5] at hA hval hsz
  obtain ⟨v0, vs0, d0, ds0, p0, q0, hargs, rfl, rfl, h0, r0⟩ := trodAll_cons hA
  obtain ⟨v1, vs1, d1, ds1, p1, q1, rfl, rfl, rfl, h1, r1⟩ := trodAll_cons r0
  obtain ⟨rfl, rfl, rfl⟩ := trodAll_nil r1
  obtain rfl : args = #[v0, v1] := by cases args; simp_all
  obtain ⟨rfl, rfl⟩ := trodVars_none hV
  have lt0 : ∀ x ∈ p0, x.block < W.heap.size := by obtain ⟨m, hm⟩ := h0; exact DataW.trod_lt m _ _ _ hm
  have V0 := viewSps (hval 0 23 v0 rfl rfl) h0 (fun n hn => hsz n (DataW.weights_mem_each (j := 0) rfl rfl n hn))
  have lt1 : ∀ x ∈ p1, x.block < W.heap.size := by obtain ⟨m, hm⟩ := h1; exact DataW.trod_lt m _ _ _ hm
  have V1 := viewAsk (hval 1 35 v1 rfl rfl) h1 (fun n hn => hsz n (DataW.weights_mem_each (j := 1) rfl rfl n hn))
  clear hA0 hval0 hsz0 hsz
  refine (walk v0 v1 W V0 V1).mono fun e W' ⟨he, bel⟩ => ?_
  subst he
  exact ⟨_, rfl, _, _, _, [], _, [], hW', trodAll_mk1 (shut_bool Try.underlying4 _), (trodAll_cons_mk (Below.trod laidOut (by kernel_rfl) (of_decide_eq_true (by kernel_rfl)) h0 bel lt0) (trodAll_cons_mk (Below.trod laidOut (by kernel_rfl) (of_decide_eq_true (by kernel_rfl)) h1 bel lt1) trodAll_mk0)), rfl, bel.frame _, fun h => by cases h⟩

theorem over : Rows.traceWhoRow.holds Try.pinned (OpenSpec.ofChange Rows.traceWhoSpec) :=
  OpenClaim.holds_of_wide 5 Try.f5 rfl rfl rfl rfl rfl rfl rfl ⟨rfl, rfl, rfl, rfl, rfl⟩ rfl rfl rfl rfl rfl (by kernel_rfl) Try.func5 (by kernel_rfl)
    (of_decide_eq_true (by kernel_rfl)) (by unfold Func.isWrapper; first | (rw [if_pos (by decide +kernel)]; kernel_rfl) | (rw [if_neg (by decide +kernel)]; exact ⟨rfl, rfl⟩))
    (fun os started H enc _ => lifted os started H enc)

end Go.Proofs.Ytkkcpofaiocjpaa.traceWho
namespace Go.Proofs.Ytkkcpofaiocjpaa
theorem traceWho_holds : Rows.TraceWhoSaid := traceWho.over
#print axioms traceWho_holds
end Go.Proofs.Ytkkcpofaiocjpaa
