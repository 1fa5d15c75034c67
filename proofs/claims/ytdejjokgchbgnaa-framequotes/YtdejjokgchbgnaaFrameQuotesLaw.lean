/- FrameQuotes: for all bytes the call returns true: what is quoted, or that it is no quote. No condition. -/
import Derived.Test.YtdejjokgchbgnaaM9
import Derived.Test.YtdejjokgchbgnaaM10
set_option maxRecDepth 100000
namespace Go.Proofs.Ytdejjokgchbgnaa.frameQuotes
open Go.ChangeShapes Go.WideShapes Go.ChangeAt Go.RowKit

theorem walk_big (a : Option Addr) (len cap : Nat) (w : World) (h : 100000 < len) :
    Calls Try.prog 5 #[.slice a len cap] w fun e w' => e = .returned (.bool true) ∧ Below w.heap.size w w' := by
  have h' : (100000 : Int) < len := by omega
  go_enter Try.func5, Try.ntmps5
  go_wp2_with fail
  refine (awake6_any _).mono ?_
  rintro e w1 ⟨rfl, hb1⟩
  go_wp2
  go_ret
  exact ⟨rfl, hb1⟩

theorem boxesI {w w' : World} {x : Inn} {t : TypeId} (hb : Below (w.alloc (.cells (inC x) t)).heap.size (w.alloc (.cells (inC x) t)) w') :
    w'.cell? ⟨w.heap.size, 0, none⟩ = some (.int .i64 x.proto) ∧ w'.cell? ⟨w.heap.size, 1, none⟩ = some (.int .u32 x.sa) ∧ w'.cell? ⟨w.heap.size, 2, none⟩ = some (.int .i64 x.sp) ∧ w'.cell? ⟨w.heap.size, 3, none⟩ = some (.int .u32 x.da) ∧ w'.cell? ⟨w.heap.size, 4, none⟩ = some (.int .i64 x.dp) :=
  ⟨box_cell hb 0 _ rfl, box_cell hb 1 _ rfl, box_cell hb 2 _ rfl, box_cell hb 3 _ rfl, box_cell hb 4 _ rfl⟩

set_option maxHeartbeats 2000000 in
theorem walk_one (a : Option Addr) (len cap : Nat) (x : Inn) (ok : Bool) (w : World) (h : len ≤ 100000)
    (hq : ∀ W, Below w.heap.size w W → Calls Try.prog 15 #[.slice a len cap] W fun e w' => e = .returned (.tuple #[inV x, .bool ok]) ∧ Below W.heap.size W w')
    (hr : ∀ W, Below w.heap.size w W → Calls Try.prog 16 #[.slice a len cap] W fun e w' => e = .returned (.tuple #[inV x, .bool ok]) ∧ Below W.heap.size W w') :
    Calls Try.prog 5 #[.slice a len cap] w fun e w' => e = .returned (.bool true) ∧ Below w.heap.size w w' := by
  have h' : ¬ (100000 : Int) < len := by omega
  go_enter Try.func5, Try.ntmps5
  go_wp2_with fail
  refine (awake6_any _).mono ?_
  rintro e w1 ⟨rfl, hb1⟩
  go_wp2_with fail
  refine (hq _ hb1).mono ?_
  rintro e w2 ⟨rfl, hb2⟩
  have hx2 := below_trans hb1 (below_trans hb2 (below_alloc w2 (.cells (inC x) 35)))
  go_wp2_with fail
  refine (hr _ hx2).mono ?_
  rintro e w3 ⟨rfl, hb3⟩
  have hx3 := below_trans hx2 (below_trans hb3 (below_alloc w3 (.cells (inC x) 35)))
  obtain ⟨d0, d1, d2, d3, d4⟩ := boxesI hb3
  have hlt : w2.heap.size < w3.heap.size := by have := hb3.size; simp only [World.size_alloc] at this; omega
  clear hb3 hb2 hb1 hq hr hx2
  go_wp2
  go_ret
  exact ⟨rfl, hx3⟩

theorem walk (v0 : Value) (w : World) (V0 : IsBts w v0) :
    Calls Try.prog 5 #[v0] w fun e w' => e = .returned (.bool true) ∧ Below w.heap.size w w' := by
  obtain ⟨l, ⟨a, cap, b, off, rfl, h2, h3, h4, h5, h6⟩, -⟩ := V0
  have hA : At w b off l.length cap l := ⟨h2, h3, rfl, h4, h6⟩
  by_cases h1 : 100000 < l.length
  · exact walk_big a l.length cap w h1
  rcases hq : quoteO l with _ | x
  · exact walk_one a l.length cap Inn.zero false w (by omega) (fun W hW => quote_no a b off l.length cap l W h5 (hA.later hW) hq) (fun W hW => rquote_no a b off l.length cap l W h5 (hA.later hW) (by omega) hq)
  · rcases h5 with rfl | rfl
    · exact walk_one _ l.length cap x true w (by omega) (fun W hW => quote_ok b off l.length cap l x W (hA.later hW) hq) (fun W hW => rquote_ok b off l.length cap l x W (hA.later hW) (by omega) hq)
    · have hn : ¬ Head [] := fun q => by have := q.a; simp at this
      unfold quoteO at hq
      rw [if_neg (fun q => hn q.1)] at hq
      cases hq

set_option maxRecDepth 100000 in
theorem lifted (os : Os) (started : os.Started) (H : Type) (enc : TypeId × Value → H) :
    ReturnsInHanded {} Try.checked os 5 .any (Rows.frameQuotesSpec.pre6 enc Try.prog Try.f5 Rows.frameQuotesRow.domain false) (Rows.frameQuotesSpec.post enc Try.prog Try.f5 false true false false) := by
  refine returnsInHanded_of_change_sized (C := Try.checked) own started (by kernel_rfl) Try.func5
    (ChangeSpec.witness6 (enc := enc) (C := Try.checked) false ⟨#[], #[.slice none 0 0], []⟩ 8 (by kernel_rfl) (by kernel_rfl) (by kernel_rfl) (by kernel_rfl)) ?_
  intro W base args ds gs before hval0 hW hcnd hsz0 _
  have hval : ∀ (j : Nat) t v, Try.f5.params[j]? = some t → args[j]? = some v → Value.okWide Try.prog W .any base t v := hval0
  have hsz : ∀ n ∈ DataW.weightsEach Try.prog (Try.f5.params.toList ++ Rows.frameQuotesSpec.plain.varTypes Try.prog) (ds ++ gs), n ≤ reachBytes := fun n hn => by simpa using List.all_eq_true.1 hsz0 n hn
  have hW' := hW
  obtain ⟨p, q, hA0, hV, rfl, hfz, hnd⟩ := hW
  have hA : DataW.TrodAll enc Try.prog W 0 (fun _ => true) true Try.f5.params.toList args.toList ds p := hA0
  rw [Try.params5] at hA hval hsz
  obtain ⟨v0, vs0, d0, ds0, p0, q0, hargs, rfl, rfl, h0, r0⟩ := trodAll_cons hA
  obtain ⟨rfl, rfl, rfl⟩ := trodAll_nil r0
  obtain rfl : args = #[v0] := by cases args; simp_all
  obtain ⟨rfl, rfl⟩ := trodVars_none hV
  have lt0 : ∀ x ∈ p0, x.block < W.heap.size := by obtain ⟨m, hm⟩ := h0; exact DataW.trod_lt m _ _ _ hm
  have V0 := view26 (hval 0 23 v0 rfl rfl) h0 (fun n hn => hsz n (DataW.weights_mem_each (j := 0) rfl rfl n hn))
  clear hA0 hval0 hsz0 hsz
  refine (walk v0 W V0).mono fun e W' ⟨he, bel⟩ => ?_
  subst he
  exact ⟨_, rfl, _, _, _, [], _, [], hW', trodAll_mk1 (shut_bool Try.underlying4 _), (trodAll_cons_mk (Below.trod laidOut (by kernel_rfl) (of_decide_eq_true (by kernel_rfl)) h0 bel lt0) trodAll_mk0), rfl, bel.frame _, fun h => by cases h⟩

theorem over : Rows.frameQuotesRow.holds Try.pinned (OpenSpec.ofChange Rows.frameQuotesSpec) :=
  OpenClaim.holds_of_wide 5 Try.f5 rfl rfl rfl rfl rfl rfl rfl ⟨rfl, rfl, rfl, rfl, rfl⟩ rfl rfl rfl rfl rfl (by kernel_rfl) Try.func5 (by kernel_rfl)
    (of_decide_eq_true (by kernel_rfl)) (by unfold Func.isWrapper; first | (rw [if_pos (by decide +kernel)]; kernel_rfl) | (rw [if_neg (by decide +kernel)]; exact ⟨rfl, rfl⟩))
    (fun os started H enc _ => lifted os started H enc)

end Go.Proofs.Ytdejjokgchbgnaa.frameQuotes
namespace Go.Proofs.Ytdejjokgchbgnaa
theorem frameQuotes_holds : Rows.FrameQuotesSaid := frameQuotes.over
#print axioms frameQuotes_holds
end Go.Proofs.Ytdejjokgchbgnaa
