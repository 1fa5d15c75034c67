/- EntryKnown: chapter 9's examples: the call returns true. No condition. -/
import Derived.Test.YtgkppclnpjkeeaaEntAwake
import Derived.Test.YtgkppclnpjkeeaaRows
set_option maxRecDepth 100000
namespace Go.Proofs.Ytgkppclnpjkeeaa.entryKnown
open Go.ChangeShapes Go.WideShapes Go.ChangeAt Go.RowKit

theorem dec_at (l : List Int) (y : Int) (h : whyE l = y) (hn : y ≠ 0) (v : Value) (w : World) (hb : Bts w v l) :
    Calls Try.prog 9 #[v] w fun r w' => r = .returned (.tuple #[zEV, .int .i64 y]) ∧ Below w.heap.size w w' := by
  have := decode_any v l w hb
  rw [entE_no (by rw [h]; exact hn), h] at this
  exact this

set_option maxHeartbeats 2000000 in
theorem walk (w : World) : Calls Try.prog 3 #[] w fun e w' => e = .returned (.bool true) ∧ Below w.heap.size w w' := by
  go_enter Try.func3, Try.ntmps3
  go_wp2_with fail
  refine (awake9_any _).mono ?_
  rintro e w1 ⟨rfl, hb1⟩
  go_wp2_with fail
  refine (dec_at [] 2 (by decide) (by decide) _ _ (bts_nil _)).mono ?_
  rintro e w2 ⟨rfl, hb2⟩
  have hx2 := below_trans hb1 hb2
  have H9 := dec_at [9] 4 (by decide) (by decide) _ _ (lit_e (w := w2.alloc (.cells zEC 25)) (w2.heap.size + 1) [9] _ 5 rfl (by simp) (by unfold isBytes; decide) (by decide) 1 rfl)
  have hy2 : Below w.heap.size w ((w2.alloc (.cells zEC 25)).alloc (.cells (List.map (Value.int .u8) [9]).toArray 5)) := below_trans hx2 (below_trans (below_alloc _ _) (below_alloc _ _))
  have HY2 : Hid (Below w.heap.size w ((w2.alloc (.cells zEC 25)).alloc (.cells (List.map (Value.int .u8) [9]).toArray 5))) := hy2
  clear hb1 hb2 hx2 hy2
  go_wp2_with fail
  refine H9.mono ?_
  rintro e w4 ⟨rfl, hb4⟩
  have hx4 := below_trans HY2.out hb4
  have H3 := dec_at [3, 0, 0, 0, 0, 0, 0, 0, 0] 2 (by decide) (by decide) _ _ (lit_e (w := w4.alloc (.cells zEC 25)) (w4.heap.size + 1) [3, 0, 0, 0, 0, 0, 0, 0, 0] _ 5 rfl (by simp) (by unfold isBytes; decide) (by decide) 9 rfl)
  have HY : Hid (Below w.heap.size w ((w4.alloc (.cells zEC 25)).alloc (.cells (List.map (Value.int .u8) [3, 0, 0, 0, 0, 0, 0, 0, 0]).toArray 5))) := below_trans hx4 (below_trans (below_alloc _ _) (below_alloc _ _))
  clear H9 HY2 hb4 hx4
  go_wp2_with fail
  refine H3.mono ?_
  rintro e w5 ⟨rfl, hb5⟩
  have HZ : Hid (Below w.heap.size w (w5.alloc (.cells zEC 25))) := below_trans HY.out (below_trans hb5 (below_alloc _ _))
  clear H3 HY hb5
  go_wp2
  go_ret
  exact ⟨rfl, HZ.out⟩

set_option maxRecDepth 100000 in
theorem lifted (os : Os) (started : os.Started) (H : Type) (enc : TypeId × Value → H) :
    ReturnsInHanded {} Try.checked os 3 .any (Rows.entryKnownSpec.pre6 enc Try.prog Try.f3 Rows.entryKnownRow.domain false) (Rows.entryKnownSpec.post enc Try.prog Try.f3 false true false false) := by
  refine returnsInHanded_of_change_sized (C := Try.checked) own started (by kernel_rfl) Try.func3
    (ChangeSpec.witness6 (enc := enc) (C := Try.checked) false ⟨#[], #[], []⟩ 8 (by kernel_rfl) (by kernel_rfl) (by kernel_rfl) (by kernel_rfl)) ?_
  intro W base args ds gs before hval0 hW hcnd hsz0 _
  have hval : ∀ (j : Nat) t v, Try.f3.params[j]? = some t → args[j]? = some v → Value.okWide Try.prog W .any base t v := hval0
  have hsz : ∀ n ∈ DataW.weightsEach Try.prog (Try.f3.params.toList ++ Rows.entryKnownSpec.plain.varTypes Try.prog) (ds ++ gs), n ≤ reachBytes := fun n hn => by simpa using List.all_eq_true.1 hsz0 n hn
  have hW' := hW
  obtain ⟨p, q, hA0, hV, rfl, hfz, hnd⟩ := hW
  have hA : DataW.TrodAll enc Try.prog W 0 (fun _ => true) true Try.f3.params.toList args.toList ds p := hA0
  rw [Try.params3] at hA hval hsz
  obtain ⟨rfl, rfl, rfl⟩ := trodAll_none hA
  obtain ⟨rfl, rfl⟩ := trodVars_none hV
  clear hA0 hval0 hsz0 hsz
  refine (walk  W ).mono fun e W' ⟨he, bel⟩ => ?_
  subst he
  exact ⟨_, rfl, _, _, _, [], [], [], hW', trodAll_mk1 (shut_bool Try.underlying4 _), trodAll_mk0, rfl, bel.frame _, fun h => by cases h⟩

theorem over : Rows.entryKnownRow.holds Try.pinned (OpenSpec.ofChange Rows.entryKnownSpec) :=
  OpenClaim.holds_of_wide 3 Try.f3 rfl rfl rfl rfl rfl rfl rfl ⟨rfl, rfl, rfl, rfl, rfl⟩ rfl rfl rfl rfl rfl (by kernel_rfl) Try.func3 (by kernel_rfl)
    (of_decide_eq_true (by kernel_rfl)) (by unfold Func.isWrapper; first | (rw [if_pos (by decide +kernel)]; kernel_rfl) | (rw [if_neg (by decide +kernel)]; exact ⟨rfl, rfl⟩))
    (fun os started H enc _ => lifted os started H enc)

end Go.Proofs.Ytgkppclnpjkeeaa.entryKnown
namespace Go.Proofs.Ytgkppclnpjkeeaa
theorem entryKnown_holds : Rows.EntryKnownSaid := entryKnown.over
#print axioms entryKnown_holds
end Go.Proofs.Ytgkppclnpjkeeaa
