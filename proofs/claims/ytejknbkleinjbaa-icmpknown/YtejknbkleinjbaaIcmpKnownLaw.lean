/- IcmpKnown: the call returns true: chapter 5's examples. No input, no condition. -/
import Derived.Test.YtejknbkleinjbaaIcmpAwake
import Derived.Test.YtejknbkleinjbaaIcmpKind
namespace Go.Proofs.Ytejknbkleinjbaa.icmpKnown
open Go.ChangeShapes Go.WideShapes Go.ChangeAt Go.RowKit

theorem boxesW {w w' : World} {m : Wd} {vd : Value} {t : TypeId} (hb : Below (w.alloc (.cells (wdC m vd) t)).heap.size (w.alloc (.cells (wdC m vd) t)) w') :
    w'.cell? ⟨w.heap.size, 0, none⟩ = some (.int .i64 m.type) ∧ w'.cell? ⟨w.heap.size, 1, none⟩ = some (.int .i64 m.code) ∧ w'.cell? ⟨w.heap.size, 2, none⟩ = some (.int .u32 m.rest) ∧ w'.cell? ⟨w.heap.size, 3, none⟩ = some vd :=
  ⟨box_cell hb 0 _ rfl, box_cell hb 1 _ rfl, box_cell hb 2 _ rfl, box_cell hb 3 _ rfl⟩

/-- Kind of a message whose kind is known. -/
theorem kind_at (m : Wd) (a : Option Addr) (n c : Nat) (w : World) (x : Int) (h : kindW m.type m.code = x) :
    Calls Try.prog 9 #[wdV m (.slice a n c)] w fun e w' => e = .returned (.int .i64 x) ∧ Below w.heap.size w w' := by
  subst h; exact kind_any m a n c w

set_option maxHeartbeats 1000000 in
theorem walk (w : World) : Calls Try.prog 3 #[] w fun e w' => e = .returned (.bool true) ∧ Below w.heap.size w w' := by
  go_enter Try.func3, Try.ntmps3
  go_wp2_with fail
  refine (awake5_any _).mono ?_
  rintro e w1 ⟨rfl, hb1⟩
  go_wp2_with fail
  refine (kind_at hiW none 0 0 _ 3 (by decide)).mono ?_
  rintro e w2 ⟨rfl, hb2⟩
  obtain ⟨d0, d1, d2, d3⟩ := boxesW (m := hiW) (vd := .slice none 0 0) (t := 26) hb2
  have hx2 := below_trans (below_trans hb1 (below_alloc _ _)) hb2
  clear hb1 hb2
  go_wp2_with fail
  refine (number_of hiW none 0 0 _ (by decide) (by decide)).mono ?_
  rintro e w3 ⟨rfl, hb3⟩
  have hx3 := below_trans hx2 hb3
  have hn : hiW.rest / 65536 = 1 := by decide
  rw [hn]
  clear hn hb3 hx2 d0 d1 d2 d3
  go_wp2_with fail
  refine (kind_at ⟨0, 1, 0, []⟩ none 0 0 _ 0 (by decide)).mono ?_
  rintro e w4 ⟨rfl, hb4⟩
  have hx4 := below_trans hx3 hb4
  clear hx3 hb4
  go_wp2_with fail
  refine (kind_at ⟨11, 9, 0, []⟩ none 0 0 _ 5 (by decide)).mono ?_
  rintro e w5 ⟨rfl, hb5⟩
  have hx5 := below_trans hx4 hb5
  clear hx4 hb5
  go_wp2_with fail
  refine (kind_at Wd.zero none 0 0 _ 4 (by decide)).mono ?_
  rintro e w6 ⟨rfl, hb6⟩
  have hx6 := below_trans hx5 hb6
  clear hx5 hb6
  go_wp2
  go_ret
  exact ⟨rfl, hx6⟩

set_option maxRecDepth 100000 in
theorem lifted (os : Os) (started : os.Started) (H : Type) (enc : TypeId × Value → H) :
    ReturnsInHanded {} Try.checked os 3 .any (Rows.icmpKnownSpec.pre6 enc Try.prog Try.f3 Rows.icmpKnownRow.domain false) (Rows.icmpKnownSpec.post enc Try.prog Try.f3 false true false false) := by
  refine returnsInHanded_of_change_sized (C := Try.checked) own started (by kernel_rfl) Try.func3
    (ChangeSpec.witness6 (enc := enc) (C := Try.checked) false ⟨#[], #[], []⟩ 8 (by kernel_rfl) (by kernel_rfl) (by kernel_rfl) (by kernel_rfl)) ?_
  intro W base args ds gs before hval0 hW hcnd hsz0 _
  have hval : ∀ (j : Nat) t v, Try.f3.params[j]? = some t → args[j]? = some v → Value.okWide Try.prog W .any base t v := hval0
  have hsz : ∀ n ∈ DataW.weightsEach Try.prog (Try.f3.params.toList ++ Rows.icmpKnownSpec.plain.varTypes Try.prog) (ds ++ gs), n ≤ reachBytes := fun n hn => by simpa using List.all_eq_true.1 hsz0 n hn
  have hW' := hW
  obtain ⟨p, q, hA0, hV, rfl, hfz, hnd⟩ := hW
  have hA : DataW.TrodAll enc Try.prog W 0 (fun _ => true) true Try.f3.params.toList args.toList ds p := hA0
  rw [Try.params3] at hA hval hsz
  obtain ⟨rfl, rfl, rfl⟩ := trodAll_none hA
  obtain ⟨rfl, rfl⟩ := trodVars_none hV
  clear hA0 hval0 hsz0 hsz
  refine (walk  W ).mono fun e W' ⟨he, bel⟩ => ?_
  subst he
  exact ⟨_, rfl, _, _, _, [], [], [], hW', trodAll_mk1 (shut_bool Try.underlying4 _), trodAll_mk0, rfl, bel.frame _, fun h => by cases h⟩

theorem over : Rows.icmpKnownRow.holds Try.pinned (OpenSpec.ofChange Rows.icmpKnownSpec) :=
  OpenClaim.holds_of_wide 3 Try.f3 rfl rfl rfl rfl rfl rfl rfl ⟨rfl, rfl, rfl, rfl, rfl⟩ rfl rfl rfl rfl rfl (by kernel_rfl) Try.func3 (by kernel_rfl)
    (of_decide_eq_true (by kernel_rfl)) (by unfold Func.isWrapper; first | (rw [if_pos (by decide +kernel)]; kernel_rfl) | (rw [if_neg (by decide +kernel)]; exact ⟨rfl, rfl⟩))
    (fun os started H enc _ => lifted os started H enc)

end Go.Proofs.Ytejknbkleinjbaa.icmpKnown
namespace Go.Proofs.Ytejknbkleinjbaa
theorem icmpKnown_holds : Rows.IcmpKnownSaid := icmpKnown.over
#print axioms icmpKnown_holds
end Go.Proofs.Ytejknbkleinjbaa
