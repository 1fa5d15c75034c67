/- OctetKnown: the call returns true: chapter 1's examples. No input, no condition. -/
import Derived.Test.YtcbhfdhnggdgbaaPut
import Derived.Test.YtcbhfdhnggdgbaaCrc
namespace Go.Proofs.Ytcbhfdhnggdgbaa.octetKnown
open Go.ChangeShapes Go.WideShapes Go.ChangeAt Go.RowKit

theorem sees_new (w : World) (N : Nat) (A : Array Value) (t : TypeId) (l : List Int) (hA : A = (l.map (Value.int .u8)).toArray) (hN : N = w.heap.size) : Sees (w.alloc (.cells A t)) N 0 l := by
  subst hN hA
  intro i hi
  rw [World.cell?_alloc_new]
  simp [List.getElem?_eq_getElem hi]

theorem sees_mark (w : World) (N : Nat) (A : Array Value) (t : TypeId) (fr : Nat × Nat) (l : List Int) (hA : A = (l.map (Value.int .u8)).toArray) (hN : N = w.heap.size) : Sees (w.alloc (.cells A t fr)) N 0 l := by
  subst hA
  intro i hi
  rw [Go.Joins.cell_alloc_mark_at _ _ _ _ _ _ hN]
  simp [List.getElem?_eq_getElem hi]

theorem conv_bytes (w : World) (C : Array Value) (n c g : Nat) (hg : g = w.heap.size) :
    (convert 26 26 (.slice (some ⟨g, 0, none⟩) n c)).run Try.prog (w.alloc (.cells C 5)) = .ok (.slice (some ⟨g, 0, none⟩) n c) (w.alloc (.cells C 5 (C.size, C.size + 1))) :=
  Go.Joins.run_convert_bytes_const_at w 26 5 C n c g hg Try.underlying26 Try.underlying5

theorem bts_new (w : World) (N n : Nat) (A : Array Value) (t : TypeId) (l : List Int) (hb : isBytes l) (hn : n = l.length) (hm : n ≤ maxLen) (hA : A = (l.map (Value.int .u8)).toArray) (hN : N = w.heap.size) :
    Bts (w.alloc (.cells A t)) (.slice (some ⟨N, 0, none⟩) n n) l :=
  ⟨_, n, N, 0, by rw [hn], by omega, hm, hb, .inl rfl, sees_new w N A t l hA hN⟩

set_option maxHeartbeats 4000000 in
theorem walk (w : World) : Calls Try.prog 3 #[] w fun e w' => e = .returned (.bool true) ∧ Below w.heap.size w w' := by
  have e1 : holdsB 3 2 2 = false := by decide
  have e2 : holdsB 1 0 0 = false := by decide
  have e3 : lay [1, 2, 3] 0 2 70000 = [17, 112, 3] := by decide
  have e4 : fold16 (ws [0, 1, 242, 3, 244, 245, 246, 247]) = 56818 := by decide
  have e5 : turn16 (fold16 (ws [0, 1, 242, 3, 244, 245, 246, 247])) = 8717 := by decide
  have e6 : upd16 56623 21845 12933 = 0 := by decide
  have e7 : crcV [49, 50, 51, 52, 53, 54, 55, 56, 57] = 3421780262 := by decide +kernel
  have e8 : sameB [17, 112, 3] [17, 112, 3] = true := by decide
  go_enter Try.func3, Try.ntmps3
  go_wp2_with fail
  refine (awake_any _).mono ?_
  rintro e w1 ⟨rfl, hb1⟩
  go_wp2_with fail
  refine (get_no _ 3 3 2 2 _ (by decide) e1).mono ?_
  rintro e w2 ⟨rfl, rfl⟩
  go_wp2_with fail
  refine (get_no _ 1 1 0 0 _ (by decide) e2).mono ?_
  rintro e w3 ⟨rfl, rfl⟩
  go_wp2_with fail
  refine (put_yes3 _ 0 3 3 [1, 2, 3] 0 0 2 2 70000 _ rfl rfl rfl (sees_new _ _ _ _ _ rfl (by simp)) (by decide) (by decide) (by decide) (by decide) (by decide) (by decide)).mono ?_
  rintro e w4 ⟨G, rfl, hH, hb4⟩
  rw [e3] at hH
  have hbel : Below w.heap.size w w4 := by
    refine below_trans hb1 (below_trans (below_alloc _ _) (below_trans (below_alloc _ _) (below_trans (below_alloc _ _) hb4)))
  have hs1 : Sees w4 G 0 [17, 112, 3] := fun i hi => by rw [Nat.zero_add]; exact hH.cell i hi
  clear hH hb4 hb1 e3
  go_wp2_with fail
  refine (same_any _ _ G 0 _ 0 _ _ [17, 112, 3] [17, 112, 3] 3 3 _ rfl rfl (by decide) (by decide) (.inl rfl) (hs1.later (below_trans (below_alloc _ _) (below_alloc _ _))) (.inl rfl) (sees_new _ _ _ _ _ rfl (by simp))).mono ?_
  rintro e w5 ⟨rfl, n5, hw5⟩
  rw [e8]
  have hbt : Bts w5 (.slice (some ⟨w4.heap.size, 0, none⟩) 8 8) [0, 1, 242, 3, 244, 245, 246, 247] := by
    rw [hw5]
    exact (bts_new w4 w4.heap.size 8 _ 5 [0, 1, 242, 3, 244, 245, 246, 247] (by unfold isBytes; decide) rfl (by decide) rfl rfl).later (below_drewN (below_alloc _ _) _)
  have hbel5 : Below w.heap.size w w5 := by
    rw [hw5]
    exact below_drewN (below_trans hbel (below_trans (below_alloc _ _) (below_alloc _ _))) _
  clear hw5 hs1 hbel e8 e1 e2
  go_wp2_with fail
  refine (sum_one w5 _ _ _ 26 rfl hbt (by decide)).mono ?_
  rintro e w6 ⟨rfl, rfl⟩
  rw [e4]
  go_wp2_with fail
  refine (check_one _ _ _ _ 26 (by simp) (hbt.later (below_alloc _ _)) (by decide)).mono ?_
  rintro e w7 ⟨rfl, rfl⟩
  rw [e5]
  clear e4 e5
  go_wp2_with fail
  refine (sum_any none 0 0 0 [] _ (by simp) (by decide) (.inr rfl) (fun i hi => by simp at hi) (by simp) (fun z hz => by simp at hz)).mono ?_
  rintro e w8 ⟨rfl, rfl⟩
  have e9 : fold16 (ws ([] : List (List Int)).flatten) = 0 := by decide
  rw [e9]
  clear e9
  go_wp2_with fail
  refine (update_any _ _ _ _).mono ?_
  rintro e w9 ⟨rfl, rfl⟩
  rw [e6]
  clear e6
  have hcv := conv_bytes
  go_wp2_with fail
  clear hcv
  refine (crc_any _ _ 0 9 9 [49, 50, 51, 52, 53, 54, 55, 56, 57] _ (by decide) (by decide) rfl (by unfold isBytes; decide) (.inl rfl) (sees_mark _ _ _ _ _ _ rfl (by simp))).mono ?_
  rintro e w10 ⟨rfl, hb10⟩
  rw [e7]
  clear e7
  go_wp2
  go_ret
  exact ⟨rfl, below_trans hbel5 (below_trans (below_alloc _ _) (below_trans (below_alloc _ _) (below_trans (below_alloc _ _) hb10)))⟩

set_option maxRecDepth 100000 in
theorem lifted (os : Os) (started : os.Started) (H : Type) (enc : TypeId × Value → H) :
    ReturnsInHanded {} Try.checked os 3 .any (Rows.octetKnownSpec.pre6 enc Try.prog Try.f3 Rows.octetKnownRow.domain false) (Rows.octetKnownSpec.post enc Try.prog Try.f3 false true false false) := by
  refine returnsInHanded_of_change_sized (C := Try.checked) own started (by kernel_rfl) Try.func3
    (ChangeSpec.witness6 (enc := enc) (C := Try.checked) false ⟨#[], #[], []⟩ 8 (by kernel_rfl) (by kernel_rfl) (by kernel_rfl) (by kernel_rfl)) ?_
  intro W base args ds gs before hval0 hW hcnd hsz0 _
  have hval : ∀ (j : Nat) t v, Try.f3.params[j]? = some t → args[j]? = some v → Value.okWide Try.prog W .any base t v := hval0
  have hsz : ∀ n ∈ DataW.weightsEach Try.prog (Try.f3.params.toList ++ Rows.octetKnownSpec.plain.varTypes Try.prog) (ds ++ gs), n ≤ reachBytes := fun n hn => by simpa using List.all_eq_true.1 hsz0 n hn
  have hW' := hW
  obtain ⟨p, q, hA0, hV, rfl, hfz, hnd⟩ := hW
  have hA : DataW.TrodAll enc Try.prog W 0 (fun _ => true) true Try.f3.params.toList args.toList ds p := hA0
  rw [Try.params3] at hA hval hsz
  obtain ⟨rfl, rfl, rfl⟩ := trodAll_none hA
  obtain ⟨rfl, rfl⟩ := trodVars_none hV
  clear hA0 hval0 hsz0 hsz
  refine (walk  W ).mono fun e W' ⟨he, bel⟩ => ?_
  subst he
  exact ⟨_, rfl, _, _, _, [], [], [], hW', trodAll_mk1 (shut_bool Try.underlying4 _), trodAll_mk0, rfl, bel.frame _, fun h => by cases h⟩

theorem over : Rows.octetKnownRow.holds Try.pinned (OpenSpec.ofChange Rows.octetKnownSpec) :=
  OpenClaim.holds_of_wide 3 Try.f3 rfl rfl rfl rfl rfl rfl rfl ⟨rfl, rfl, rfl, rfl, rfl⟩ rfl rfl rfl rfl rfl (by kernel_rfl) Try.func3 (by kernel_rfl)
    (of_decide_eq_true (by kernel_rfl)) (by unfold Func.isWrapper; first | (rw [if_pos (by decide +kernel)]; kernel_rfl) | (rw [if_neg (by decide +kernel)]; exact ⟨rfl, rfl⟩))
    (fun os started H enc _ => lifted os started H enc)

end Go.Proofs.Ytcbhfdhnggdgbaa.octetKnown
namespace Go.Proofs.Ytcbhfdhnggdgbaa
theorem octetKnown_holds : Rows.OctetKnownSaid := octetKnown.over
#print axioms octetKnown_holds
end Go.Proofs.Ytcbhfdhnggdgbaa
