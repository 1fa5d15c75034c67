/- EntryAgain: for all bytes the call returns true: what was read is written as it was; a byte more or less is refused. No condition. -/
import Derived.Test.YtgkppclnpjkeeaaEntAwake
import Derived.Test.YtgkppclnpjkeeaaRows
set_option maxRecDepth 100000
namespace Go.Proofs.Ytgkppclnpjkeeaa.entryAgain
open Go.ChangeShapes Go.WideShapes Go.ChangeAt Go.RowKit

theorem enV_shape (e : En) : ∃ k t s a b : Int, e = ⟨k, t, s, a, b⟩ := ⟨_, _, _, _, _, rfl⟩

theorem sizeK_le (c : Int) : sizeK c ≤ 19 := by
  unfold sizeK
  by_cases h1 : c = 1
  · rw [if_pos h1]; omega
  by_cases h2 : c = 2
  · rw [if_neg h1, if_pos h2]; omega
  by_cases h3 : c = 3
  · rw [if_neg h1, if_neg h2, if_pos h3]; omega
  rw [if_neg h1, if_neg h2, if_neg h3]; omega

set_option maxHeartbeats 2000000 in
theorem walk_no (v : Value) (l : List Int) (w : World) (hl : Bts w v l) (h : whyE l ≠ 0) :
    Calls Try.prog 7 #[v] w fun e w' => e = .returned (.bool true) ∧ Below w.heap.size w w' := by
  have HL : Hid (Bts w v l) := hl
  have HD := fun W (h : Bts W v l) => decode_any v l W h
  rw [entE_no h] at HD
  generalize whyE l = y at *
  obtain ⟨aa, cap, bb, off, hvv, -⟩ := hl
  subst hvv
  generalize l.length = n at *
  have hne : (y != 0) = true := bne_iff_ne.2 h
  go_enter Try.func7, Try.ntmps7
  go_wp2_with fail
  refine (awake9_any _).mono ?_
  rintro e w1 ⟨rfl, hb1⟩
  have H1 := HD w1 (HL.out.later hb1)
  clear HD
  go_wp2_with fail
  refine H1.mono ?_
  rintro e w2 ⟨rfl, hb2⟩
  have HX : Hid (Below w.heap.size w (w2.alloc (.cells zEC 25))) := below_trans hb1 (below_trans hb2 (below_alloc _ _))
  clear hb1 hb2 H1
  go_wp2
  go_ret
  exact ⟨rfl, HX.out⟩

set_option maxHeartbeats 4000000 in
theorem walk_ok (b0 off cap n : Nat) (l : List Int) (w : World) (hA : At w b0 off n cap l) (h : whyE l = 0) (hn1 : 1 ≤ n) (hn2 : n ≤ 19) :
    Calls Try.prog 7 #[.slice (some ⟨b0, off, none⟩) n cap] w fun e w' => e = .returned (.bool true) ∧ Below w.heap.size w w' := by
  have HA : Hid (At w b0 off n cap l) := hA
  have HD := fun (v : Value) (m : List Int) W (h : Bts W v m) => decode_any v m W h
  have hm := whyE_more h 0
  have hs := whyE_less h
  obtain ⟨hmay, hby⟩ := bytesE_entE hA.bytes h
  have hok := entE_ok l hA.bytes
  have HE := fun W => encode_ok (entE l) W hmay hok
  have HD1 := fun W (hB : Bts W (.slice (some ⟨b0, off, none⟩) n cap) l) => decode_any _ l W hB
  have HD2 := fun (v : Value) W (hB : Bts W v (l ++ [0])) => decode_any v _ W hB
  have HD3 := fun (v : Value) W (hB : Bts W v (l.take (l.length - 1))) => decode_any v _ W hB
  rw [hby] at HE
  rw [h] at HD1
  rw [entE_no (by rw [hm]; decide), hm] at HD2
  rw [entE_no (by rw [hs]; decide), hs] at HD3
  rw [hA.len] at HD3
  obtain ⟨k, t, s, a, b, hv⟩ := enV_shape (entE l)
  rw [hv] at HE HD1
  have hc1 := hA.cap1
  have hc2 := hA.cap2
  unfold maxLen at hc2
  have HBY : Hid (isBytes l) := hA.bytes
  have HLN : Hid (l.length = n) := hA.len
  clear hA hm hs hmay hby hok hv h HD
  go_enter Try.func7, Try.ntmps7
  go_wp2_with fail
  refine (awake9_any _).mono ?_
  rintro e w1 ⟨rfl, hb1⟩
  have H1 := HD1 w1 (HA.out.later hb1).bts
  clear HD1
  go_wp2_with fail
  refine H1.mono ?_
  rintro e w2 ⟨rfl, hb2⟩
  have hx2 : Below w.heap.size w (w2.alloc (.cells (enC ⟨k, t, s, a, b⟩) 25)) := below_trans hb1 (below_trans hb2 (below_alloc _ _))
  clear H1 hb1 hb2
  go_wp2_with fail
  refine (HE _).mono ?_
  rintro e w3 ⟨v3, rfl, hO3, hb3⟩
  have hx3 := below_trans hx2 hb3
  have HO3 : Hid (Owns w3 (w2.alloc (.cells (enC ⟨k, t, s, a, b⟩) 25)).heap.size v3 l) := hO3
  obtain ⟨a3, c3, hv3⟩ := owns_shape hO3
  rw [HLN.out] at hv3
  subst hv3
  have hA3 := HA.out.later hx3
  have HCp := copy_any _ b0 off n cap l w3 hc1 HLN.out (.inl rfl) hA3.sees (by omega)
  clear HE hO3 hx2 hb3 hA3
  go_wp2_with fail
  refine HCp.mono ?_
  rintro e w4 ⟨v4, rfl, hO4, hb4⟩
  have hx4 := below_trans hx3 hb4
  obtain ⟨v5, w5, hrun, hO5, hb5⟩ := append_one w4 w3.heap.size v4 l 0 hO4 hb4.size (by rw [HLN.out]; omega)
  have hx5 : Below w.heap.size w w5 := hx4.trans (hb5.mono (by have := hx3.size; omega))
  have HX34 : Hid (Below w3.heap.size w3 w5) := hb4.trans hb5
  obtain ⟨a4, c4, hv4⟩ := owns_shape hO4
  rw [HLN.out] at hv4
  subst hv4
  have hB5 : Bts w5 v5 (l ++ [0]) := hO5.bts (isBytes_snoc HBY.out (by decide) (by decide))
  have H5 := HD2 v5 w5 hB5
  obtain ⟨a5, c5, hv5⟩ := owns_shape hO5
  have HL5 : Hid ((l ++ [0]).length = n + 1) := by show _ = _; rw [List.length_append, HLN.out]; rfl
  rw [HL5.out] at hv5
  subst hv5
  clear HD2 HCp hO4 hb4 hx4 hb5 hO5 hB5 HL5 hx3
  go_wp2_with (at_builtin; refine wpl_append_run rfl _ _ 29 rfl _ _ rfl rfl hrun ?_)
  refine H5.mono ?_
  rintro e w6 ⟨rfl, hb6⟩
  have hx6 : Below w.heap.size w (w6.alloc (.cells zEC 25)) := below_trans hx5 (below_trans hb6 (below_alloc _ _))
  have HX36 : Hid (Below w3.heap.size w3 (w6.alloc (.cells zEC 25))) := HX34.out.trans ((below_trans hb6 (below_alloc _ _)).mono HX34.out.size)
  have hB7 : Bts (w6.alloc (.cells zEC 25)) (.slice (some ⟨b0, off, none⟩) (n - 1) cap) (l.take (n - 1)) := by
    have hA7 := HA.out.later hx6
    have hlt : (l.take (n - 1)).length = n - 1 := by rw [List.length_take, HLN.out]; omega
    refine ⟨_, cap, b0, off, by rw [hlt], by rw [hlt]; omega, hA7.cap2, fun z hz => HBY.out z (List.mem_of_mem_take hz), .inl rfl, ?_⟩
    intro i hi
    rw [hlt] at hi
    rw [hA7.sees i (by rw [HLN.out]; omega)]
    simp only [List.getD, List.getElem?_take]
    rw [if_pos hi]
  have H7 := HD3 _ _ hB7
  clear H5 hrun hB7 HD3 hb6 HX34 hx5
  go_wp2_with fail
  refine H7.mono ?_
  rintro e w7 ⟨rfl, hb7⟩
  have hx7 : Below w.heap.size w (w7.alloc (.cells zEC 25)) := below_trans hx6 (below_trans hb7 (below_alloc _ _))
  have hy7 : Below w3.heap.size w3 (w7.alloc (.cells zEC 25)) := below_trans HX36.out (below_trans hb7 (below_alloc _ _))
  have HS := same_e _ _ _ l (HA.out.later hx7).bts ((HO3.out.bts HBY.out).later hy7)
  have HX7 : Hid (Below w.heap.size w (w7.alloc (.cells zEC 25))) := hx7
  clear H7 hx6 hb7 hx7 hy7 HX36 HO3 HA
  go_wp2_with fail
  refine HS.mono ?_
  rintro e w8 ⟨rfl, nq, hw8⟩
  have HX8 : Hid (Below w.heap.size w w8) := (by show Below _ _ _; rw [hw8]; exact below_trans HX7.out (draws_e _ _))
  clear HS HX7 hw8
  go_wp2
  go_ret
  exact ⟨rfl, HX8.out⟩

theorem walk (v0 : Value) (w : World) (V0 : IsBts w v0) :
    Calls Try.prog 7 #[v0] w fun e w' => e = .returned (.bool true) ∧ Below w.heap.size w w' := by
  obtain ⟨l, hl, -⟩ := V0
  by_cases h : whyE l = 0
  case neg => exact walk_no v0 l w hl h
  obtain ⟨a, cap, b, off, rfl, h2, h3, h4, h5, h6⟩ := hl
  obtain ⟨h7, h8, -⟩ := whyE_zero h
  have h9 := sizeK_le (b1 l 0)
  have h10 : 1 ≤ l.length := by
    rcases h8 with k | k | k <;> rw [k] at h7 <;> simp [sizeK] at h7 <;> omega
  have ha : a = some ⟨b, off, none⟩ := by
    rcases h5 with h | h
    · exact h
    · subst h; simp at h10
  subst ha
  exact walk_ok b off cap l.length l w ⟨h2, h3, rfl, h4, h6⟩ h h10 (by omega)

set_option maxRecDepth 100000 in
theorem lifted (os : Os) (started : os.Started) (H : Type) (enc : TypeId × Value → H) :
    ReturnsInHanded {} Try.checked os 7 .any (Rows.entryAgainSpec.pre6 enc Try.prog Try.f7 Rows.entryAgainRow.domain false) (Rows.entryAgainSpec.post enc Try.prog Try.f7 false true false false) := by
  refine returnsInHanded_of_change_sized (C := Try.checked) own started (by kernel_rfl) Try.func7
    (ChangeSpec.witness6 (enc := enc) (C := Try.checked) false ⟨#[], #[.slice none 0 0], []⟩ 8 (by kernel_rfl) (by kernel_rfl) (by kernel_rfl) (by kernel_rfl)) ?_
  intro W base args ds gs before hval0 hW hcnd hsz0 _
  have hval : ∀ (j : Nat) t v, Try.f7.params[j]? = some t → args[j]? = some v → Value.okWide Try.prog W .any base t v := hval0
  have hsz : ∀ n ∈ DataW.weightsEach Try.prog (Try.f7.params.toList ++ Rows.entryAgainSpec.plain.varTypes Try.prog) (ds ++ gs), n ≤ reachBytes := fun n hn => by simpa using List.all_eq_true.1 hsz0 n hn
  have hW' := hW
  obtain ⟨p, q, hA0, hV, rfl, hfz, hnd⟩ := hW
  have hA : DataW.TrodAll enc Try.prog W 0 (fun _ => true) true Try.f7.params.toList args.toList ds p := hA0
  rw [Try.params7] at hA hval hsz
  obtain ⟨v0, vs0, d0, ds0, p0, q0, hargs, rfl, rfl, h0, r0⟩ := trodAll_cons hA
  obtain ⟨rfl, rfl, rfl⟩ := trodAll_nil r0
  obtain rfl : args = #[v0] := by cases args; simp_all
  obtain ⟨rfl, rfl⟩ := trodVars_none hV
  have lt0 : ∀ x ∈ p0, x.block < W.heap.size := by obtain ⟨m, hm⟩ := h0; exact DataW.trod_lt m _ _ _ hm
  have V0 := view26 (hval 0 29 v0 rfl rfl) h0 (fun n hn => hsz n (DataW.weights_mem_each (j := 0) rfl rfl n hn))
  clear hA0 hval0 hsz0 hsz
  refine (walk v0 W V0).mono fun e W' ⟨he, bel⟩ => ?_
  subst he
  exact ⟨_, rfl, _, _, _, [], _, [], hW', trodAll_mk1 (shut_bool Try.underlying4 _), (trodAll_cons_mk (Below.trod laidOut (by kernel_rfl) (of_decide_eq_true (by kernel_rfl)) h0 bel lt0) trodAll_mk0), rfl, bel.frame _, fun h => by cases h⟩

theorem over : Rows.entryAgainRow.holds Try.pinned (OpenSpec.ofChange Rows.entryAgainSpec) :=
  OpenClaim.holds_of_wide 7 Try.f7 rfl rfl rfl rfl rfl rfl rfl ⟨rfl, rfl, rfl, rfl, rfl⟩ rfl rfl rfl rfl rfl (by kernel_rfl) Try.func7 (by kernel_rfl)
    (of_decide_eq_true (by kernel_rfl)) (by unfold Func.isWrapper; first | (rw [if_pos (by decide +kernel)]; kernel_rfl) | (rw [if_neg (by decide +kernel)]; exact ⟨rfl, rfl⟩))
    (fun os started H enc _ => lifted os started H enc)

end Go.Proofs.Ytgkppclnpjkeeaa.entryAgain
namespace Go.Proofs.Ytgkppclnpjkeeaa
theorem entryAgain_holds : Rows.EntryAgainSaid := entryAgain.over
#print axioms entryAgain_holds
end Go.Proofs.Ytgkppclnpjkeeaa
