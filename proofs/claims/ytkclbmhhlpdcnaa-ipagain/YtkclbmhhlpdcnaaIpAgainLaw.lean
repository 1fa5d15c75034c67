/- IpAgain: for all bytes the call returns true: of bytes that are a datagram: built again they are the bytes up to its total length, but that a check of 65535 is 0 then. No condition. -/
import Derived.Test.YtkclbmhhlpdcnaaBeside
import Derived.Test.YtkclbmhhlpdcnaaPart
namespace Go.Proofs.Ytkclbmhhlpdcnaa.ipAgain
open Go.ChangeShapes Go.WideShapes Go.ChangeAt Go.RowKit

set_option maxHeartbeats 1000000 in
theorem walk_big (a : Option Addr) (len cap : Nat) (w : World) (h : 5000 < len) :
    Calls Try.prog 6 #[.slice a len cap] w fun e w' => e = .returned (.bool true) ∧ Below w.heap.size w w' := by
  have h' : (5000 : Int) < len := by omega
  go_enter Try.func6, Try.ntmps6
  go_wp2_with fail
  refine (awake2_any _).mono ?_
  rintro e w1 ⟨rfl, hb1⟩
  go_wp2
  go_ret
  exact ⟨rfl, hb1⟩

set_option maxHeartbeats 1000000 in
theorem walk_no (a : Option Addr) (b off len cap : Nat) (l : List Int) (w : World) (ha : a = some ⟨b, off, none⟩ ∨ l = []) (hA : At w b off len cap l) (hl : len ≤ 5000) (hE : ¬ parseE l = 0) :
    Calls Try.prog 6 #[.slice a len cap] w fun e w' => e = .returned (.bool true) ∧ Below w.heap.size w w' := by
  have h' : ¬ (5000 : Int) < len := by omega
  have hne : (parseE l != 0) = true := by rw [bne_iff_ne]; exact hE
  have HE : Hid (¬ parseE l = 0) := hE
  clear hE
  go_enter Try.func6, Try.ntmps6
  go_wp2_with fail
  refine (awake2_any _).mono ?_
  rintro e w1 ⟨rfl, hb1⟩
  go_wp2_with fail
  refine (parse_no a b off len cap l _ ha (hA.later hb1) HE.out).mono ?_
  rintro e w2 ⟨rfl, hb2⟩
  go_wp2
  go_ret
  exact ⟨rfl, (below_trans hb1 hb2).alloc (below_trans hb1 hb2).size _⟩

set_option maxHeartbeats 2000000 in
theorem walk_ok (b off len cap : Nat) (l : List Int) (w : World) (hA : At w b off len cap l) (g : Good l) :
    Calls Try.prog 6 #[.slice (some ⟨b, off, none⟩) len cap] w fun e w' => e = .returned (.bool true) ∧ Below w.heap.size w w' := by
  have hL := hA.len
  have hbl := hA.bytes
  have ga := g.a
  have gb := g.b
  have gh := g.h
  have gd := g.d
  have gf := g.f
  have ⟨t1, t2⟩ := dg_total l g
  have bl := built_length (dgOf l)
  have e1 := built_again l hbl g
  have HK : Hid ((dgOf l).Ok) := dg_ok l hbl
  have HE : Hid (buildE (dgOf l) = 0) := build_fits _ (dg_fits l hbl g)
  have HG : Hid (Good l) := g
  obtain ⟨T, hT⟩ : ∃ T : Nat, (w2 l 2).toNat = T := ⟨_, rfl⟩
  have HB : Hid ((built (dgOf l)).length = T) := by show _ = _; omega
  have HA : Hid (built (dgOf l) = fixL (l.take T)) := by show _ = _; rw [e1, hT]
  have hT1 : T ≤ len := by omega
  have hT2 : 20 ≤ T := by omega
  have h' : ¬ (5000 : Int) < len := by omega
  have hlen2 : len ≤ 2048 := by omega
  have h'' : ¬ (len : Int) < (T : Int) := by omega
  have HT : Hid ((w2 l 2).toNat = T) := hT
  clear e1 bl t1 t2 gd gh gf ga gb hT g
  go_enter Try.func6, Try.ntmps6
  go_wp2_with fail
  refine (awake2_any _).mono ?_
  rintro e w1 ⟨rfl, hb1⟩
  go_wp2_with fail
  refine (parse_ok b off len cap l _ (hA.later hb1) HG.out).mono ?_
  rintro e w2' ⟨a1, k1, a2, k2, rfl, hv1, hv2, hb2⟩
  have hpb := below_alloc w2' (.cells (ipC (dgOf l) (.slice a1 (dgOf l).opts.length k1) (.slice a2 (dgOf l).body.length k2)) 26)
  go_wp2_with fail
  refine (build_ok (dgOf l) a1 a2 k1 k2 _ HK.out HE.out (hv1.later hpb) (hv2.later hpb)).mono ?_
  rintro e w3 ⟨v3, rfl, hF3, hb3⟩
  have hB3 := hF3.bts
  obtain ⟨g3, cap3, rfl, -⟩ := hF3
  rw [HB.out]
  rw [HB.out] at hB3
  have hy3 := below_trans hb1 (below_trans hb2 (below_trans hpb hb3))
  clear hv1 hv2 hpb hb3 hb2 hb1
  go_wp2_with fail
  refine (part_any b off len cap l 0 (T : Int) 0 T _ (hA.later hy3) rfl rfl (by omega) (by omega) (by omega)).mono ?_
  rintro e w4 ⟨vw, rfl, ho, hb4⟩
  have hlt : ((l.drop 0).take (T - 0)).length = T := by simp; omega
  obtain ⟨G, cw, rfl, hH⟩ := holds8_of_owns ho hlt (by omega)
  have hy4 := below_trans hy3 hb4
  have hGb := hH.base
  have c10 := hH.cell 10 (by omega)
  have c11 := hH.cell 11 (by omega)
  have z10 := hH.2.frozenAt 10
  have z11 := hH.2.frozenAt 11
  rw [List.drop_zero, Nat.sub_zero] at c10 c11
  have hHl : Holds8 w4 w3.heap.size G T cw (l.take T) := by rw [List.drop_zero, Nat.sub_zero] at hH; exact hH
  have hs3 := hy3.size
  clear hH ho
  by_cases hff : (l.take T).getD 10 0 = 255 ∧ (l.take T).getD 11 0 = 255
  · rw [hff.1] at c10
    rw [hff.2] at c11
    have HFX : Hid (built (dgOf l) = ((l.take T).set 10 0).set 11 0) := by show _ = _; rw [HA.out]; unfold fixL; rw [if_pos hff]
    have R := (hHl.store 10 0).store 11 0
    clear hff HA
    go_wp2_with fail
    refine (same_one _ _ _ (built (dgOf l)) (hB3.later ((hb4.setCell (by exact hGb) _).setCell (by exact hGb) _)) (by rw [HFX.out]; exact R.owns.bts (by rw [← HFX.out]; exact built_bytes _ HK.out))).mono ?_
    rintro e w9 ⟨rfl, nq, rfl⟩
    go_wp2
    go_ret
    exact ⟨rfl, below_drewN (((hy4).setCell (by show _ ≤ G; omega) _).setCell (by show _ ≤ G; omega) _) _⟩
  · have HFX : Hid (built (dgOf l) = l.take T) := by show _ = _; rw [HA.out]; unfold fixL; rw [if_neg hff]
    clear HA
    have hBw := hHl.owns.bts (by rw [← HFX.out]; exact built_bytes _ HK.out)
    rw [← HFX.out] at hBw
    have hB4 := hB3.later hb4
    clear hHl hB3
    generalize (l.take T).getD 10 0 = x10 at *
    generalize (l.take T).getD 11 0 = x11 at *
    by_cases h10 : x10 = 255
    · have h11 : (x11 == 255) = false := by rw [beq_eq_false_iff_ne]; exact fun h => hff ⟨h10, h⟩
      subst h10
      clear hff
      go_wp2_with fail
      refine (same_one _ _ _ (built (dgOf l)) hB4 hBw).mono ?_
      rintro e w9 ⟨rfl, nq, rfl⟩
      go_wp2
      go_ret
      exact ⟨rfl, below_drewN hy4 _⟩
    · have h10' : (x10 == 255) = false := by rw [beq_eq_false_iff_ne]; exact h10
      clear hff h10
      go_wp2_with fail
      refine (same_one _ _ _ (built (dgOf l)) hB4 hBw).mono ?_
      rintro e w9 ⟨rfl, nq, rfl⟩
      go_wp2
      go_ret
      exact ⟨rfl, below_drewN hy4 _⟩

theorem walk (v0 : Value) (w : World) (V0 : IsBts w v0) :
    Calls Try.prog 6 #[v0] w fun e w' => e = .returned (.bool true) ∧ Below w.heap.size w w' := by
  obtain ⟨l, ⟨a, cap, b, off, rfl, h2, h3, h4, h5, h6⟩, -⟩ := V0
  by_cases h1 : 5000 < l.length
  · exact walk_big a l.length cap w h1
  by_cases h7 : parseE l = 0
  · have g := good_of l h7
    rcases h5 with rfl | rfl
    · exact walk_ok b off l.length cap l w ⟨h2, h3, rfl, h4, h6⟩ g
    · have := g.b; simp at this
  · exact walk_no a b off l.length cap l w h5 ⟨h2, h3, rfl, h4, h6⟩ (by omega) h7

set_option maxRecDepth 100000 in
theorem lifted (os : Os) (started : os.Started) (H : Type) (enc : TypeId × Value → H) :
    ReturnsInHanded {} Try.checked os 6 .any (Rows.ipAgainSpec.pre6 enc Try.prog Try.f6 Rows.ipAgainRow.domain false) (Rows.ipAgainSpec.post enc Try.prog Try.f6 false true false false) := by
  refine returnsInHanded_of_change_sized (C := Try.checked) own started (by kernel_rfl) Try.func6
    (ChangeSpec.witness6 (enc := enc) (C := Try.checked) false ⟨#[], #[.slice none 0 0], []⟩ 8 (by kernel_rfl) (by kernel_rfl) (by kernel_rfl) (by kernel_rfl)) ?_
  intro W base args ds gs before hval0 hW hcnd hsz0 _
  have hval : ∀ (j : Nat) t v, Try.f6.params[j]? = some t → args[j]? = some v → Value.okWide Try.prog W .any base t v := hval0
  have hsz : ∀ n ∈ DataW.weightsEach Try.prog (Try.f6.params.toList ++ Rows.ipAgainSpec.plain.varTypes Try.prog) (ds ++ gs), n ≤ reachBytes := fun n hn => by simpa using List.all_eq_true.1 hsz0 n hn
  have hW' := hW
  obtain ⟨p, q, hA0, hV, rfl, hfz, hnd⟩ := hW
  have hA : DataW.TrodAll enc Try.prog W 0 (fun _ => true) true Try.f6.params.toList args.toList ds p := hA0
  rw [Try.params6] at hA hval hsz
  obtain ⟨v0, vs0, d0, ds0, p0, q0, hargs, rfl, rfl, h0, r0⟩ := trodAll_cons hA
  obtain ⟨rfl, rfl, rfl⟩ := trodAll_nil r0
  obtain rfl : args = #[v0] := by cases args; simp_all
  obtain ⟨rfl, rfl⟩ := trodVars_none hV
  have lt0 : ∀ x ∈ p0, x.block < W.heap.size := by obtain ⟨m, hm⟩ := h0; exact DataW.trod_lt m _ _ _ hm
  have V0 := view26 (hval 0 22 v0 rfl rfl) h0 (fun n hn => hsz n (DataW.weights_mem_each (j := 0) rfl rfl n hn))
  clear hA0 hval0 hsz0 hsz
  refine (walk v0 W V0).mono fun e W' ⟨he, bel⟩ => ?_
  subst he
  exact ⟨_, rfl, _, _, _, [], _, [], hW', trodAll_mk1 (shut_bool Try.underlying4 _), (trodAll_cons_mk (Below.trod laidOut (by kernel_rfl) (of_decide_eq_true (by kernel_rfl)) h0 bel lt0) trodAll_mk0), rfl, bel.frame _, fun h => by cases h⟩

theorem over : Rows.ipAgainRow.holds Try.pinned (OpenSpec.ofChange Rows.ipAgainSpec) :=
  OpenClaim.holds_of_wide 6 Try.f6 rfl rfl rfl rfl rfl rfl rfl ⟨rfl, rfl, rfl, rfl, rfl⟩ rfl rfl rfl rfl rfl (by kernel_rfl) Try.func6 (by kernel_rfl)
    (of_decide_eq_true (by kernel_rfl)) (by unfold Func.isWrapper; first | (rw [if_pos (by decide +kernel)]; kernel_rfl) | (rw [if_neg (by decide +kernel)]; exact ⟨rfl, rfl⟩))
    (fun os started H enc _ => lifted os started H enc)

end Go.Proofs.Ytkclbmhhlpdcnaa.ipAgain
namespace Go.Proofs.Ytkclbmhhlpdcnaa
theorem ipAgain_holds : Rows.IpAgainSaid := ipAgain.over
#print axioms ipAgain_holds
end Go.Proofs.Ytkclbmhhlpdcnaa
