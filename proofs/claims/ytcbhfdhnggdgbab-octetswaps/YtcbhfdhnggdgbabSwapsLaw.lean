/- OctetSwaps: for all bytes and places the call returns true: with two words changed about the sum stays; with all bytes of words turned round it is turned round itself. No condition. -/
import Derived.Test.YtcbhfdhnggdgbabCopy
import Derived.Test.YtcbhfdhnggdgbabSwapMath
import Derived.RegionTactic
import Derived.ChangeAlike
import Derived.BigRegion
import Derived.Lib.EndianBits
namespace Go.Proofs.Ytcbhfdhnggdgbab.octetSwaps
open Go.ChangeShapes Go.WideShapes Go.ChangeAt Go.RowKit

/-- A place that is brought into the words. -/
theorem place_eq (i : Int) (n : Nat) (h1 : 1 ≤ n) (h2 : n ≤ 50000) : ∃ I : Nat, I % 2 = 0 ∧ I + 2 ≤ 2 * n ∧ wrap64 ((wrap64 (i.tmod n + n)).tmod n * 2) = (I : Int) := by
  have hp : (0 : Int) < n := by omega
  have a1 := Int.tmod_lt_of_pos i hp
  have a2 : -(n : Int) < i.tmod n := by
    have := Int.tmod_lt_of_pos (-i) hp
    rw [Int.neg_tmod] at this
    omega
  rw [IntWalk.wrap64_in (i.tmod n + n) (by omega)]
  have b1 := Int.tmod_lt_of_pos (i.tmod n + n) hp
  have b2 := Int.tmod_nonneg (n : Int) (a := i.tmod n + n) (by omega)
  obtain ⟨u, hu⟩ := Int.eq_ofNat_of_zero_le b2
  rw [hu] at b1 ⊢
  rw [IntWalk.wrap64_in _ (by omega)]
  exact ⟨2 * u, by omega, by omega, by omega⟩

theorem i64_and255 (x : Int) : bits .and .i64 x 255 = x % 256 := by
  have h1 : (BitVec.ofInt 64 255).toNat = 2 ^ 8 - 1 := by decide
  have key : (BitVec.ofInt 64 x &&& BitVec.ofInt 64 255).toNat = (x % ((2 ^ 64 : Nat) : Int)).toNat % 2 ^ 8 := by
    rw [BitVec.toNat_and, BitVec.toNat_ofInt, h1, Nat.and_two_pow_sub_one_eq_mod]
  show IntKind.i64.wrap ((BitVec.ofInt 64 x &&& BitVec.ofInt 64 255).toNat : Nat) = _
  rw [key, IntKind.wrap_i64]
  omega

theorem or_rot (S : Int) (h0 : 0 ≤ S) (h1 : S ≤ 65535) : bits .or .i64 (S / 256) (S % 256 * 256) = S / 256 + S % 256 * 256 :=
  bits_join_low .i64 63 (by decide) (fun n a b => by rw [IntKind.wrap_i64]; omega) 8 (S / 256) (S % 256 * 256) (by omega) (by omega) (by omega) (by omega) (by omega) (by omega)

set_option maxHeartbeats 4000000 in
theorem walk (v0 v1 v2 : Value) (w : World) (V0 : IsBts w v0) (V1 : IsI64 w v1) (V2 : IsI64 w v2) :
    Calls Try.prog 3 #[v0, v1, v2] w fun e w' => e = .returned (.bool true) ∧ Below w.heap.size w w' := by
  obtain ⟨l, ⟨a, cap, b, off, rfl, h2, h3, h4, h5, h6⟩, hr⟩ := V0
  obtain ⟨i, rfl, hi⟩ := V1
  obtain ⟨k, rfl, hk⟩ := V2
  by_cases g1 : 100000 < (l.length : Int)
  · go_enter Try.func3, Try.ntmps3
    go_wp2_with (go_at_call 5; refine (awake_any _).mono ?_; rintro e w1 ⟨rfl, hb1⟩)
    go_ret
    exact ⟨rfl, hb1⟩
  by_cases g2 : (l.length : Int) % 2 = 0
  case neg =>
    have g2' : ((l.length : Int) % 2 != 0) = true := by rw [bne_iff_ne]; exact g2
    clear g2
    go_enter Try.func3, Try.ntmps3
    go_wp2_with (go_at_call 5; refine (awake_any _).mono ?_; rintro e w1 ⟨rfl, hb1⟩)
    go_ret
    exact ⟨rfl, hb1⟩
  have g2' : ((l.length : Int) % 2 != 0) = false := by simp [g2]
  by_cases g3 : (l.length : Int) = 0
  case pos =>
    have g3' : ((l.length : Int) == 0) = true := by simpa using g3
    clear g2 g3
    go_enter Try.func3, Try.ntmps3
    go_wp2_with (go_at_call 5; refine (awake_any _).mono ?_; rintro e w1 ⟨rfl, hb1⟩)
    go_ret
    exact ⟨rfl, hb1⟩
  have g3' : ((l.length : Int) == 0) = false := by simpa using g3
  obtain ⟨n, hn⟩ : ∃ n : Nat, l.length = 2 * n := ⟨l.length / 2, by omega⟩
  have hn1 : 1 ≤ n := by omega
  have hn2 : n ≤ 50000 := by omega
  clear g3 g2
  have hdiv : (l.length : Int) / 2 = n := by omega
  have HN : Hid (l.length = 2 * n) := hn
  clear hn
  obtain ⟨I, hI0, hI1, hI⟩ := place_eq i n hn1 hn2
  obtain ⟨K, hK0, hK1, hK⟩ := place_eq k n hn1 hn2
  have hIo : Hid (wrap64 ((wrap64 (i.tmod n + n)).tmod n * 2) = (I : Int)) := hI
  have hKo : Hid (wrap64 ((wrap64 (k.tmod n + n)).tmod n * 2) = (K : Int)) := hK
  clear hI hK
  have g1' : decide (100000 < (l.length : Int)) = false := by simpa using g1
  go_enter Try.func3, Try.ntmps3
  go_wp2_with fail
  refine (awake_any _).mono ?_
  rintro e w1 ⟨rfl, hb1⟩
  go_wp2_with fail
  rw [hIo.out, hKo.out]
  generalize (wrap64 (i.tmod n + n)) = s1
  generalize (wrap64 (k.tmod n + n)) = s2
  generalize s1.tmod n = s3
  generalize s2.tmod n = s4
  clear hIo hKo
  rcases h5 with rfl | hnil
  case inr => exact absurd HN.out (by rw [hnil]; simp; omega)
  refine (copy_any _ b off l.length cap l _ h2 rfl (.inl rfl) (h6.later hb1) hr).mono ?_
  rintro e w2 ⟨v, rfl, hown, hb2⟩
  obtain ⟨G, capv, rfl, hH⟩ := holds8_of_owns hown rfl (by rw [HN.out]; omega)
  have g5 := below_trans hb1 hb2
  have hG := hH.base
  have hlt1 : I + 1 < l.length := by rw [HN.out]; omega
  have hlt2 : K + 1 < l.length := by rw [HN.out]; omega
  have c1 := hH.cell I (by omega)
  have c2 := hH.cell (I + 1) hlt1
  have c3 := hH.cell K (by omega)
  have c4 := hH.cell (K + 1) hlt2
  have f1 := hH.2.frozenAt I
  have f2 := hH.2.frozenAt (I + 1)
  have f3 := hH.2.frozenAt K
  have f4 := hH.2.frozenAt (K + 1)
  have hb1s := hb1.size
  clear hown hb1 hb2
  generalize hz1 : l.getD I 0 = z1 at *
  generalize hz2 : l.getD (I + 1) 0 = z2 at *
  generalize hz3 : l.getD K 0 = z3 at *
  generalize hz4 : l.getD (K + 1) 0 = z4 at *
  have Z1 : Hid (l.getD I 0 = z1) := hz1
  have Z2 : Hid (l.getD (I + 1) 0 = z2) := hz2
  have Z3 : Hid (l.getD K 0 = z3) := hz3
  have Z4 : Hid (l.getD (K + 1) 0 = z4) := hz4
  clear hz1 hz2 hz3 hz4
  obtain ⟨y1, d1⟩ := cell?_setCell_some (w := w2) (p := ⟨G, I, none⟩) (x := .int .u8 z3) (q := ⟨G, I + 1, none⟩) (v := .int .u8 z2) c2
  obtain ⟨y2, d2⟩ := cell?_setCell_some (w := w2) (p := ⟨G, I, none⟩) (x := .int .u8 z3) (q := ⟨G, K, none⟩) (v := .int .u8 z3) c3
  obtain ⟨y3, d3⟩ := cell?_setCell_some (w := w2.setCell ⟨G, I, none⟩ (.int .u8 z3)) (p := ⟨G, I + 1, none⟩) (x := .int .u8 z4) (q := ⟨G, K, none⟩) (v := y2) d2
  obtain ⟨y4, d4⟩ := cell?_setCell_some (w := w2) (p := ⟨G, I, none⟩) (x := .int .u8 z3) (q := ⟨G, K + 1, none⟩) (v := .int .u8 z4) c4
  obtain ⟨y5, d5⟩ := cell?_setCell_some (w := w2.setCell ⟨G, I, none⟩ (.int .u8 z3)) (p := ⟨G, I + 1, none⟩) (x := .int .u8 z4) (q := ⟨G, K + 1, none⟩) (v := y4) d4
  obtain ⟨y6, d6⟩ := cell?_setCell_some (w := (w2.setCell ⟨G, I, none⟩ (.int .u8 z3)).setCell ⟨G, I + 1, none⟩ (.int .u8 z4)) (p := ⟨G, K, none⟩) (x := .int .u8 z1) (q := ⟨G, K + 1, none⟩) (v := y5) d5
  clear d2 d4 d5
  have R1 := (((hH.store I z3).store (I + 1) z4).store K z1).store (K + 1) z2
  have R2 : Below w.heap.size w ((((w2.setCell ⟨G, I, none⟩ (.int .u8 z3)).setCell ⟨G, I + 1, none⟩ (.int .u8 z4)).setCell ⟨G, K, none⟩ (.int .u8 z1)).setCell ⟨G, K + 1, none⟩ (.int .u8 z2)) :=
    (((g5.setCell (Nat.le_trans hb1s hG) _).setCell (Nat.le_trans hb1s hG) _).setCell (Nat.le_trans hb1s hG) _).setCell (Nat.le_trans hb1s hG) _
  have hlt3 : (I : Int) + 1 < (l.length : Int) := by omega
  have hlt4 : (I : Int) < (l.length : Int) := by omega
  have hlt5 : (K : Int) + 1 < (l.length : Int) := by omega
  have hlt6 : (K : Int) < (l.length : Int) := by omega
  go_wp2
  go_region
  have Q1 : Hid (ws ((((l.set I z3).set (I + 1) z4).set K z1).set (K + 1) z2) = ws l) := by
    show _ = _
    have := ws_swap l I K hI0 hK0 hlt1 hlt2
    rw [Z1.out, Z2.out, Z3.out, Z4.out] at this
    exact this
  have Q2 : isBytes ((((l.set I z3).set (I + 1) z4).set K z1).set (K + 1) z2) := by
    have b1 := getD_byte l h4 I; rw [Z1.out] at b1
    have b2 := getD_byte l h4 (I + 1); rw [Z2.out] at b2
    have b3 := getD_byte l h4 K; rw [Z3.out] at b3
    have b4 := getD_byte l h4 (K + 1); rw [Z4.out] at b4
    exact isBytes_set (isBytes_set (isBytes_set (isBytes_set h4 _ _ b3) _ _ b4) _ _ b1) _ _ b2
  generalize hC : (((l.set I z3).set (I + 1) z4).set K z1).set (K + 1) z2 = C at *
  clear hC
  generalize hW3 : (((w2.setCell ⟨G, I, none⟩ (.int .u8 z3)).setCell ⟨G, I + 1, none⟩ (.int .u8 z4)).setCell ⟨G, K, none⟩ (.int .u8 z1)).setCell ⟨G, K + 1, none⟩ (.int .u8 z2) = w3 at *
  clear hW3 c1 c2 c3 c4 f1 f2 f3 f4 d1 d3 d6 Z1 Z2 Z3 Z4 hH g5
  have hbtC := R1.owns.bts Q2
  clear R1
  go_wp2_with fail
  refine (copy_any _ b off l.length cap l _ h2 rfl (.inl rfl) (h6.later (below_drewN R2 1)) hr).mono ?_
  rintro e w5 ⟨v5, rfl, hown5, hb5⟩
  obtain ⟨G2, cap2, rfl, hH5⟩ := holds8_of_owns hown5 rfl (by rw [HN.out]; omega)
  have hG2 : w3.heap.size ≤ G2 := hH5.base
  have hb5' : Below w3.heap.size w3 w5 := (below_drewN (Below.refl _ _) 1).trans hb5
  clear hown5 hb5
  go_wp2
  go_loopw [10] (fun jv wr => ∃ m : Nat, m ≤ n ∧ jv = .int .i64 (2 * (m : Int)) ∧ Holds8 wr w3.heap.size G2 l.length cap2 (swapTo m l) ∧ Below w3.heap.size w3 wr) (fun jv _ => 2 * n - (intOf jv).toNat)
  case atStart => exact ⟨0, Nat.zero_le _, rfl, hH5, hb5'⟩
  case round =>
    obtain ⟨m, hm, rfl, hHr, hbr⟩ := hrel
    by_cases hlt : m < n
    · have k1 : 2 * m + 1 < l.length := by rw [HN.out]; omega
      have c1 := hHr.cell (2 * m) (by omega)
      have c2 := hHr.cell (2 * m + 1) k1
      have f1 := hHr.2.frozenAt (2 * m)
      have f2 := hHr.2.frozenAt (2 * m + 1)
      have HS : Hid (swapTo (m + 1) l = ((swapTo m l).set (2 * m) ((swapTo m l).getD (2 * m + 1) 0)).set (2 * m + 1) ((swapTo m l).getD (2 * m) 0)) := rfl
      generalize hD : swapTo m l = D at *
      clear hD
      generalize hy1 : D.getD (2 * m) 0 = y1 at *
      generalize hy2 : D.getD (2 * m + 1) 0 = y2 at *
      clear hy1 hy2
      have T1 := (hHr.store (2 * m) y2).store (2 * m + 1) y1
      have T2 : Below w3.heap.size w3 ((wr.setCell ⟨G2, 2 * m, none⟩ (.int .u8 y2)).setCell ⟨G2, 2 * m + 1, none⟩ (.int .u8 y1)) := (hbr.setCell hG2 _).setCell hG2 _
      have k2 : 2 * (m : Int) < (l.length : Int) := by omega
      have k3 : 2 * (m : Int) + 1 < (l.length : Int) := by omega
      go_wp2
      go_region
      all_goals
        go_wp2
        go_roundw
        case rel => exact ⟨m + 1, by omega, by go_num, by rw [HS.out]; exact T1, T2.drew⟩
        case measure => simp [intOf]; omega
    · have hme : m = n := by omega
      subst hme
      have k2 : ¬ 2 * (m : Int) < (l.length : Int) := by have := HN.out; omega
      have hbw : Below w.heap.size w wr := R2.trans (hbr.mono R2.size)
      have hbl : Bts wr (.slice (some ⟨b, off, none⟩) l.length cap) l := ⟨_, _, b, off, rfl, h2, h3, h4, .inl rfl, h6.later hbw⟩
      have hbc := hbtC.later hbr
      have hbd := hHr.owns.bts (swapTo_bytes m l h4)
      have E : Hid (fold16 (ws (swapTo m l)) = fold16 (ws l) / 256 + fold16 (ws l) % 256 * 256) := fold_swapAll m l HN.out h4
      have E2 : Hid ((swapTo m l).length = l.length) := swapTo_length m l
      have E3 : Hid (C.length = l.length) := by obtain ⟨_, _, _, _, e, _⟩ := hbtC; simp only [Value.slice.injEq] at e; exact e.2.1.symm
      have hfb := fold16_bd (ws l)
      clear hHr hbtC hH5 hbr
      go_wp2_with fail
      refine (sum_one _ _ _ l 22 rfl hbl (by omega)).mono ?_
      rintro e w6 ⟨rfl, rfl⟩
      go_wp2_with fail
      refine (sum_one _ _ _ C 22 (by simp) (hbc.later (below_alloc _ _)) (by rw [E3.out]; omega)).mono ?_
      rintro e w7 ⟨rfl, rfl⟩
      rw [Q1.out]
      go_wp2_with fail
      refine (sum_one _ _ _ (swapTo m l) 22 (by simp) (hbd.later (below_trans (below_alloc _ _) (below_alloc _ _))) (by rw [E2.out]; omega)).mono ?_
      rintro e w8 ⟨rfl, rfl⟩
      rw [E.out]
      generalize fold16 (ws l) = S at *
      have hand := i64_and255 S
      have hor := or_rot S hfb.1 hfb.2
      obtain ⟨hs0, hs1⟩ := hfb
      go_wp2
      go_ret
      exact ⟨rfl, below_trans hbw (below_trans (below_alloc _ _) (below_trans (below_alloc _ _) (below_alloc _ _)))⟩

set_option maxRecDepth 100000 in
theorem lifted (os : Os) (started : os.Started) (H : Type) (enc : TypeId × Value → H) :
    ReturnsInHanded {} Try.checked os 3 .any (Rows.octetSwapsSpec.pre6 enc Try.prog Try.f3 Rows.octetSwapsRow.domain false) (Rows.octetSwapsSpec.post enc Try.prog Try.f3 false true false false) := by
  refine returnsInHanded_of_change_sized (C := Try.checked) own started (by kernel_rfl) Try.func3
    (ChangeSpec.witness6 (enc := enc) (C := Try.checked) false ⟨#[], #[.slice none 0 0, .int .i64 0, .int .i64 0], []⟩ 8 (by kernel_rfl) (by kernel_rfl) (by kernel_rfl) (by kernel_rfl)) ?_
  intro W base args ds gs before hval0 hW hcnd hsz0 _
  have hval : ∀ (j : Nat) t v, Try.f3.params[j]? = some t → args[j]? = some v → Value.okWide Try.prog W .any base t v := hval0
  have hsz : ∀ n ∈ DataW.weightsEach Try.prog (Try.f3.params.toList ++ Rows.octetSwapsSpec.plain.varTypes Try.prog) (ds ++ gs), n ≤ reachBytes := fun n hn => by simpa using List.all_eq_true.1 hsz0 n hn
  have hW' := hW
  obtain ⟨p, q, hA0, hV, rfl, hfz, hnd⟩ := hW
  have hA : DataW.TrodAll enc Try.prog W 0 (fun _ => true) true Try.f3.params.toList args.toList ds p := hA0
  rw [Try.params3] at hA hval hsz
  obtain ⟨v0, vs0, d0, ds0, p0, q0, hargs, rfl, rfl, h0, r0⟩ := trodAll_cons hA
  obtain ⟨v1, vs1, d1, ds1, p1, q1, rfl, rfl, rfl, h1, r1⟩ := trodAll_cons r0
  obtain ⟨v2, vs2, d2, ds2, p2, q2, rfl, rfl, rfl, h2, r2⟩ := trodAll_cons r1
  obtain ⟨rfl, rfl, rfl⟩ := trodAll_nil r2
  obtain rfl : args = #[v0, v1, v2] := by cases args; simp_all
  obtain ⟨rfl, rfl⟩ := trodVars_none hV
  have lt0 : ∀ x ∈ p0, x.block < W.heap.size := by obtain ⟨m, hm⟩ := h0; exact DataW.trod_lt m _ _ _ hm
  have V0 := view26 (hval 0 22 v0 rfl rfl) h0 (fun n hn => hsz n (DataW.weights_mem_each (j := 0) rfl rfl n hn))
  have lt1 : ∀ x ∈ p1, x.block < W.heap.size := by obtain ⟨m, hm⟩ := h1; exact DataW.trod_lt m _ _ _ hm
  have V1 := view3 (hval 1 3 v1 rfl rfl) h1 (fun n hn => hsz n (DataW.weights_mem_each (j := 1) rfl rfl n hn))
  have lt2 : ∀ x ∈ p2, x.block < W.heap.size := by obtain ⟨m, hm⟩ := h2; exact DataW.trod_lt m _ _ _ hm
  have V2 := view3 (hval 2 3 v2 rfl rfl) h2 (fun n hn => hsz n (DataW.weights_mem_each (j := 2) rfl rfl n hn))
  clear hA0 hval0 hsz0 hsz
  refine (walk v0 v1 v2 W V0 V1 V2).mono fun e W' ⟨he, bel⟩ => ?_
  subst he
  exact ⟨_, rfl, _, _, _, [], _, [], hW', trodAll_mk1 (shut_bool Try.underlying4 _), (trodAll_cons_mk (Below.trod laidOut (by kernel_rfl) (of_decide_eq_true (by kernel_rfl)) h0 bel lt0) (trodAll_cons_mk (Below.trod laidOut (by kernel_rfl) (of_decide_eq_true (by kernel_rfl)) h1 bel lt1) (trodAll_cons_mk (Below.trod laidOut (by kernel_rfl) (of_decide_eq_true (by kernel_rfl)) h2 bel lt2) trodAll_mk0))), rfl, bel.frame _, fun h => by cases h⟩

theorem over : Rows.octetSwapsRow.holds Try.pinned (OpenSpec.ofChange Rows.octetSwapsSpec) :=
  OpenClaim.holds_of_wide 3 Try.f3 rfl rfl rfl rfl rfl rfl rfl ⟨rfl, rfl, rfl, rfl, rfl⟩ rfl rfl rfl rfl rfl (by kernel_rfl) Try.func3 (by kernel_rfl)
    (of_decide_eq_true (by kernel_rfl)) (by unfold Func.isWrapper; first | (rw [if_pos (by decide +kernel)]; kernel_rfl) | (rw [if_neg (by decide +kernel)]; exact ⟨rfl, rfl⟩))
    (fun os started H enc _ => lifted os started H enc)

end Go.Proofs.Ytcbhfdhnggdgbab.octetSwaps
namespace Go.Proofs.Ytcbhfdhnggdgbab
theorem octetSwaps_holds : Rows.OctetSwapsSaid := octetSwaps.over
#print axioms octetSwaps_holds
end Go.Proofs.Ytcbhfdhnggdgbab
