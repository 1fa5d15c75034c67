/- OctetUpdates: for all bytes, places and words the call returns true: a check that is brought along with a word that changes is the check of the bytes as they are then, unless all of them are 0. No condition. -/
import Derived.Test.YtcbhfdhnggdgbaaPut
namespace Go.Proofs.Ytcbhfdhnggdgbaa.octetUpdates
open Go.ChangeShapes Go.WideShapes Go.ChangeAt Go.RowKit

set_option maxHeartbeats 2000000 in
theorem walk_out (a : Option Addr) (len cap : Nat) (p n : Int) (w : World) (hl : len ≤ 140737488351232) (hp : -9223372036854775808 ≤ p ∧ p < 9223372036854775808)
    (h : 100000 < (len : Int) ∨ p < 0 ∨ p.tmod 2 ≠ 0 ∨ (len : Int) - 2 < p ∨ n < 0 ∨ 65535 < n) :
    Calls Try.prog 8 #[.slice a len cap, .int .i64 p, .int .i64 n] w fun e w' => e = .returned (.bool true) ∧ Below w.heap.size w w' := by
  by_cases g1 : 100000 < (len : Int)
  · clear h
    go_enter Try.func8, Try.ntmps8
    go_wp2_with (go_at_call 9; refine (awake_any _).mono ?_; rintro e w1 ⟨rfl, hb1⟩)
    go_ret
    exact ⟨rfl, hb1⟩
  by_cases g2 : p < 0
  · clear h
    go_enter Try.func8, Try.ntmps8
    go_wp2_with (go_at_call 9; refine (awake_any _).mono ?_; rintro e w1 ⟨rfl, hb1⟩)
    go_ret
    exact ⟨rfl, hb1⟩
  by_cases g3 : p % 2 = 0
  case neg =>
    have g3' : (p % 2 != 0) = true := by rw [bne_iff_ne]; exact g3
    clear h g3
    go_enter Try.func8, Try.ntmps8
    go_wp2_with (go_at_call 9; refine (awake_any _).mono ?_; rintro e w1 ⟨rfl, hb1⟩)
    go_ret
    exact ⟨rfl, hb1⟩
  have g3' : (p % 2 != 0) = false := by simp [g3]
  have h' : (len : Int) - 2 < p ∨ n < 0 ∨ 65535 < n := by
    rcases h with h | h | h | h
    · exact absurd h g1
    · exact absurd h g2
    · rw [Int.tmod_eq_emod_of_nonneg (by omega)] at h; exact absurd g3 h
    · exact h
  clear h g3
  by_cases g4 : (len : Int) - 2 < p
  · clear h'
    go_enter Try.func8, Try.ntmps8
    go_wp2_with (go_at_call 9; refine (awake_any _).mono ?_; rintro e w1 ⟨rfl, hb1⟩)
    go_ret
    exact ⟨rfl, hb1⟩
  by_cases g5 : n < 0
  · clear h'
    go_enter Try.func8, Try.ntmps8
    go_wp2_with (go_at_call 9; refine (awake_any _).mono ?_; rintro e w1 ⟨rfl, hb1⟩)
    go_ret
    exact ⟨rfl, hb1⟩
  have g6 : 65535 < n := by omega
  clear h'
  go_enter Try.func8, Try.ntmps8
  go_wp2_with (go_at_call 9; refine (awake_any _).mono ?_; rintro e w1 ⟨rfl, hb1⟩)
  go_ret
  exact ⟨rfl, hb1⟩

/-- What a word's number is bounded by. -/
theorem getV2_bd (l : List Int) (hb : isBytes l) (p : Nat) (hp : p % 2 = 0) (h : p + 2 ≤ l.length) : 0 ≤ getV l p 2 ∧ getV l p 2 ≤ 65535 ∧ getV l p 2 ≤ ws l := by
  have h1 := ws_lay2 l p 0 hp h
  have h2 := ws_bd (lay l p 2 0) (lay_bytes l p 2 0 hb)
  have hg : getV l p 2 = l.getD p 0 * 256 + l.getD (p + 1) 0 := by
    unfold getV
    have : holdsB l.length p 2 = true := by unfold holdsB; simp; omega
    rw [if_pos this, Int.toNat_natCast]
    show num ((l.drop p).take 2) = _
    rw [take_next l p 1 (by omega), num_snoc, take_next l p 0 (by omega), num_snoc]
    simp [num]
  have b1 := getD_byte l hb p
  have b2 := getD_byte l hb (p + 1)
  omega

set_option maxHeartbeats 4000000 in
theorem walk_in (b off cap : Nat) (l : List Int) (p n : Nat) (w : World) (h2 : l.length ≤ cap) (h3 : cap ≤ maxLen) (h4 : isBytes l) (h6 : Sees w b off l)
    (hr : l.length ≤ 100000) (hpe : p % 2 = 0) (hp : p + 2 ≤ l.length) (hn : n ≤ 65535) :
    Calls Try.prog 8 #[.slice (some ⟨b, off, none⟩) l.length cap, .int .i64 p, .int .i64 n] w fun e w' => e = .returned (.bool true) ∧ Below w.heap.size w w' := by
  have g1 : ¬ 100000 < (l.length : Int) := by omega
  have g2 : ¬ (p : Int) < 0 := by omega
  have g3 : ((p : Int) % 2 != 0) = false := by simp; omega
  have g4 : ¬ (l.length : Int) - 2 < p := by omega
  have g5 : ¬ (n : Int) < 0 := by omega
  have g6 : ¬ 65535 < (n : Int) := by omega
  have hgb := getV2_bd l h4 p hpe hp
  have hh : holdsB l.length p 2 = true := by unfold holdsB; simp; omega
  have hws := ws_lay2 l p n hpe hp
  have hYb := lay_bytes l p 2 n h4
  have hYl := lay_length l p 2 n
  rw [show (n : Int) % 65536 = n by omega] at hws
  go_enter Try.func8, Try.ntmps8
  go_wp2_with fail
  refine (awake_any _).mono ?_
  rintro e w1 ⟨rfl, hb1⟩
  go_wp2_with fail
  refine (get_any _ b off l.length cap l p 2 _ h2 h3 rfl h4 (.inl rfl) (h6.later hb1)).mono ?_
  rintro e w2 ⟨rfl, rfl⟩
  rw [hh]
  have HW : Hid (ws (lay l p 2 n) = ws l - getV l p 2 + n) := hws
  have HYl : Hid ((lay l p 2 n).length = l.length) := hYl
  clear hws hYl hh
  go_wp2_with fail
  refine (put_yes2 b off l.length cap l p 2 2 n _ rfl rfl (h6.later hb1) (by decide) (by decide) hp (by omega) (by omega) (by omega)).mono ?_
  rintro e w3 ⟨G, rfl, hH, hb3⟩
  have g7 := below_trans hb1 hb3
  have hbtb : Bts w3 (.slice (some ⟨b, off, none⟩) l.length cap) l := ⟨_, _, b, off, rfl, h2, h3, h4, .inl rfl, h6.later g7⟩
  go_wp2_with fail
  refine (check_one _ _ _ l 26 rfl hbtb (by omega)).mono ?_
  rintro e w4 ⟨rfl, rfl⟩
  have hH4 : Sees (w3.alloc (.cells #[.slice (some ⟨b, off, none⟩) l.length cap] 26)) G 0 (lay l p 2 n) := by
    have : Sees w3 G 0 (lay l p 2 n) := fun i hi => by rw [Nat.zero_add]; exact hH.cell i (by rw [HYl.out] at hi; exact hi)
    exact this.later (below_alloc _ _)
  have g8 := below_trans g7 (below_alloc w3 (.cells #[.slice (some ⟨b, off, none⟩) l.length cap] 26))
  clear hbtb hH hb3 g7
  generalize hW4 : w3.alloc (.cells #[.slice (some ⟨b, off, none⟩) l.length cap] 26) = w4 at *
  clear hW4
  go_wp2_with fail
  refine (update_any _ _ _ _).mono ?_
  rintro e w5 ⟨rfl, rfl⟩
  generalize hY : lay l p 2 n = Y at *
  clear hY
  generalize hO : getV l p 2 = o at *
  clear hO
  go_wp2
  go_loop [12, 13] (fun bl i => ∃ k : Nat, k ≤ l.length ∧ i = .int .i64 k ∧ bl = .bool (allz (Y.take k))) (fun _ i => l.length - (intOf i).toNat)
  case atStart => exact ⟨0, Nat.zero_le _, rfl, by simp [allz]⟩
  case round =>
    obtain ⟨k, hk, rfl, rfl⟩ := hrel
    by_cases hlt : k < l.length
    · have hc := hH4 k (by rw [HYl.out]; exact hlt)
      rw [Nat.zero_add] at hc
      have hsn := allz_snoc (Y.take k) (Y.getD k 0)
      rw [← take_snoc Y k (by rw [HYl.out]; exact hlt)] at hsn
      have HS : Hid (allz (Y.take (k + 1)) = (allz (Y.take k) && (Y.getD k 0 == 0))) := hsn
      clear hsn
      generalize hC : Y.getD k 0 = c at *
      clear hC
      cases hz : allz (Y.take k)
      · rw [hz] at HS
        clear hz
        go_wp2
        go_round
        case rel => exact ⟨k + 1, by omega, by go_num, by rw [HS.out]; rfl⟩
        case measure => simp [intOf]; omega
      · rw [hz] at HS
        clear hz
        go_wp2
        go_round
        case rel => exact ⟨k + 1, by omega, by go_num, by rw [HS.out]; rfl⟩
        case measure => simp [intOf]; omega
    · have hke : k = l.length := by omega
      subst hke
      have htk : Y.take l.length = Y := by rw [List.take_of_length_le]; rw [HYl.out]; exact Nat.le_refl _
      rw [htk]
      clear htk
      have hbtY : Bts w5 (.slice (some ⟨G, 0, none⟩) l.length l.length) Y := ⟨_, l.length, G, 0, by rw [HYl.out], by rw [HYl.out]; exact Nat.le_refl _, Nat.le_trans h2 h3, hYb, .inl rfl, hH4⟩
      by_cases hpos : 0 < ws l - o + n
      · have E : Hid (upd16 (turn16 (fold16 (ws l))) o n = turn16 (fold16 (ws Y))) := by
          show _ = _
          rw [HW.out]; exact upd_eq (ws l) o n hgb.1 hgb.2.1 hgb.2.2 (by omega) (by omega) hpos
        rw [E.out]
        go_wp2_with (go_at_call 14; refine (check_one _ _ _ Y 26 rfl hbtY (by rw [HYl.out]; omega)).mono ?_; rintro e w6 ⟨rfl, rfl⟩)
        go_ret
        exact ⟨rfl, below_trans g8 (below_alloc _ _)⟩
      · have hz : ws l - o + n = 0 := by omega
        have E : Hid (upd16 (turn16 (fold16 (ws l))) o n = 0) := upd_zero (ws l) o n hgb.1 hgb.2.1 hgb.2.2 (by omega) (by omega) hz
        have E2 : Hid (allz Y = true) := allz_of_ws Y hYb (by rw [HW.out]; exact hz)
        have E3 : Hid (turn16 (fold16 (ws Y)) = 65535) := by show _ = _; rw [HW.out, hz]; decide
        rw [E.out, E2.out]
        go_wp2_with (go_at_call 14; refine (check_one _ _ _ Y 26 rfl hbtY (by rw [HYl.out]; omega)).mono ?_; rw [E3.out]; rintro e w6 ⟨rfl, rfl⟩)
        go_ret
        exact ⟨rfl, below_trans g8 (below_alloc _ _)⟩

theorem walk (v0 v1 v2 : Value) (w : World) (V0 : IsBts w v0) (V1 : IsI64 w v1) (V2 : IsI64 w v2) :
    Calls Try.prog 8 #[v0, v1, v2] w fun e w' => e = .returned (.bool true) ∧ Below w.heap.size w w' := by
  obtain ⟨l, ⟨a, cap, b, off, rfl, h2, h3, h4, h5, h6⟩, hr⟩ := V0
  obtain ⟨p, rfl, hp⟩ := V1
  obtain ⟨n, rfl, hn⟩ := V2
  by_cases h : 100000 < (l.length : Int) ∨ p < 0 ∨ p.tmod 2 ≠ 0 ∨ (l.length : Int) - 2 < p ∨ n < 0 ∨ 65535 < n
  · exact walk_out a l.length cap p n w hr hp h
  · have h1 : 0 ≤ p := by omega
    have h1' : 0 ≤ n := by omega
    rw [Int.tmod_eq_emod_of_nonneg h1] at h
    obtain ⟨p', rfl⟩ := Int.eq_ofNat_of_zero_le h1
    obtain ⟨n', rfl⟩ := Int.eq_ofNat_of_zero_le h1'
    rcases h5 with rfl | rfl
    · exact walk_in b off cap l p' n' w h2 h3 h4 h6 (by omega) (by omega) (by omega) (by omega)
    · simp at h; omega

set_option maxRecDepth 100000 in
theorem lifted (os : Os) (started : os.Started) (H : Type) (enc : TypeId × Value → H) :
    ReturnsInHanded {} Try.checked os 8 .any (Rows.octetUpdatesSpec.pre6 enc Try.prog Try.f8 Rows.octetUpdatesRow.domain false) (Rows.octetUpdatesSpec.post enc Try.prog Try.f8 false true false false) := by
  refine returnsInHanded_of_change_sized (C := Try.checked) own started (by kernel_rfl) Try.func8
    (ChangeSpec.witness6 (enc := enc) (C := Try.checked) false ⟨#[], #[.slice none 0 0, .int .i64 0, .int .i64 0], []⟩ 8 (by kernel_rfl) (by kernel_rfl) (by kernel_rfl) (by kernel_rfl)) ?_
  intro W base args ds gs before hval0 hW hcnd hsz0 _
  have hval : ∀ (j : Nat) t v, Try.f8.params[j]? = some t → args[j]? = some v → Value.okWide Try.prog W .any base t v := hval0
  have hsz : ∀ n ∈ DataW.weightsEach Try.prog (Try.f8.params.toList ++ Rows.octetUpdatesSpec.plain.varTypes Try.prog) (ds ++ gs), n ≤ reachBytes := fun n hn => by simpa using List.all_eq_true.1 hsz0 n hn
  have hW' := hW
  obtain ⟨p, q, hA0, hV, rfl, hfz, hnd⟩ := hW
  have hA : DataW.TrodAll enc Try.prog W 0 (fun _ => true) true Try.f8.params.toList args.toList ds p := hA0
  rw [Try.params8] at hA hval hsz
  obtain ⟨v0, vs0, d0, ds0, p0, q0, hargs, rfl, rfl, h0, r0⟩ := trodAll_cons hA
  obtain ⟨v1, vs1, d1, ds1, p1, q1, rfl, rfl, rfl, h1, r1⟩ := trodAll_cons r0
  obtain ⟨v2, vs2, d2, ds2, p2, q2, rfl, rfl, rfl, h2, r2⟩ := trodAll_cons r1
  obtain ⟨rfl, rfl, rfl⟩ := trodAll_nil r2
  obtain rfl : args = #[v0, v1, v2] := by cases args; simp_all
  obtain ⟨rfl, rfl⟩ := trodVars_none hV
  have lt0 : ∀ x ∈ p0, x.block < W.heap.size := by obtain ⟨m, hm⟩ := h0; exact DataW.trod_lt m _ _ _ hm
  have V0 := view26 (hval 0 26 v0 rfl rfl) h0 (fun n hn => hsz n (DataW.weights_mem_each (j := 0) rfl rfl n hn))
  have lt1 : ∀ x ∈ p1, x.block < W.heap.size := by obtain ⟨m, hm⟩ := h1; exact DataW.trod_lt m _ _ _ hm
  have V1 := view3 (hval 1 3 v1 rfl rfl) h1 (fun n hn => hsz n (DataW.weights_mem_each (j := 1) rfl rfl n hn))
  have lt2 : ∀ x ∈ p2, x.block < W.heap.size := by obtain ⟨m, hm⟩ := h2; exact DataW.trod_lt m _ _ _ hm
  have V2 := view3 (hval 2 3 v2 rfl rfl) h2 (fun n hn => hsz n (DataW.weights_mem_each (j := 2) rfl rfl n hn))
  clear hA0 hval0 hsz0 hsz
  refine (walk v0 v1 v2 W V0 V1 V2).mono fun e W' ⟨he, bel⟩ => ?_
  subst he
  exact ⟨_, rfl, _, _, _, [], _, [], hW', trodAll_mk1 (shut_bool Try.underlying4 _), (trodAll_cons_mk (Below.trod laidOut (by kernel_rfl) (of_decide_eq_true (by kernel_rfl)) h0 bel lt0) (trodAll_cons_mk (Below.trod laidOut (by kernel_rfl) (of_decide_eq_true (by kernel_rfl)) h1 bel lt1) (trodAll_cons_mk (Below.trod laidOut (by kernel_rfl) (of_decide_eq_true (by kernel_rfl)) h2 bel lt2) trodAll_mk0))), rfl, bel.frame _, fun h => by cases h⟩

theorem over : Rows.octetUpdatesRow.holds Try.pinned (OpenSpec.ofChange Rows.octetUpdatesSpec) :=
  OpenClaim.holds_of_wide 8 Try.f8 rfl rfl rfl rfl rfl rfl rfl ⟨rfl, rfl, rfl, rfl, rfl⟩ rfl rfl rfl rfl rfl (by kernel_rfl) Try.func8 (by kernel_rfl)
    (of_decide_eq_true (by kernel_rfl)) (by unfold Func.isWrapper; first | (rw [if_pos (by decide +kernel)]; kernel_rfl) | (rw [if_neg (by decide +kernel)]; exact ⟨rfl, rfl⟩))
    (fun os started H enc _ => lifted os started H enc)

end Go.Proofs.Ytcbhfdhnggdgbaa.octetUpdates
namespace Go.Proofs.Ytcbhfdhnggdgbaa
theorem octetUpdates_holds : Rows.OctetUpdatesSaid := octetUpdates.over
#print axioms octetUpdates_holds
end Go.Proofs.Ytcbhfdhnggdgbaa
