/- OctetSums: for all parts the call returns true: a sum is what the words make, wherever parts begin; its check is 65535 less. No condition. -/
import Derived.Test.YtcbhfdhnggdgbaaParts
import Derived.Test.YtcbhfdhnggdgbaaRsum
import Derived.Laws.AppendOwnNone
namespace Go.Proofs.Ytcbhfdhnggdgbaa.octetSums
open Go.ChangeShapes Go.WideShapes Go.ChangeAt Go.RowKit

set_option maxHeartbeats 2000000 in
theorem walk (v0 : Value) (w : World) (V0 : IsParts w v0) :
    Calls Try.prog 6 #[v0] w fun e w' => e = .returned (.bool true) ∧ Below w.heap.size w w' := by
  obtain ⟨A, B, O, cap, ls, rfl, h2, h3, h4, h5, h6⟩ := V0
  obtain ⟨i0, hi, hz0, hz1, hz2⟩ := info_parts info5
  have h3' := h3
  unfold maxLen at h3'
  go_enter Try.func6, Try.ntmps6
  go_wp2_with fail
  refine (awake_any _).mono ?_
  rintro e w1 ⟨rfl, hb1⟩
  go_wp2
  go_loopw [3, 4] (fun v i wr => ∃ k : Nat, k ≤ ls.length ∧ i = .int .i64 k ∧ Owns wr w.heap.size v (ls.take k).flatten ∧ (ls.take k).flatten.length ≤ 200000 ∧ isBytes (ls.take k).flatten ∧ Below w.heap.size w wr) (fun _ i _ => ls.length - (intOf i).toNat)
  case atStart => exact ⟨0, Nat.zero_le _, rfl, World.ownsRow_nil _ _ _ _, by simp, (fun z hz => by simp at hz), hb1⟩
  case round =>
    obtain ⟨k, hk, rfl, hown, hlF, hbF, hbel⟩ := hrel
    by_cases hlt : k < ls.length
    · obtain ⟨vp, hcell, hbt⟩ := h5 k hlt
      have hcell := cell_later hbel hcell
      have hbt := hbt.later hbel
      obtain ⟨a, c1, b, off, rfl, q1, q2, q3, q4, q5⟩ := hbt
      rcases h4 with rfl | hnil
      case inr => rw [hnil] at hlt; simp at hlt
      have HF : Hid ((ls.take (k + 1)).flatten = (ls.take k).flatten ++ ls.getD k []) := flatten_take_snoc ls k hlt
      have hcap0 := h6 k hlt
      generalize hG : ls.getD k [] = g at *
      clear hG
      generalize hT : (ls.take k).flatten = F at *
      clear hT
      unfold maxLen at q2
      obtain ⟨av, capv, bv, offv, rfl, p2, p3, p4, p5, p6⟩ := hown.bts hbF
      unfold maxLen at p3
      by_cases hlong : (100000 : Int) < (F.length : Int)
      · go_wp2
        go_ret
        exact ⟨rfl, hbel⟩
      by_cases hlong2 : (100000 : Int) < (g.length : Int)
      · go_wp2
        go_ret
        exact ⟨rfl, hbel⟩
      have hsz := hbel.size
      cases a with
      | none =>
        have hg0 : g = [] := by rcases q4 with h | h; cases h; exact h
        subst hg0
        have hc0 := hcap0 0 c1 (by rcases (h5 k hlt) with ⟨vp', hc', -⟩; rw [cell_later hbel hc'] at hcell; rw [hc']; simpa using hcell)
        subst hc0
        go_wp2_with (at_builtin; refine wpList_append_own_none rfl _ _ 26 rfl w.heap.size 5 i0 1 Try.underlying26 hi _ _ _ rfl hown rfl ?_)
        go_roundw
        case rel => exact ⟨k + 1, by omega, by go_num, by rw [HF.out, List.append_nil]; exact hown, by rw [HF.out, List.append_nil]; exact hlF, by rw [HF.out, List.append_nil]; exact hbF, hbel⟩
        case measure => simp [intOf]; omega
      | some ad =>
        have hnews : ∀ j u, (g.map (Value.int .u8))[j]? = some u → wr.cell? (ad.add j) = some u := by
          intro j u hj
          rcases q4 with h | h
          · cases h; exact cells_of_sees q5 j u hj
          · subst h; simp at hj
        have hone := ones_cell g
        obtain ⟨X, hX⟩ : ∃ X, X = g.map (Value.int .u8) := ⟨_, rfl⟩
        have HX : Hid (X = g.map (Value.int .u8)) := hX
        have HXl : Hid (X.length = g.length * 1) := by show X.length = _; rw [hX]; simp
        rw [← hX] at hnews hone
        clear hX
        go_wp2_with (at_builtin; refine wpList_append_own _ rfl _ _ 26 rfl w.heap.size 5 i0 (.int .u8 0) 1 1 Try.underlying26 hi hz0 hz1 hz2 rfl (by decide) _ _ _ rfl hown ad _ _ X rfl HXl.out hnews hone ?c3 ?c4 hsz ?_)
        case c3 => unfold maxLen; omega
        case c4 => omega
        intro v' w2 hown' hgrow _
        have R1 : Owns w2 w.heap.size v' (F ++ g) := by
          unfold Owns; rw [HX.out] at hown'; simpa using hown'
        have R2 : Below w.heap.size w w2 := hbel.grown hgrow hsz (fun j hj => (hown.lt j hj).1)
        clear hown' hgrow hnews hone
        go_wp2
        go_roundw
        case rel => exact ⟨k + 1, by omega, by go_num, by rw [HF.out]; exact R1, by rw [HF.out]; simp; omega, by rw [HF.out]; exact isBytes_append hbF q3, R2⟩
        case measure => simp [intOf]; omega
    · have hke : k = ls.length := by omega
      subst hke
      rw [List.take_length] at hown hlF hbF
      have e1 := turn_fold (ws ls.flatten)
      have hfb := fold16_bd (ws ls.flatten)
      have hp := h5.later hbel
      have hbt := hown.bts hbF
      obtain ⟨av, N, capv, rfl⟩ := hbt.shape
      clear hown
      have E1 : Hid (turn16 (fold16 (ws ls.flatten)) = 65535 - fold16 (ws ls.flatten)) := e1
      clear e1
      go_wp2_with fail
      refine (rsum_any A B O cap ls _ h2 h3 h4 hp (by omega) hbF).mono ?_
      rintro e w3 ⟨rfl, rfl⟩
      go_wp2_with fail
      refine (sum_any A B O cap ls _ h2 h3 h4 hp (by omega) hbF).mono ?_
      rintro e w4 ⟨rfl, rfl⟩
      go_wp2_with fail
      refine (sum_one _ _ _ ls.flatten 26 rfl hbt (by omega)).mono ?_
      rintro e w5 ⟨rfl, rfl⟩
      go_wp2_with fail
      refine (check_any A B O cap ls _ h2 h3 h4 (hp.later (below_alloc _ _)) (by omega) hbF).mono ?_
      rintro e w6 ⟨rfl, rfl⟩
      rw [E1.out]
      go_wp2_with fail
      refine (check_one _ _ _ ls.flatten 26 (by simp) (hbt.later (below_alloc _ _)) (by omega)).mono ?_
      rintro e w7 ⟨rfl, rfl⟩
      rw [E1.out]
      go_wp2
      go_ret
      exact ⟨rfl, by repeat (first | exact hbel | refine Below.alloc ?_ (by have := hbel.size; simp; omega) _)⟩

set_option maxRecDepth 100000 in
theorem lifted (os : Os) (started : os.Started) (H : Type) (enc : TypeId × Value → H) :
    ReturnsInHanded {} Try.checked os 6 .any (Rows.octetSumsSpec.pre6 enc Try.prog Try.f6 Rows.octetSumsRow.domain false) (Rows.octetSumsSpec.post enc Try.prog Try.f6 false true false false) := by
  refine returnsInHanded_of_change_sized (C := Try.checked) own started (by kernel_rfl) Try.func6
    (ChangeSpec.witness6 (enc := enc) (C := Try.checked) false ⟨#[], #[.slice none 0 0], []⟩ 8 (by kernel_rfl) (by kernel_rfl) (by kernel_rfl) (by kernel_rfl)) ?_
  intro W base args ds gs before hval0 hW hcnd hsz0 _
  have hval : ∀ (j : Nat) t v, Try.f6.params[j]? = some t → args[j]? = some v → Value.okWide Try.prog W .any base t v := hval0
  have hsz : ∀ n ∈ DataW.weightsEach Try.prog (Try.f6.params.toList ++ Rows.octetSumsSpec.plain.varTypes Try.prog) (ds ++ gs), n ≤ reachBytes := fun n hn => by simpa using List.all_eq_true.1 hsz0 n hn
  have hW' := hW
  obtain ⟨p, q, hA0, hV, rfl, hfz, hnd⟩ := hW
  have hA : DataW.TrodAll enc Try.prog W 0 (fun _ => true) true Try.f6.params.toList args.toList ds p := hA0
  rw [Try.params6] at hA hval hsz
  obtain ⟨v0, vs0, d0, ds0, p0, q0, hargs, rfl, rfl, h0, r0⟩ := trodAll_cons hA
  obtain ⟨rfl, rfl, rfl⟩ := trodAll_nil r0
  obtain rfl : args = #[v0] := by cases args; simp_all
  obtain ⟨rfl, rfl⟩ := trodVars_none hV
  have lt0 : ∀ x ∈ p0, x.block < W.heap.size := by obtain ⟨m, hm⟩ := h0; exact DataW.trod_lt m _ _ _ hm
  have V0 := view39 (hval 0 39 v0 rfl rfl) h0 (fun n hn => hsz n (DataW.weights_mem_each (j := 0) rfl rfl n hn))
  clear hA0 hval0 hsz0 hsz
  refine (walk v0 W V0).mono fun e W' ⟨he, bel⟩ => ?_
  subst he
  exact ⟨_, rfl, _, _, _, [], _, [], hW', trodAll_mk1 (shut_bool Try.underlying4 _), (trodAll_cons_mk (Below.trod laidOut (by kernel_rfl) (of_decide_eq_true (by kernel_rfl)) h0 bel lt0) trodAll_mk0), rfl, bel.frame _, fun h => by cases h⟩

theorem over : Rows.octetSumsRow.holds Try.pinned (OpenSpec.ofChange Rows.octetSumsSpec) :=
  OpenClaim.holds_of_wide 6 Try.f6 rfl rfl rfl rfl rfl rfl rfl ⟨rfl, rfl, rfl, rfl, rfl⟩ rfl rfl rfl rfl rfl (by kernel_rfl) Try.func6 (by kernel_rfl)
    (of_decide_eq_true (by kernel_rfl)) (by unfold Func.isWrapper; first | (rw [if_pos (by decide +kernel)]; kernel_rfl) | (rw [if_neg (by decide +kernel)]; exact ⟨rfl, rfl⟩))
    (fun os started H enc _ => lifted os started H enc)

end Go.Proofs.Ytcbhfdhnggdgbaa.octetSums
namespace Go.Proofs.Ytcbhfdhnggdgbaa
theorem octetSums_holds : Rows.OctetSumsSaid := octetSums.over
#print axioms octetSums_holds
end Go.Proofs.Ytcbhfdhnggdgbaa
