/- TraceApartly: for all lists of steps and subscribers the call returns true: grants and releases that take turns make spans that do not meet. No condition. -/
import Derived.Test.YtkkcpofaiocjpaaTraTurns
import Derived.Test.YtkkcpofaiocjpaaRows
set_option maxRecDepth 100000
namespace Go.Proofs.Ytkkcpofaiocjpaa.traceApartly
open Go.ChangeShapes Go.WideShapes Go.ChangeAt Go.RowKit

theorem and7_bd (g : Int) : 0 ≤ bits .and .u8 g 7 ∧ bits .and .u8 g 7 < 256 := by
  show 0 ≤ IntKind.u8.wrap ((BitVec.ofInt 8 g &&& BitVec.ofInt 8 7).toNat : Int) ∧ IntKind.u8.wrap ((BitVec.ofInt 8 g &&& BitVec.ofInt 8 7).toNat : Int) < 256
  simp [IntKind.wrap, IntKind.bits, IntKind.signed]
  omega

set_option maxHeartbeats 8000000 in
theorem walk (v0 v1 : Value) (w : World) (V0 : IsBts w v0) (V1 : IsUs w v1) :
    Calls Try.prog 8 #[v0, v1] w fun e w' => e = .returned (.bool true) ∧ Below w.heap.size w w' := by
  obtain ⟨ss, hb, _⟩ := V0
  obtain ⟨B, O, us, hu, hub⟩ := V1
  obtain ⟨a0, cap0, b0, o0, rfl, g1, g2, g3, g4, g5⟩ := hb
  obtain ⟨a1, cap1, rfl, f1, f2, f3, f4⟩ := hu
  have G5 : Hid (Sees w b0 o0 ss) := g5
  have G3 : Hid (isBytes ss) := g3
  have F4 : Hid (∀ i, i < us.length → w.cell? ⟨B, O + i, none⟩ = some (.int .u32 (us.getD i 0))) := f4
  have FU : Hid (∀ x ∈ us, 0 ≤ x ∧ x < 4294967296) := hub
  unfold maxLen at g2 f2
  clear g5 g3 f4 hub
  by_cases hbig : 200 < ss.length
  · have hI : (200 : Int) < (ss.length : Int) := by omega
    go_enter Try.func8, Try.ntmps8
    go_wp2_with (go_at_call 9; refine (awake10_any _).mono ?_; rintro e w1 ⟨rfl, hb1⟩)
    go_ret
    exact ⟨rfl, hb1⟩
  have hI : ¬ (200 : Int) < (ss.length : Int) := by omega
  go_enter Try.func8, Try.ntmps8
  go_wp2_with (go_at_call 9; refine (awake10_any _).mono ?_; rintro e w1 ⟨rfl, hb1⟩)
  have HB1 : Hid (Below w.heap.size w w1) := hb1
  clear hb1
  go_loopg [5, 6, 7] ss.length (fun gk lv tv iv wr => ∃ (k : Nat) (L : List En) (T : Int) (v : Value), k + gk = ss.length ∧ v = lv ∧ tv = .int .i64 T ∧ iv = .int .i64 (k : Int) ∧ Turns L T k ∧ EnRow wr w.heap.size v L ∧ Below w.heap.size w wr)
  case atStart => exact ⟨0, [], 0, _, by omega, rfl, rfl, rfl, turns_nil, World.ownsRow_nil _ _ _ _, HB1.out⟩
  case round =>
    obtain ⟨k, L, T, v, hk, rfl, rfl, rfl, hT, hrow, hbel⟩ := hrel
    have HT : Hid (Turns L T k) := hT
    have HR : Hid (EnRow wr w.heap.size v L) := hrow
    have HB : Hid (Below w.heap.size w wr) := hbel
    have ht0 := hT.t0
    have ht1 : T ≤ 1000 * (k : Int) := hT.t1
    clear hT hrow hbel
    by_cases hlt : k < ss.length
    case neg =>
      have hke : k = ss.length := by omega
      subst hke
      obtain ⟨C, hE⟩ := enRow_ens HR.out
      have HS := spans_ok v C 0 L wr hE HT.out.ok (by rw [HT.out.ents]; omega)
      have HA : Hid (apartB (spans L) = true) := HT.out.apart
      have HLn : Hid ((spans L).length = ss.length) := HT.out.len
      have HOk : Hid (OkAll (spans L)) := ok_spans HT.out.ok
      obtain ⟨va, vc, rfl, -⟩ := ownsRow_shape HR.out
      clear hE hlt
      generalize L.length = n at *
      generalize spans L = S at *
      go_wp2_with fail
      refine HS.mono ?_
      rintro e w3 ⟨r, rfl, hR3, hb3⟩
      obtain ⟨D, hsp, -⟩ := spRow_sps hR3
      have HC := apart_ok r D 0 S w3 hsp HOk.out (by rw [HLn.out]; omega)
      rw [HA.out] at HC
      obtain ⟨ra, rc, rfl, -⟩ := ownsRow_shape hR3
      have HB3 : Hid (Below w.heap.size w w3) := HB.out.trans (hb3.mono HB.out.size)
      have hln := HLn.out
      rw [hln] at HC ⊢
      clear hR3 hsp hb3 HS hln
      go_wp2_with (go_at_call 14; refine HC.mono ?_; rintro e w4 ⟨rfl, hb4⟩)
      go_ret
      exact ⟨rfl, HB3.out.trans (hb4.mono HB3.out.size)⟩
    have hltI : (k : Int) < (ss.length : Int) := by omega
    obtain rfl : a0 = some ⟨b0, o0, none⟩ := by
      rcases g4 with g4 | g4
      · exact g4
      · subst g4; simp at hlt
    have hc0 : wr.cell? ⟨b0, o0 + k, none⟩ = some (.int .u8 (ss.getD k 0)) := cell_later HB.out (G5.out k hlt)
    have hg : 0 ≤ ss.getD k 0 ∧ ss.getD k 0 < 256 := G3.out _ (by rw [List.getD_eq_getElem?_getD, List.getElem?_eq_getElem hlt]; exact List.getElem_mem hlt)
    have HC1 : Hid (∀ wx, Below wr.heap.size wr wx → wx.cell? ⟨b0, o0 + k, none⟩ = some (.int .u8 (ss.getD k 0))) := fun wx hx => cell_later hx hc0
    generalize ss.getD k 0 = g at *
    obtain ⟨hg0, hg1⟩ := hg
    have hr := and7_bd g
    have hkr : (k : Int) < 4294967296 := by omega
    have hwu : IntKind.u32.wrap (k : Int) = (k : Int) := by simp [IntKind.wrap, IntKind.bits, IntKind.signed]; omega
    obtain ⟨r, hrr⟩ : ∃ r, bits .and .u8 g 7 = r := ⟨_, rfl⟩
    rw [hrr] at hr
    obtain ⟨hr0, hr1⟩ := hr
    have step : ∀ s : Int, 0 ≤ s → s < 4294967296 → ∃ v1 w2 v2 w3, (Builtin.append_ #[25, 25] 25 #[v, .slice (some ⟨wr.heap.size, 0, none⟩) 1 1]).run Try.prog (wr.alloc (.cells #[.int .i64 2, .int .i64 (T + 1 + g), .int .u32 s, .int .u32 1, .int .i64 2] 41)) = .ok v1 w2 ∧
        (Builtin.append_ #[25, 25] 25 #[v1, .slice (some ⟨w2.heap.size, 0, none⟩) 1 1]).run Try.prog (w2.alloc (.cells #[.int .i64 3, .int .i64 (T + 1 + g + r), .int .u32 0, .int .u32 1, .int .i64 2] 41)) = .ok v2 w3 ∧
        w2.cell? ⟨b0, o0 + k, none⟩ = some (.int .u8 g) ∧ Hid (EnRow w3 w.heap.size v2 (L ++ [⟨2, T + 1 + g, s, 1, 2⟩] ++ [⟨3, T + 1 + g + r, 0, 1, 2⟩])) ∧ Hid (Turns (L ++ [⟨2, T + 1 + g, s, 1, 2⟩] ++ [⟨3, T + 1 + g + r, 0, 1, 2⟩]) (T + 1 + g + r) (k + 1)) ∧ Hid (Below w.heap.size w w3) := fun s hs0 hs1 => by
      obtain ⟨v1, w2, hrun1, hra, hba⟩ := append_en wr w.heap.size v L ⟨2, T + 1 + g, s, 1, 2⟩ HR.out HB.out.size (by rw [HT.out.ents]; omega)
      have hsz2 : w.heap.size ≤ w2.heap.size := Nat.le_trans HB.out.size hba.size
      obtain ⟨v2, w3, hrun2, hrb, hbb⟩ := append_en w2 w.heap.size v1 (L ++ [⟨2, T + 1 + g, s, 1, 2⟩]) ⟨3, T + 1 + g + r, 0, 1, 2⟩ hra hsz2 (by rw [List.length_append, HT.out.ents]; simp; omega)
      have hcb : b0 < w.heap.size := World.block_lt_of_cell? w ⟨b0, o0 + k, none⟩ (G5.out k hlt)
      exact ⟨v1, w2, v2, w3, hrun1, hrun2, by rw [cell_same_block (hba.block b0 hcb)]; exact hc0, hrb, HT.out.step (by omega) hs0 hs1 hg0 hg1 hr0 hr1, (HB.out.trans hba).trans hbb⟩
    by_cases hku : k < us.length
    · have hkuI : (k : Int) < (us.length : Int) := by omega
      obtain rfl : a1 = some ⟨B, O, none⟩ := by
        rcases f3 with f3 | f3
        · exact f3
        · subst f3; simp at hku
      have hcu : wr.cell? ⟨B, O + k, none⟩ = some (.int .u32 (us.getD k 0)) := cell_later HB.out (F4.out k hku)
      have hs := FU.out (us.getD k 0) (by rw [List.getD_eq_getElem?_getD, List.getElem?_eq_getElem hku]; exact List.getElem_mem hku)
      generalize us.getD k 0 = s at *
      obtain ⟨v1, w2, v2, w3, hrun1, hrun2, hc2, HR3, HT3, HB3⟩ := step s hs.1 hs.2
      clear step HT HR HB hs HC1 hlt hku
      go_wp2_with (first
        | (at_builtin; refine append_here _ _ _ rfl ?_; refine wpl_append_run rfl _ _ _ rfl _ _ rfl rfl hrun1 ?_; clear hrun1)
        | (at_builtin; refine append_here _ _ _ rfl ?_; refine wpl_append_run rfl _ _ _ rfl _ _ rfl rfl hrun2 ?_))
      go_roundg (ss.length - (k + 1))
      case rel => exact ⟨k + 1, _, _, _, by omega, rfl, by go_num, by go_num, HT3.out, HR3.out, HB3.out⟩
      case measure => omega
    · have hkuI : ¬ (k : Int) < (us.length : Int) := by omega
      obtain ⟨v1, w2, v2, w3, hrun1, hrun2, hc2, HR3, HT3, HB3⟩ := step (k : Int) (by omega) (by omega)
      clear step HT HR HB HC1 hlt hku
      go_wp2_with (first
        | (at_builtin; refine append_here _ _ _ rfl ?_; refine wpl_append_run rfl _ _ _ rfl _ _ rfl rfl hrun1 ?_; clear hrun1)
        | (at_builtin; refine append_here _ _ _ rfl ?_; refine wpl_append_run rfl _ _ _ rfl _ _ rfl rfl hrun2 ?_))
      go_roundg (ss.length - (k + 1))
      case rel => exact ⟨k + 1, _, _, _, by omega, rfl, by go_num, by go_num, HT3.out, HR3.out, HB3.out⟩
      case measure => omega

set_option maxRecDepth 100000 in
theorem lifted (os : Os) (started : os.Started) (H : Type) (enc : TypeId × Value → H) :
    ReturnsInHanded {} Try.checked os 8 .any (Rows.traceApartlySpec.pre6 enc Try.prog Try.f8 Rows.traceApartlyRow.domain false) (Rows.traceApartlySpec.post enc Try.prog Try.f8 false true false false) := by
  refine returnsInHanded_of_change_sized (C := Try.checked) own started (by kernel_rfl) Try.func8
    (ChangeSpec.witness6 (enc := enc) (C := Try.checked) false ⟨#[], #[.slice none 0 0, .slice none 0 0], []⟩ 8 (by kernel_rfl) (by kernel_rfl) (by kernel_rfl) (by kernel_rfl)) ?_
  intro W base args ds gs before hval0 hW hcnd hsz0 _
  have hval : ∀ (j : Nat) t v, Try.f8.params[j]? = some t → args[j]? = some v → Value.okWide Try.prog W .any base t v := hval0
  have hsz : ∀ n ∈ DataW.weightsEach Try.prog (Try.f8.params.toList ++ Rows.traceApartlySpec.plain.varTypes Try.prog) (ds ++ gs), n ≤ reachBytes := fun n hn => by simpa using List.all_eq_true.1 hsz0 n hn
  have hW' := hW
  obtain ⟨p, q, hA0, hV, rfl, hfz, hnd⟩ := hW
  have hA : DataW.TrodAll enc Try.prog W 0 (fun _ => true) true Try.f8.params.toList args.toList ds p := hA0
  rw [Try.params8] at hA hval hsz
  obtain ⟨v0, vs0, d0, ds0, p0, q0, hargs, rfl, rfl, h0, r0⟩ := trodAll_cons hA
  obtain ⟨v1, vs1, d1, ds1, p1, q1, rfl, rfl, rfl, h1, r1⟩ := trodAll_cons r0
  obtain ⟨rfl, rfl, rfl⟩ := trodAll_nil r1
  obtain rfl : args = #[v0, v1] := by cases args; simp_all
  obtain ⟨rfl, rfl⟩ := trodVars_none hV
  have lt0 : ∀ x ∈ p0, x.block < W.heap.size := by obtain ⟨m, hm⟩ := h0; exact DataW.trod_lt m _ _ _ hm
  have V0 := view26 (hval 0 43 v0 rfl rfl) h0 (fun n hn => hsz n (DataW.weights_mem_each (j := 0) rfl rfl n hn))
  have lt1 : ∀ x ∈ p1, x.block < W.heap.size := by obtain ⟨m, hm⟩ := h1; exact DataW.trod_lt m _ _ _ hm
  have V1 := viewUs (hval 1 27 v1 rfl rfl) h1 (fun n hn => hsz n (DataW.weights_mem_each (j := 1) rfl rfl n hn))
  clear hA0 hval0 hsz0 hsz
  refine (walk v0 v1 W V0 V1).mono fun e W' ⟨he, bel⟩ => ?_
  subst he
  exact ⟨_, rfl, _, _, _, [], _, [], hW', trodAll_mk1 (shut_bool Try.underlying4 _), (trodAll_cons_mk (Below.trod laidOut (by kernel_rfl) (of_decide_eq_true (by kernel_rfl)) h0 bel lt0) (trodAll_cons_mk (Below.trod laidOut (by kernel_rfl) (of_decide_eq_true (by kernel_rfl)) h1 bel lt1) trodAll_mk0)), rfl, bel.frame _, fun h => by cases h⟩

theorem over : Rows.traceApartlyRow.holds Try.pinned (OpenSpec.ofChange Rows.traceApartlySpec) :=
  OpenClaim.holds_of_wide 8 Try.f8 rfl rfl rfl rfl rfl rfl rfl ⟨rfl, rfl, rfl, rfl, rfl⟩ rfl rfl rfl rfl rfl (by kernel_rfl) Try.func8 (by kernel_rfl)
    (of_decide_eq_true (by kernel_rfl)) (by unfold Func.isWrapper; first | (rw [if_pos (by decide +kernel)]; kernel_rfl) | (rw [if_neg (by decide +kernel)]; exact ⟨rfl, rfl⟩))
    (fun os started H enc _ => lifted os started H enc)

end Go.Proofs.Ytkkcpofaiocjpaa.traceApartly
namespace Go.Proofs.Ytkkcpofaiocjpaa
theorem traceApartly_holds : Rows.TraceApartlySaid := traceApartly.over
#print axioms traceApartly_holds
end Go.Proofs.Ytkkcpofaiocjpaa
