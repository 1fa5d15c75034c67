/- FrameReads: for all bytes the call returns true: what the frame is, or why it is none. No condition. -/
import Derived.Test.YtdejjokgchbgnaaM9
import Derived.Test.YtdejjokgchbgnaaM11
set_option maxRecDepth 100000
namespace Go.Proofs.Ytdejjokgchbgnaa.frameReads
open Go.ChangeShapes Go.WideShapes Go.ChangeAt Go.RowKit

theorem walk_big (a : Option Addr) (len cap : Nat) (w : World) (h : 5000 < len) :
    Calls Try.prog 4 #[.slice a len cap] w fun e w' => e = .returned (.bool true) ∧ Below w.heap.size w w' := by
  have h' : (5000 : Int) < len := by omega
  go_enter Try.func4, Try.ntmps4
  go_wp2_with fail
  refine (awake6_any _).mono ?_
  rintro e w1 ⟨rfl, hb1⟩
  go_wp2
  go_ret
  exact ⟨rfl, hb1⟩

/-- The load of a whole frame, where its guard is on. -/
theorem load_want {ops : Array Oper} {rest : List Oper} {op : Oper} {a : Act} {w : World} {Q : Exit → Act → World → Prop} (hw : Region.wanted op (yielded ops a.tmps) = true) (x : Operand) (ho : op.op = .load 37 x)
    (n : Nat) (hx : a.eval x = .pointer (some ⟨n, 0, none⟩)) (C : Array Value) (hF : FC w n C) (hC : C.size = 22)
    (h : wpList Try.prog ops Q rest (a.put op.dst (.agg C)) w) : wpList Try.prog ops Q (op :: rest) a w :=
  wpList_step fun K hK => by
    rw [if_pos hw]
    refine wp_load_mid (P := Try.prog) 37 x ho n 0 hx C.toList _ hF.range Try.underlying37 rfl (by rw [Array.length_toList, hC]; exact infoF) ?_
    rw [Array.toArray_toList]
    exact hK _ _ h

/-- What a reader answers. -/
def Answers (f : Nat) (v : Value) (p : Dg) (r : Rs) (y : Int) (W : World) : Prop :=
  Calls Try.prog f #[v] W fun e w' => ∃ a1 n1 k1 a2 n2 k2 C, e = .returned (.tuple #[.agg C, .int .i64 y]) ∧ Hid (C = frC p (.slice a1 n1 k1) (.slice a2 n2 k2) r) ∧ Bts w' (.slice a1 n1 k1) p.opts ∧ Bts w' (.slice a2 n2 k2) p.body ∧ Below W.heap.size W w'

set_option maxHeartbeats 4000000 in
theorem walk_same (a : Option Addr) (len cap : Nat) (p : Dg) (r : Rs) (y : Int) (w : World) (h : len ≤ 5000)
    (hq : ∀ W, Below w.heap.size w W → Answers 12 (.slice a len cap) p r y W) (hr : ∀ W, Below w.heap.size w W → Answers 13 (.slice a len cap) p r y W) :
    Calls Try.prog 4 #[.slice a len cap] w fun e w' => e = .returned (.bool true) ∧ Below w.heap.size w w' := by
  have h' : ¬ (5000 : Int) < len := by omega
  go_enter Try.func4, Try.ntmps4
  go_wp2_with fail
  refine (awake6_any _).mono ?_
  rintro e w1 ⟨rfl, hb1⟩
  go_wp2_with fail
  refine Calls.mono (hq _ hb1) ?_
  rintro e w2 ⟨a1, n1, k1, a2, n2, k2, C, rfl, HC, hB1, hB2, hb2⟩
  have hC22 : C.size = 22 := congrArg Array.size HC.out
  obtain ⟨W3, F3, hb3, hst3⟩ := fr_var w2 C hC22 (by rw [HC.out]; exact oneFr _ _ _ _ _ _ _ _)
  have hx3 := below_trans hb1 (below_trans hb2 hb3)
  have hs3 := hb3.size
  have hlt : w2.heap.size < W3.heap.size := World.block_lt_of_cell? W3 _ (F3.c 0 _ (by rw [HC.out]; rfl))
  go_wp2_with fail
  refine Calls.mono (hr _ hx3) ?_
  rintro e w4 ⟨a3, n3, k3, a4, n4, k4, D, rfl, HD, hB3, hB4, hb4⟩
  have hD22 : D.size = 22 := congrArg Array.size HD.out
  obtain ⟨W5, G5, hb5, hst5⟩ := fr_var w4 D hD22 (by rw [HD.out]; exact oneFr _ _ _ _ _ _ _ _)
  have hx5 := below_trans hx3 (below_trans hb4 hb5)
  have F5 := F3.later hlt (below_trans hb4 hb5)
  have q1 := hB1.later (below_trans hb3 (below_trans hb4 hb5))
  have q2 := hB2.later (below_trans hb3 (below_trans hb4 hb5))
  have q3 := hB3.later hb5
  have q4 := hB4.later hb5
  have hsm := rsame_one p r a1 a2 a3 a4 n1 n2 n3 n4 k1 k2 k3 k4 W5 q1 q2 q3 q4
  clear hq hr hb1 hb2 hb3 hb4 hb5 F3 hx3 hs3 hlt hB1 hB2 hB3 hB4 q1 q2 q3 q4 hst3
  go_wp2_with (first | (refine load_want rfl (.tmp 3) rfl w2.heap.size rfl C F5 hC22 ?_) | (refine load_want rfl (.tmp 5) rfl w4.heap.size rfl D G5 hD22 ?_))
  rw [HC.out, HD.out]
  refine hsm.mono ?_
  rintro e w6 ⟨rfl, hb6⟩
  go_wp2
  go_ret
  exact ⟨rfl, below_trans hx5 hb6⟩

theorem walk (v0 : Value) (w : World) (V0 : IsBts w v0) :
    Calls Try.prog 4 #[v0] w fun e w' => e = .returned (.bool true) ∧ Below w.heap.size w w' := by
  obtain ⟨l, ⟨a, cap, b, off, rfl, h2, h3, h4, h5, h6⟩, -⟩ := V0
  have hA : At w b off l.length cap l := ⟨h2, h3, rfl, h4, h6⟩
  by_cases h1 : 5000 < l.length
  · exact walk_big a l.length cap w h1
  by_cases hy : (readR l).why = 0
  · obtain ⟨hE, -, -⟩ := readR_ok l hy
    have hl := (good_of l hE).b
    rcases h5 with rfl | rfl
    case inr => simp at hl
    refine walk_same _ l.length cap (dgOf l) (readR l) 0 w (by omega) (fun W hW => ?_) (fun W hW => ?_)
    · refine (read_ok b off l.length cap l W (hA.later hW) hy).mono ?_
      rintro e w' ⟨a1, k1, a2, k2, rfl, q1, q2, hb⟩
      exact ⟨a1, _, k1, a2, _, k2, _, rfl, (rfl : _ = _), q1, q2, hb⟩
    · refine (rread_ok b off l.length cap l W (hA.later hW) hy).mono ?_
      rintro e w' ⟨a1, k1, a2, k2, C, rfl, HC, q1, q2, hb⟩
      exact ⟨a1, _, k1, a2, _, k2, C, rfl, HC, q1, q2, hb⟩
  · refine walk_same a l.length cap Dg.zero (noRs 0) (readR l).why w (by omega) (fun W hW => ?_) (fun W hW => ?_)
    · refine (read_no a b off l.length cap l W h5 (hA.later hW) hy).mono ?_
      rintro e w' ⟨rfl, hb⟩
      exact ⟨none, 0, 0, none, 0, 0, _, rfl, (rfl : _ = _), bts_nil _, bts_nil _, hb⟩
    · refine (rread_no a b off l.length cap l W h5 (hA.later hW) hy).mono ?_
      rintro e w' ⟨rfl, hb⟩
      exact ⟨none, 0, 0, none, 0, 0, _, rfl, (rfl : _ = _), bts_nil _, bts_nil _, hb⟩

set_option maxRecDepth 100000 in
theorem lifted (os : Os) (started : os.Started) (H : Type) (enc : TypeId × Value → H) :
    ReturnsInHanded {} Try.checked os 4 .any (Rows.frameReadsSpec.pre6 enc Try.prog Try.f4 Rows.frameReadsRow.domain false) (Rows.frameReadsSpec.post enc Try.prog Try.f4 false true false false) := by
  refine returnsInHanded_of_change_sized (C := Try.checked) own started (by kernel_rfl) Try.func4
    (ChangeSpec.witness6 (enc := enc) (C := Try.checked) false ⟨#[], #[.slice none 0 0], []⟩ 8 (by kernel_rfl) (by kernel_rfl) (by kernel_rfl) (by kernel_rfl)) ?_
  intro W base args ds gs before hval0 hW hcnd hsz0 _
  have hval : ∀ (j : Nat) t v, Try.f4.params[j]? = some t → args[j]? = some v → Value.okWide Try.prog W .any base t v := hval0
  have hsz : ∀ n ∈ DataW.weightsEach Try.prog (Try.f4.params.toList ++ Rows.frameReadsSpec.plain.varTypes Try.prog) (ds ++ gs), n ≤ reachBytes := fun n hn => by simpa using List.all_eq_true.1 hsz0 n hn
  have hW' := hW
  obtain ⟨p, q, hA0, hV, rfl, hfz, hnd⟩ := hW
  have hA : DataW.TrodAll enc Try.prog W 0 (fun _ => true) true Try.f4.params.toList args.toList ds p := hA0
  rw [Try.params4] at hA hval hsz
  obtain ⟨v0, vs0, d0, ds0, p0, q0, hargs, rfl, rfl, h0, r0⟩ := trodAll_cons hA
  obtain ⟨rfl, rfl, rfl⟩ := trodAll_nil r0
  obtain rfl : args = #[v0] := by cases args; simp_all
  obtain ⟨rfl, rfl⟩ := trodVars_none hV
  have lt0 : ∀ x ∈ p0, x.block < W.heap.size := by obtain ⟨m, hm⟩ := h0; exact DataW.trod_lt m _ _ _ hm
  have V0 := view26 (hval 0 23 v0 rfl rfl) h0 (fun n hn => hsz n (DataW.weights_mem_each (j := 0) rfl rfl n hn))
  clear hA0 hval0 hsz0 hsz
  refine (walk v0 W V0).mono fun e W' ⟨he, bel⟩ => ?_
  subst he
  exact ⟨_, rfl, _, _, _, [], _, [], hW', trodAll_mk1 (shut_bool Try.underlying4 _), (trodAll_cons_mk (Below.trod laidOut (by kernel_rfl) (of_decide_eq_true (by kernel_rfl)) h0 bel lt0) trodAll_mk0), rfl, bel.frame _, fun h => by cases h⟩

theorem over : Rows.frameReadsRow.holds Try.pinned (OpenSpec.ofChange Rows.frameReadsSpec) :=
  OpenClaim.holds_of_wide 4 Try.f4 rfl rfl rfl rfl rfl rfl rfl ⟨rfl, rfl, rfl, rfl, rfl⟩ rfl rfl rfl rfl rfl (by kernel_rfl) Try.func4 (by kernel_rfl)
    (of_decide_eq_true (by kernel_rfl)) (by unfold Func.isWrapper; first | (rw [if_pos (by decide +kernel)]; kernel_rfl) | (rw [if_neg (by decide +kernel)]; exact ⟨rfl, rfl⟩))
    (fun os started H enc _ => lifted os started H enc)

end Go.Proofs.Ytdejjokgchbgnaa.frameReads
namespace Go.Proofs.Ytdejjokgchbgnaa
theorem frameReads_holds : Rows.FrameReadsSaid := frameReads.over
#print axioms frameReads_holds
end Go.Proofs.Ytdejjokgchbgnaa
