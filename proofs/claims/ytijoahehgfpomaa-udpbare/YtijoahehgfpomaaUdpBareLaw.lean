/- UdpBare: for all datagrams between two addresses the call returns true: a check is 0 just of one that is bare. No condition. -/
import Derived.Test.YtijoahehgfpomaaUdpAwake
namespace Go.Proofs.Ytijoahehgfpomaa.udpBare
open Go.ChangeShapes Go.WideShapes Go.ChangeAt Go.RowKit

set_option maxHeartbeats 1000000 in
theorem walk_big (s d : Int) (u : Ud) (a : Option Addr) (c : Nat) (w : World) (h : 5000 < u.data.length) :
    Calls Try.prog 8 #[sentV s d u (.slice a u.data.length c)] w fun e w' => e = .returned (.bool true) ∧ Below w.heap.size w w' := by
  have h' : (5000 : Int) < (u.data.length : Int) := by omega
  go_enter Try.func8, Try.ntmps8
  go_wp2_with fail
  refine (awake3_any _).mono ?_
  rintro e w1 ⟨rfl, hb1⟩
  have d5 : w1.cell? ⟨w.heap.size, 5, none⟩ = some (.slice a u.data.length c) := box_cell hb1 5 _ rfl
  go_wp2
  go_ret
  exact ⟨rfl, below_trans (below_alloc _ _) hb1⟩

set_option maxHeartbeats 1000000 in
theorem walk_no (s d : Int) (u : Ud) (a : Option Addr) (c : Nat) (w : World) (h : u.data.length ≤ 5000) (hE : ¬ buildU u = 0) :
    Calls Try.prog 8 #[sentV s d u (.slice a u.data.length c)] w fun e w' => e = .returned (.bool true) ∧ Below w.heap.size w w' := by
  have h' : ¬ (5000 : Int) < (u.data.length : Int) := by omega
  have HE : Hid (¬ buildU u = 0) := hE
  obtain ⟨E, hEE⟩ : ∃ E, buildU u = E := ⟨_, rfl⟩
  have hne : (E != 0) = true := by rw [bne_iff_ne, ← hEE]; exact hE
  clear hE
  go_enter Try.func8, Try.ntmps8
  go_wp2_with fail
  refine (awake3_any _).mono ?_
  rintro e w1 ⟨rfl, hb1⟩
  have d0 : w1.cell? ⟨w.heap.size, 0, none⟩ = some (.int .u32 s) := box_cell hb1 0 _ rfl
  have d1 : w1.cell? ⟨w.heap.size, 1, none⟩ = some (.int .u32 d) := box_cell hb1 1 _ rfl
  have d2 : w1.cell? ⟨w.heap.size, 2, none⟩ = some (.int .i64 u.src) := box_cell hb1 2 _ rfl
  have d3 : w1.cell? ⟨w.heap.size, 3, none⟩ = some (.int .i64 u.dst) := box_cell hb1 3 _ rfl
  have d4 : w1.cell? ⟨w.heap.size, 4, none⟩ = some (.bool u.bare) := box_cell hb1 4 _ rfl
  have d5 : w1.cell? ⟨w.heap.size, 5, none⟩ = some (.slice a u.data.length c) := box_cell hb1 5 _ rfl
  go_wp2_with fail
  refine (ubuild_no s d u a c _ (by omega) HE.out).mono ?_
  rintro e w2' ⟨rfl, hb2⟩
  rw [hEE]
  clear d0 d1 d2 d3 d4 d5 hEE
  go_wp2
  go_quiet (fail)
  go_wp2
  go_ret
  exact ⟨rfl, below_drewN (below_trans (below_alloc _ _) (below_trans hb1 hb2)) _⟩

set_option maxHeartbeats 1000000 in
theorem walk_ok (s d : Int) (u : Ud) (a : Option Addr) (c : Nat) (w : World) (s0 : 0 ≤ s) (s1 : s < 4294967296) (t0 : 0 ≤ d) (t1 : d < 4294967296) (f : UFits u) (hD : Bts w (.slice a u.data.length c) u.data) :
    Calls Try.prog 8 #[sentV s d u (.slice a u.data.length c)] w fun e w' => e = .returned (.bool true) ∧ Below w.heap.size w w' := by
  have hlen := f.all
  have HF : Hid (UFits u) := f
  have h' : ¬ (5000 : Int) < (u.data.length : Int) := by omega
  go_enter Try.func8, Try.ntmps8
  go_wp2_with fail
  refine (awake3_any _).mono ?_
  rintro e w1 ⟨rfl, hb1⟩
  have d0 : w1.cell? ⟨w.heap.size, 0, none⟩ = some (.int .u32 s) := box_cell hb1 0 _ rfl
  have d1 : w1.cell? ⟨w.heap.size, 1, none⟩ = some (.int .u32 d) := box_cell hb1 1 _ rfl
  have d2 : w1.cell? ⟨w.heap.size, 2, none⟩ = some (.int .i64 u.src) := box_cell hb1 2 _ rfl
  have d3 : w1.cell? ⟨w.heap.size, 3, none⟩ = some (.int .i64 u.dst) := box_cell hb1 3 _ rfl
  have d4 : w1.cell? ⟨w.heap.size, 4, none⟩ = some (.bool u.bare) := box_cell hb1 4 _ rfl
  have d5 : w1.cell? ⟨w.heap.size, 5, none⟩ = some (.slice a u.data.length c) := box_cell hb1 5 _ rfl
  have hbw := below_trans (below_alloc w (.cells (sentC s d u (.slice a u.data.length c)) 37)) hb1
  go_wp2_with fail
  refine (ubuild_ok s d u a c _ s0 s1 t0 t1 HF.out (hD.later hbw)).mono ?_
  rintro e w2' ⟨v, rfl, ⟨g, cap, rfl, -, h3, h4, -, hs, -⟩, hb2⟩
  rw [builtU_length] at h3 ⊢
  have hbb := below_trans hbw hb2
  have e4 : w2'.cell? ⟨w.heap.size, 4, none⟩ = some (.bool u.bare) := cell_later hb2 d4
  have c6 : w2'.cell? ⟨g, 6, none⟩ = some (.int .u8 (fieldU s d u / 256 % 256)) := hs 6 (by rw [builtU_length]; omega)
  have c7 : w2'.cell? ⟨g, 7, none⟩ = some (.int .u8 (fieldU s d u % 256)) := hs 7 (by rw [builtU_length]; omega)
  have hfb := fieldU_bd s d u
  have hf := fieldU_bare s d u
  have i6 : (6 : Int) < 8 + (u.data.length : Int) := by omega
  have i7 : (7 : Int) < 8 + (u.data.length : Int) := by omega
  clear hs hb1 hbw hb2 d0 d1 d2 d3 d4 d5 hD f
  generalize fieldU s d u = F at *
  cases hu : u.bare
  · rw [hu] at hf e4
    have hF : F ≠ 0 := fun h => by have := hf.1 h; cases this
    by_cases h6 : F / 256 % 256 = 0
    · have h7 : (F % 256 == 0) = false := by rw [beq_eq_false_iff_ne]; omega
      have h6' : (F / 256 % 256 == 0) = true := by rw [beq_iff_eq]; exact h6
      clear hf hF hfb h6
      generalize F / 256 % 256 = x at *
      generalize F % 256 = y at *
      go_wp2
      go_quiet (fail)
      go_wp2
      go_ret
      exact ⟨rfl, below_drewN hbb _⟩
    · have h6' : (F / 256 % 256 == 0) = false := by rw [beq_eq_false_iff_ne]; exact h6
      clear hf hF hfb h6
      generalize F / 256 % 256 = x at *
      generalize F % 256 = y at *
      go_wp2
      go_quiet (fail)
      go_wp2
      go_ret
      exact ⟨rfl, below_drewN hbb _⟩
  · rw [hu] at hf e4
    have hF : F = 0 := hf.2 rfl
    subst hF
    clear hf hfb
    have c6 : w2'.cell? ⟨g, 6, none⟩ = some (.int .u8 0) := c6
    have c7 : w2'.cell? ⟨g, 7, none⟩ = some (.int .u8 0) := c7
    go_wp2
    go_quiet (fail)
    go_wp2
    go_ret
    exact ⟨rfl, below_drewN hbb _⟩

theorem walk (v0 : Value) (w : World) (V0 : IsSent w v0) :
    Calls Try.prog 8 #[v0] w fun e w' => e = .returned (.bool true) ∧ Below w.heap.size w w' := by
  obtain ⟨s, d, u, a, c, rfl, s0, s1, t0, t1, hD, -⟩ := V0
  by_cases h1 : 5000 < u.data.length
  · exact walk_big s d u a c w h1
  by_cases h2 : buildU u = 0
  · exact walk_ok s d u a c w s0 s1 t0 t1 (ufits_of u h2) hD
  · exact walk_no s d u a c w (by omega) h2

set_option maxRecDepth 100000 in
theorem lifted (os : Os) (started : os.Started) (H : Type) (enc : TypeId × Value → H) :
    ReturnsInHanded {} Try.checked os 8 .any (Rows.udpBareSpec.pre6 enc Try.prog Try.f8 Rows.udpBareRow.domain false) (Rows.udpBareSpec.post enc Try.prog Try.f8 false true false false) := by
  refine returnsInHanded_of_change_sized (C := Try.checked) own started (by kernel_rfl) Try.func8
    (ChangeSpec.witness6 (enc := enc) (C := Try.checked) false ⟨#[], #[.agg #[.int .u32 0, .int .u32 0, .int .i64 0, .int .i64 0, .bool false, .slice none 0 0]], []⟩ 8 (by kernel_rfl) (by kernel_rfl) (by kernel_rfl) (by kernel_rfl)) ?_
  intro W base args ds gs before hval0 hW hcnd hsz0 _
  have hval : ∀ (j : Nat) t v, Try.f8.params[j]? = some t → args[j]? = some v → Value.okWide Try.prog W .any base t v := hval0
  have hsz : ∀ n ∈ DataW.weightsEach Try.prog (Try.f8.params.toList ++ Rows.udpBareSpec.plain.varTypes Try.prog) (ds ++ gs), n ≤ reachBytes := fun n hn => by simpa using List.all_eq_true.1 hsz0 n hn
  have hW' := hW
  obtain ⟨p, q, hA0, hV, rfl, hfz, hnd⟩ := hW
  have hA : DataW.TrodAll enc Try.prog W 0 (fun _ => true) true Try.f8.params.toList args.toList ds p := hA0
  rw [Try.params8] at hA hval hsz
  obtain ⟨v0, vs0, d0, ds0, p0, q0, hargs, rfl, rfl, h0, r0⟩ := trodAll_cons hA
  obtain ⟨rfl, rfl, rfl⟩ := trodAll_nil r0
  obtain rfl : args = #[v0] := by cases args; simp_all
  obtain ⟨rfl, rfl⟩ := trodVars_none hV
  have lt0 : ∀ x ∈ p0, x.block < W.heap.size := by obtain ⟨m, hm⟩ := h0; exact DataW.trod_lt m _ _ _ hm
  have V0 := viewSent (hval 0 37 v0 rfl rfl) h0 (fun n hn => hsz n (DataW.weights_mem_each (j := 0) rfl rfl n hn))
  clear hA0 hval0 hsz0 hsz
  refine (walk v0 W V0).mono fun e W' ⟨he, bel⟩ => ?_
  subst he
  exact ⟨_, rfl, _, _, _, [], _, [], hW', trodAll_mk1 (shut_bool Try.underlying4 _), (trodAll_cons_mk (Below.trod laidOut (by kernel_rfl) (of_decide_eq_true (by kernel_rfl)) h0 bel lt0) trodAll_mk0), rfl, bel.frame _, fun h => by cases h⟩

theorem over : Rows.udpBareRow.holds Try.pinned (OpenSpec.ofChange Rows.udpBareSpec) :=
  OpenClaim.holds_of_wide 8 Try.f8 rfl rfl rfl rfl rfl rfl rfl ⟨rfl, rfl, rfl, rfl, rfl⟩ rfl rfl rfl rfl rfl (by kernel_rfl) Try.func8 (by kernel_rfl)
    (of_decide_eq_true (by kernel_rfl)) (by unfold Func.isWrapper; first | (rw [if_pos (by decide +kernel)]; kernel_rfl) | (rw [if_neg (by decide +kernel)]; exact ⟨rfl, rfl⟩))
    (fun os started H enc _ => lifted os started H enc)

end Go.Proofs.Ytijoahehgfpomaa.udpBare
namespace Go.Proofs.Ytijoahehgfpomaa
theorem udpBare_holds : Rows.UdpBareSaid := udpBare.over
#print axioms udpBare_holds
end Go.Proofs.Ytijoahehgfpomaa
