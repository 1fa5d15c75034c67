/- TcpKnown: the call returns true: chapter 4's examples. No input, no condition. -/
import Derived.Test.YtgeeoggbijimoaaTcpAwake
import Derived.Test.YtgeeoggbijimoaaTcpParse2
namespace Go.Proofs.Ytgeeoggbijimoaa.tcpKnown
open Go.ChangeShapes Go.WideShapes Go.ChangeAt Go.RowKit

theorem whole {w : World} {base G len cap : Nat} {L : List Int} (h : Holds8 w base G len cap L) (hb : isBytes L) : At w G 0 len cap L := by
  have h0 := h
  obtain ⟨hl, ho⟩ := h
  rcases ho.2 with ⟨hv, -⟩ | ⟨g, cap', cur, hv, -, -, hn, hm, -, -⟩
  · cases hv
  · simp only [Value.slice.injEq, Option.some.injEq, Addr.mk.injEq, and_true, true_and] at hv
    obtain ⟨-, rfl⟩ := hv
    exact ⟨hn, hm, hl, hb, fun i hi => by rw [Nat.zero_add]; exact h0.cell i (by omega)⟩

def KL : List Int := builtT 16843009 33686018 synP

theorem kl_len : KL.length = 20 := syn_length

theorem kl_bytes : isBytes KL := builtT_bytes _ _ _ syn_ok

theorem kl_good : TGood 16843009 33686018 KL := tgood_built _ _ _ syn_ok syn_arg

theorem kl_pc : pcOf KL = synP := pc_built _ _ _ syn_ok syn_arg

theorem kl_form : parseT 16843009 33686018 (KL.set 12 81) = 4 := by decide

theorem kl_short : parseT 16843009 33686018 ((KL.set 12 81).set 12 96) = 2 := by decide

theorem set_bytes {l : List Int} (h : isBytes l) (i : Nat) (y : Int) (h0 : 0 ≤ y) (h1 : y < 256) : isBytes (l.set i y) := by
  intro z hz
  rcases List.mem_or_eq_of_mem_set hz with h' | rfl
  · exact h z h'
  · exact ⟨h0, h1⟩

set_option maxHeartbeats 4000000 in
theorem walk (w : World) : Calls Try.prog 3 #[] w fun e w' => e = .returned (.bool true) ∧ Below w.heap.size w w' := by
  go_enter Try.func3, Try.ntmps3
  go_wp2_with fail
  refine (awake4_any _).mono ?_
  rintro e w1 ⟨rfl, hb1⟩
  go_wp2_with fail
  refine (tbuild_ok 16843009 33686018 synP none none 0 0 _ (by decide) (by decide) (by decide) (by decide) syn_ok syn_fits (bts_nil _) (bts_nil _)).mono ?_
  rintro e w3 ⟨v, rfl, ⟨g, cap, rfl, -, h3, h4, h5, hs, -⟩, hb3⟩
  have hA : At w3 g 0 20 cap KL := ⟨by rw [syn_length] at h3; exact h3, h4, syn_length, h5, hs⟩
  rw [show (builtT 16843009 33686018 synP).length = 20 from syn_length]
  have hx3 := below_trans hb1 hb3
  clear hs h5 h4 h3 hb1 hb3
  go_wp2_with fail
  refine (tparse_ok' 16843009 33686018 g 0 20 cap KL synP _ (by decide) (by decide) (by decide) (by decide) hA (by decide) kl_good kl_pc).mono ?_
  rintro e w4 ⟨a1, k1, a2, k2, rfl, hv1, hv2, hb4⟩
  have hp4 := below_alloc w4 (.cells (pcC synP (.slice a1 synP.opts.length k1) (.slice a2 synP.data.length k2)) 29)
  have hA4 := hA.later (below_trans hb4 hp4)
  have hx4 := below_trans hx3 (below_trans hb4 hp4)
  clear hA hx3 hb4 hp4 hv1 hv2
  go_wp2_with fail
  refine (copy_any (some ⟨g, 0, none⟩) g 0 20 cap KL _ hA4.cap1 kl_len (.inl rfl) hA4.sees (by decide)).mono ?_
  rintro e w5 ⟨v5, rfl, ho5, hb5⟩
  obtain ⟨G, cg, rfl, hH⟩ := holds8_of_owns (len := 20) ho5 kl_len (by decide)
  obtain ⟨e0, e1, e2, e3, e4, e5, e6, e7, e8⟩ := boxesP hb5
  have hG := hH.base
  have hGn : w4.heap.size ≠ G := by simp only [World.size_alloc] at hG; omega
  have hH1 := hH.store 12 81
  have hA5 := whole hH1 (set_bytes kl_bytes 12 81 (by decide) (by decide))
  have c12 : w5.cell? ⟨G, 12, none⟩ = some (.int .u8 80) := hH.cell 12 (by decide)
  have f12 := hH.2.frozenAt 12
  have hx5 := below_trans hx4 hb5
  have hGw : w.heap.size ≤ G := by have := hx4.size; omega
  have hx5' : Below w.heap.size w (w5.setCell ⟨G, 12, none⟩ (.int .u8 81)) := hx5.setCell (by exact hGw) _
  have hk5 : Below w4.heap.size w4 w4 := Below.refl _ _
  have d1 : (w5.setCell ⟨G, 12, none⟩ (.int .u8 81)).cell? ⟨w4.heap.size, 1, none⟩ = some (.int .i64 21) := (World.cell?_setCell_far _ _ _ _ (by exact Ne.symm hGn)).trans e1
  have d2 : (w5.setCell ⟨G, 12, none⟩ (.int .u8 81)).cell? ⟨w4.heap.size, 2, none⟩ = some (.int .u32 1) := (World.cell?_setCell_far _ _ _ _ (by exact Ne.symm hGn)).trans e2
  have d4 : (w5.setCell ⟨G, 12, none⟩ (.int .u8 81)).cell? ⟨w4.heap.size, 4, none⟩ = some (.int .i64 2) := (World.cell?_setCell_far _ _ _ _ (by exact Ne.symm hGn)).trans e4
  clear e0 e1 e2 e3 e4 e5 e6 e7 e8 hx5 hb5 ho5 hH hk5
  go_wp2_with fail
  refine (tparse_no 16843009 33686018 (some ⟨G, 0, none⟩) G 0 20 cg _ _ (by decide) (by decide) (by decide) (by decide) (.inl rfl) hA5 (by decide) (by rw [kl_form]; decide)).mono ?_
  rintro e w6 ⟨rfl, hb6⟩
  rw [kl_form]
  have hp6 := below_alloc w6 (.cells (pcC Pc.zero (.slice none 0 0) (.slice none 0 0)) 29)
  have hc6 := below_trans hb6 hp6
  have hx6 : Below w.heap.size w (w6.alloc (.cells (pcC Pc.zero (.slice none 0 0) (.slice none 0 0)) 29)) := below_trans hx5' hc6
  have hH6 := hH1.later hc6
  have g1 := cell_later hc6 d1
  have g2 := cell_later hc6 d2
  have g4 := cell_later hc6 d4
  have c6 : (w6.alloc (.cells (pcC Pc.zero (.slice none 0 0) (.slice none 0 0)) 29)).cell? ⟨G, 12, none⟩ = some (.int .u8 81) := by rw [hH6.cell 12 (by decide)]; simp [kl_len]
  have f6 := hH6.2.frozenAt 12
  have hH7 := hH6.store 12 96
  have hA7 := whole hH7 (set_bytes (set_bytes kl_bytes 12 81 (by decide) (by decide)) 12 96 (by decide) (by decide))
  have hx7 : Below w.heap.size w ((w6.alloc (.cells (pcC Pc.zero (.slice none 0 0) (.slice none 0 0)) 29)).setCell ⟨G, 12, none⟩ (.int .u8 96)) := hx6.setCell (by exact hGw) _
  have k1' : ((w6.alloc (.cells (pcC Pc.zero (.slice none 0 0) (.slice none 0 0)) 29)).setCell ⟨G, 12, none⟩ (.int .u8 96)).cell? ⟨w4.heap.size, 1, none⟩ = some (.int .i64 21) := (World.cell?_setCell_far _ _ _ _ (by exact Ne.symm hGn)).trans g1
  have k2' : ((w6.alloc (.cells (pcC Pc.zero (.slice none 0 0) (.slice none 0 0)) 29)).setCell ⟨G, 12, none⟩ (.int .u8 96)).cell? ⟨w4.heap.size, 2, none⟩ = some (.int .u32 1) := (World.cell?_setCell_far _ _ _ _ (by exact Ne.symm hGn)).trans g2
  have k4' : ((w6.alloc (.cells (pcC Pc.zero (.slice none 0 0) (.slice none 0 0)) 29)).setCell ⟨G, 12, none⟩ (.int .u8 96)).cell? ⟨w4.heap.size, 4, none⟩ = some (.int .i64 2) := (World.cell?_setCell_far _ _ _ _ (by exact Ne.symm hGn)).trans g4
  clear hb6 hp6 hc6 hx5' hx6 d1 d2 d4 hH1 hA5
  go_wp2_with fail
  refine (tparse_no 16843009 33686018 (some ⟨G, 0, none⟩) G 0 20 cg _ _ (by decide) (by decide) (by decide) (by decide) (.inl rfl) hA7 (by decide) (by rw [kl_short]; decide)).mono ?_
  rintro e w8 ⟨rfl, hb8⟩
  rw [kl_short]
  have g1' := cell_later hb8 k1'
  have g2' := cell_later hb8 k2'
  have g4' := cell_later hb8 k4'
  have hx8 := below_trans hx7 hb8
  have hlt8 : w4.heap.size < w8.heap.size := World.block_lt_of_cell? w8 _ g1'
  clear k1' k2' k4' hb8 hx7
  go_wp2
  go_ret
  exact ⟨rfl, below_trans hx8 (below_alloc _ _)⟩

set_option maxRecDepth 100000 in
theorem lifted (os : Os) (started : os.Started) (H : Type) (enc : TypeId × Value → H) :
    ReturnsInHanded {} Try.checked os 3 .any (Rows.tcpKnownSpec.pre6 enc Try.prog Try.f3 Rows.tcpKnownRow.domain false) (Rows.tcpKnownSpec.post enc Try.prog Try.f3 false true false false) := by
  refine returnsInHanded_of_change_sized (C := Try.checked) own started (by kernel_rfl) Try.func3
    (ChangeSpec.witness6 (enc := enc) (C := Try.checked) false ⟨#[], #[], []⟩ 8 (by kernel_rfl) (by kernel_rfl) (by kernel_rfl) (by kernel_rfl)) ?_
  intro W base args ds gs before hval0 hW hcnd hsz0 _
  have hval : ∀ (j : Nat) t v, Try.f3.params[j]? = some t → args[j]? = some v → Value.okWide Try.prog W .any base t v := hval0
  have hsz : ∀ n ∈ DataW.weightsEach Try.prog (Try.f3.params.toList ++ Rows.tcpKnownSpec.plain.varTypes Try.prog) (ds ++ gs), n ≤ reachBytes := fun n hn => by simpa using List.all_eq_true.1 hsz0 n hn
  have hW' := hW
  obtain ⟨p, q, hA0, hV, rfl, hfz, hnd⟩ := hW
  have hA : DataW.TrodAll enc Try.prog W 0 (fun _ => true) true Try.f3.params.toList args.toList ds p := hA0
  rw [Try.params3] at hA hval hsz
  obtain ⟨rfl, rfl, rfl⟩ := trodAll_none hA
  obtain ⟨rfl, rfl⟩ := trodVars_none hV
  clear hA0 hval0 hsz0 hsz
  refine (walk  W ).mono fun e W' ⟨he, bel⟩ => ?_
  subst he
  exact ⟨_, rfl, _, _, _, [], [], [], hW', trodAll_mk1 (shut_bool Try.underlying4 _), trodAll_mk0, rfl, bel.frame _, fun h => by cases h⟩

theorem over : Rows.tcpKnownRow.holds Try.pinned (OpenSpec.ofChange Rows.tcpKnownSpec) :=
  OpenClaim.holds_of_wide 3 Try.f3 rfl rfl rfl rfl rfl rfl rfl ⟨rfl, rfl, rfl, rfl, rfl⟩ rfl rfl rfl rfl rfl (by kernel_rfl) Try.func3 (by kernel_rfl)
    (of_decide_eq_true (by kernel_rfl)) (by unfold Func.isWrapper; first | (rw [if_pos (by decide +kernel)]; kernel_rfl) | (rw [if_neg (by decide +kernel)]; exact ⟨rfl, rfl⟩))
    (fun os started H enc _ => lifted os started H enc)

end Go.Proofs.Ytgeeoggbijimoaa.tcpKnown
namespace Go.Proofs.Ytgeeoggbijimoaa
theorem tcpKnown_holds : Rows.TcpKnownSaid := tcpKnown.over
#print axioms tcpKnown_holds
end Go.Proofs.Ytgeeoggbijimoaa
