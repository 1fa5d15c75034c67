/- UdpKnown: the call returns true: chapter 3's examples. No input, no condition. -/
import Derived.Test.YtijoahehgfpomaaUdpAwake
import Derived.Test.YtijoahehgfpomaaUdpParse
namespace Go.Proofs.Ytijoahehgfpomaa.udpKnown
open Go.ChangeShapes Go.WideShapes Go.ChangeAt Go.RowKit

theorem boxesU {w w' : World} {u : Ud} {vd : Value} {t : TypeId} (hb : Below (w.alloc (.cells (udC u vd) t)).heap.size (w.alloc (.cells (udC u vd) t)) w') :
    w'.cell? ⟨w.heap.size, 0, none⟩ = some (.int .i64 u.src) ∧ w'.cell? ⟨w.heap.size, 1, none⟩ = some (.int .i64 u.dst) ∧ w'.cell? ⟨w.heap.size, 2, none⟩ = some (.bool u.bare) ∧ w'.cell? ⟨w.heap.size, 3, none⟩ = some vd :=
  ⟨box_cell hb 0 _ rfl, box_cell hb 1 _ rfl, box_cell hb 2 _ rfl, box_cell hb 3 _ rfl⟩

def KL : List Int := builtU 167772161 134744072 hiU

theorem kl_len : KL.length = 10 := rfl

theorem kl_bytes : isBytes KL := builtU_bytes _ _ _ (by unfold isBytes; decide)

theorem kl_good : UGood 167772161 134744072 KL := by
  have := ugood_built 167772161 134744072 hiU hi_fits (by unfold isBytes; decide) []
  rwa [List.append_nil] at this

theorem kl_ud : udOf KL = hiU := by
  have := ud_built 167772161 134744072 hiU hi_fits []
  rwa [List.append_nil] at this

theorem kl_sum : parseU 167772161 134744073 KL = 5 := by decide

theorem kl_short : parseU 167772161 134744072 (KL.take 7) = 2 := by decide

theorem slice7 (g cap : Nat) (h : 7 ≤ cap) (W : World) :
    (Instr.slice 23 (.slice (some ⟨g, 0, none⟩) 10 cap) none (some (.int .i64 7)) none).run Try.prog W = .ok (.slice (some ⟨g, 0, none⟩) 7 cap) W := by
  have ht' : Try.prog.underlying 23 = some (.slice (Try.prog.elem 23)) := by simp [Program.elem, Try.underlying23]
  have he : Try.prog.elem 23 = 5 := by simp [Program.elem, Try.underlying23]
  rw [run_slice_h W 23 _ _ _ ht' .i64 _ (by omega) (by omega), he, Try.sizeOf5]
  have hc : ¬ cap = 0 := by omega
  simp [Result.andThen, sliced, hc, add_at]

theorem at_take {w : World} {b off len cap : Nat} {l : List Int} (hA : At w b off len cap l) (q : Nat) (hq : q ≤ len) : At w b off q cap (l.take q) := by
  have hlen : (l.take q).length = q := by rw [List.length_take, hA.len]; omega
  have c1 := hA.cap1
  refine ⟨by omega, hA.cap2, hlen, isBytes_take hA.bytes q, ?_⟩
  intro i hi
  rw [hlen] at hi
  have : (l.take q).getD i 0 = l.getD i 0 := by simp [List.getD, hi]
  rw [this]
  exact hA.sees i (by rw [hA.len]; omega)

theorem uparse_ok' (s d : Int) (b off len cap : Nat) (l : List Int) (u : Ud) (w : World) (s0 : 0 ≤ s) (s1 : s < 4294967296) (t0 : 0 ≤ d) (t1 : d < 4294967296) (hA : At w b off len cap l) (hl : len ≤ 70000) (g : UGood s d l) (hu : udOf l = u) :
    Calls Try.prog 11 #[.int .u32 s, .int .u32 d, .slice (some ⟨b, off, none⟩) len cap] w fun e w' =>
      ∃ a1 k1, e = .returned (.tuple #[udV u (.slice a1 u.data.length k1), .int .i64 0]) ∧ Bts w' (.slice a1 u.data.length k1) u.data ∧ Below w.heap.size w w' := by
  subst hu; exact uparse_ok s d b off len cap l w s0 s1 t0 t1 hA hl g

set_option maxHeartbeats 4000000 in
theorem walk (w : World) : Calls Try.prog 3 #[] w fun e w' => e = .returned (.bool true) ∧ Below w.heap.size w w' := by
  have hcv := conv_bytes
  go_enter Try.func3, Try.ntmps3
  go_wp2_with fail
  refine (awake3_any _).mono ?_
  rintro e w1 ⟨rfl, hb1⟩
  go_wp2_with fail
  clear hcv
  have hD1 := hi_bts w1 w1.heap.size rfl
  obtain ⟨w2', hw2⟩ : ∃ w2', w2' = w1.alloc (.cells #[.int .u8 104, .int .u8 105] 5 (2, 3)) := ⟨_, rfl⟩
  have hb2 : Below w1.heap.size w1 w2' := by rw [hw2]; exact below_alloc _ _
  have hsz2 : w2'.heap.size = w1.heap.size + 1 := by rw [hw2]; simp
  rw [← hw2] at hD1 ⊢
  have hpb := below_alloc w2' (.cells (udC hiU (.slice (some ⟨w1.heap.size, 0, none⟩) 2 2)) 25)
  refine (ubuild_ok 167772161 134744072 hiU (some ⟨w1.heap.size, 0, none⟩) 2 _ (by decide) (by decide) (by decide) (by decide) hi_fits (hD1.later hpb)).mono ?_
  rintro e w3 ⟨v, rfl, ⟨g, cap, rfl, -, h3, h4, h5, hs, -⟩, hb3⟩
  have hA : At w3 g 0 10 cap KL := ⟨h3, h4, rfl, h5, hs⟩
  have h3' : 10 ≤ cap := h3
  rw [show (builtU 167772161 134744072 hiU).length = 10 from rfl]
  have hx3 := below_trans hb1 (below_trans hb2 (below_trans hpb hb3))
  have hD3 := hD1.later (below_trans hpb hb3)
  clear hD1 hs h5 h4 h3 hb1 hb2 hpb hw2
  go_wp2_with fail
  refine (uparse_ok' 167772161 134744072 g 0 10 cap KL hiU _ (by decide) (by decide) (by decide) (by decide) hA (by decide) kl_good kl_ud).mono ?_
  rintro e w4 ⟨a1, k1, rfl, hv1, hb4⟩
  have hp4 := below_alloc w4 (.cells (udC hiU (.slice a1 hiU.data.length k1)) 25)
  have hx4 := below_trans hb4 hp4
  go_wp2_with fail
  refine (uparse_no 167772161 134744073 (some ⟨g, 0, none⟩) g 0 10 cap KL _ (by decide) (by decide) (by decide) (by decide) (.inl rfl) (hA.later hx4) (by decide) (by rw [kl_sum]; decide)).mono ?_
  rintro e w5 ⟨rfl, hb5⟩
  rw [kl_sum]
  have hp5 := below_alloc w5 (.cells (udC Ud.zero (.slice none 0 0)) 25)
  have hx5 := below_trans hx4 (below_trans hb5 hp5)
  have hy5 := below_trans hb5 hp5
  have hsl := slice7 g cap (by omega)
  clear hp5 hb5
  go_wp2_with fail
  refine (uparse_no 167772161 134744072 (some ⟨g, 0, none⟩) g 0 7 cap (KL.take 7) _ (by decide) (by decide) (by decide) (by decide) (.inl rfl) (at_take (hA.later hx5) 7 (by decide)) (by decide) (by rw [kl_short]; decide)).mono ?_
  rintro e w6 ⟨rfl, hb6⟩
  rw [kl_short]
  have hx6 := below_trans hx5 hb6
  have hy6 := below_trans hy5 hb6
  obtain ⟨e0, e1, e2, e3⟩ := boxesU hy6
  have hbu := below_trans hb3 hx6
  obtain ⟨d0, d1, d2, d3⟩ := boxesU hbu
  rw [hsz2] at d0 d1 d2 d3
  have hlt1 : w1.heap.size + 1 < w6.heap.size := World.block_lt_of_cell? w6 _ d0
  have hlt2 : w4.heap.size < w6.heap.size := World.block_lt_of_cell? w6 _ e0
  have hp6 := below_alloc w6 (.cells (udC Ud.zero (.slice none 0 0)) 25)
  have q1 := hD3.later (below_trans hx6 hp6)
  have q2 := hv1.later (below_trans hp4 (below_trans hy6 hp6))
  have hA6 := hA.later (below_trans hx6 hp6)
  have hz6 := below_trans hx3 (below_trans hx6 hp6)
  clear hsl hA hx3 hx4 hx5 hx6 hy5 hy6 hb3 hb4 hb6 hbu hD3 hv1 hp4 hp6
  go_wp2_with fail
  refine (usame_one hiU _ _ _ q1 q2).mono ?_
  rintro e w7 ⟨rfl, hb7⟩
  have hA7 := hA6.later hb7
  have c8 : w7.cell? ⟨g, 8, none⟩ = some (.int .u8 104) := hA7.sees 8 (by decide)
  have c5 : w7.cell? ⟨g, 5, none⟩ = some (.int .u8 10) := hA7.sees 5 (by decide)
  have hz7 := below_trans hz6 hb7
  clear hA6 hA7 hb7 hz6 q1 q2 d0 d1 d2 d3 e0 e1 e2 e3
  go_wp2
  go_ret
  exact ⟨rfl, hz7⟩

set_option maxRecDepth 100000 in
theorem lifted (os : Os) (started : os.Started) (H : Type) (enc : TypeId × Value → H) :
    ReturnsInHanded {} Try.checked os 3 .any (Rows.udpKnownSpec.pre6 enc Try.prog Try.f3 Rows.udpKnownRow.domain false) (Rows.udpKnownSpec.post enc Try.prog Try.f3 false true false false) := by
  refine returnsInHanded_of_change_sized (C := Try.checked) own started (by kernel_rfl) Try.func3
    (ChangeSpec.witness6 (enc := enc) (C := Try.checked) false ⟨#[], #[], []⟩ 8 (by kernel_rfl) (by kernel_rfl) (by kernel_rfl) (by kernel_rfl)) ?_
  intro W base args ds gs before hval0 hW hcnd hsz0 _
  have hval : ∀ (j : Nat) t v, Try.f3.params[j]? = some t → args[j]? = some v → Value.okWide Try.prog W .any base t v := hval0
  have hsz : ∀ n ∈ DataW.weightsEach Try.prog (Try.f3.params.toList ++ Rows.udpKnownSpec.plain.varTypes Try.prog) (ds ++ gs), n ≤ reachBytes := fun n hn => by simpa using List.all_eq_true.1 hsz0 n hn
  have hW' := hW
  obtain ⟨p, q, hA0, hV, rfl, hfz, hnd⟩ := hW
  have hA : DataW.TrodAll enc Try.prog W 0 (fun _ => true) true Try.f3.params.toList args.toList ds p := hA0
  rw [Try.params3] at hA hval hsz
  obtain ⟨rfl, rfl, rfl⟩ := trodAll_none hA
  obtain ⟨rfl, rfl⟩ := trodVars_none hV
  clear hA0 hval0 hsz0 hsz
  refine (walk  W ).mono fun e W' ⟨he, bel⟩ => ?_
  subst he
  exact ⟨_, rfl, _, _, _, [], [], [], hW', trodAll_mk1 (shut_bool Try.underlying4 _), trodAll_mk0, rfl, bel.frame _, fun h => by cases h⟩

theorem over : Rows.udpKnownRow.holds Try.pinned (OpenSpec.ofChange Rows.udpKnownSpec) :=
  OpenClaim.holds_of_wide 3 Try.f3 rfl rfl rfl rfl rfl rfl rfl ⟨rfl, rfl, rfl, rfl, rfl⟩ rfl rfl rfl rfl rfl (by kernel_rfl) Try.func3 (by kernel_rfl)
    (of_decide_eq_true (by kernel_rfl)) (by unfold Func.isWrapper; first | (rw [if_pos (by decide +kernel)]; kernel_rfl) | (rw [if_neg (by decide +kernel)]; exact ⟨rfl, rfl⟩))
    (fun os started H enc _ => lifted os started H enc)

end Go.Proofs.Ytijoahehgfpomaa.udpKnown
namespace Go.Proofs.Ytijoahehgfpomaa
theorem udpKnown_holds : Rows.UdpKnownSaid := udpKnown.over
#print axioms udpKnown_holds
end Go.Proofs.Ytijoahehgfpomaa
