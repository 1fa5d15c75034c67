/- FrameKnown: the call returns true: chapter 6's examples. No input, no condition. -/
import Derived.Test.YtdejjokgchbgnaaM9
import Derived.Test.YtdejjokgchbgnaaM10
set_option maxRecDepth 100000
namespace Go.Proofs.Ytdejjokgchbgnaa.frameKnown
open Go.ChangeShapes Go.WideShapes Go.ChangeAt Go.RowKit

def PM : Dg := { PD with mf := true }

def P47 : Dg := { PD with proto := 47 }

def PX : List Int := PB.set 29 104

theorem pm_ok : PM.Ok := ⟨pd_ok.1, pd_ok.2, pd_ok.3, pd_ok.4, pd_ok.5, pd_ok.6⟩

theorem p47_ok : P47.Ok := ⟨pd_ok.1, pd_ok.2, pd_ok.3, pd_ok.4, pd_ok.5, pd_ok.6⟩

theorem pm_fits : Fits PM := fits_of PM (by decide)

theorem p47_fits : Fits P47 := fits_of P47 (by decide)

theorem pm_why : (readR (built PM)).why = 3 := by decide +kernel

theorem p47_why : (readR (built P47)).why = 4 := by decide +kernel

theorem px_why : (readR PX).why = 2 := by decide +kernel

theorem pb_last : PB.getD 29 0 = 105 := by decide

theorem px_bytes : isBytes PX := by unfold isBytes PX PB; decide

/-- Read of bytes that are no frame. -/
theorem read_why (v : Value) (l : List Int) (y : Int) (w : World) (hv : Bts w v l) (h : (readR l).why = y) (hy : ¬ y = 0) :
    Calls Try.prog 12 #[v] w fun e w' => ∃ C : Array Value, e = .returned (.tuple #[.agg C, .int .i64 y]) ∧ Hid (C.size = 22 ∧ C.all (·.oneCell') = true) ∧ Below w.heap.size w w' := by
  obtain ⟨a, c, rfl⟩ := Bts.shapeW hv
  obtain ⟨-, b, off, ha, hA⟩ := hv.at_ne
  refine (read_no a b off _ c l w ha hA (by rw [h]; exact hy)).mono ?_
  rintro e w' ⟨rfl, hb⟩
  rw [h]
  exact ⟨_, rfl, (⟨rfl, oneZ⟩ : zeroFC.size = 22 ∧ _), hb⟩

theorem fr_laid (w2 : World) (C : Array Value) (HC : Hid (C.size = 22 ∧ C.all (·.oneCell') = true)) : ∃ W5, C.size = 22 ∧ Below w2.heap.size w2 W5 ∧ (storeCells ⟨w2.heap.size, 0, none⟩ C.toList).run Try.prog (w2.alloc (.cells zeroFC 37)) = .ok () W5 := by
  obtain ⟨W5, -, hb, hst⟩ := fr_var w2 C HC.out.1 HC.out.2
  exact ⟨W5, HC.out.1, hb, hst⟩

set_option maxHeartbeats 4000000 in
theorem walk (w : World) : Calls Try.prog 3 #[] w fun e w' => e = .returned (.bool true) ∧ Below w.heap.size w w' := by
  have hcv := conv_bytes
  go_enter Try.func3, Try.ntmps3
  go_wp2_with fail
  refine (awake6_any _).mono ?_
  rintro e w1 ⟨rfl, hb1⟩
  go_wp2_with fail
  clear hcv
  refine (play_own _ _ (hi_bts w1 w1.heap.size rfl)).mono ?_
  rintro e w2 ⟨u, rfl, hO2, hb2⟩
  have bel2 := below_trans hb1 (below_trans (below_alloc _ _) hb2)
  have HB0 : Hid (Below w.heap.size w w1) := hb1
  have HB1 : Hid (Below w1.heap.size w1 w2) := below_trans (below_alloc _ _) hb2
  have hO2 := hO2.low (show w1.heap.size ≤ _ by simp)
  obtain ⟨g, cap, rfl, hg⟩ : ∃ g cap, u = .slice (some ⟨g, 0, none⟩) 30 cap ∧ w1.heap.size ≤ g := by
    rcases hO2.2 with ⟨-, h0⟩ | ⟨g, cap, cur, h1, h2, -⟩
    · exact absurd h0 (by decide)
    · exact ⟨g, cap, h1, h2⟩
  have H2 : Holds8 w2 w1.heap.size g 30 cap PB := holds8_mk hO2 pb_len
  have hA2 : At w2 g 0 30 cap PB := by
    obtain ⟨-, b', off', ha, hA⟩ := (hO2.bts pb_bytes).at_ne
    rcases ha with ha | ha
    · simp only [Option.some.injEq, Addr.mk.injEq, and_true] at ha
      obtain ⟨rfl, rfl⟩ := ha
      exact hA
    · exact absurd (congrArg List.length ha) (by rw [pb_len]; decide)
  clear hb1 hb2 hO2
  go_wp2_with fail
  refine (rparse_good g 0 30 cap PB w2 hA2 (good_of PB pb_good)).mono ?_
  rintro e w3 ⟨a1, k1, a2, k2, rfl, ho1, ho2, hb3⟩
  rw [pb_dg] at ho1 ho2 ⊢
  have hv1 := ho1.bts pd_ok.opts
  have hv2 := ho2.bts pd_ok.body
  have hbp := below_alloc w3 (.cells (ipC PM (.slice a1 PD.opts.length k1) (.slice a2 PD.body.length k2)) 29)
  have hrm := rbuild_ok PM a1 a2 k1 k2 _ pm_ok pm_fits (hv1.later hbp) (hv2.later hbp)
  clear ho1 ho2
  go_wp2_with fail
  refine hrm.mono ?_
  rintro e w4 ⟨v4, rfl, hB4, hb4⟩
  obtain ⟨a4, k4, rfl⟩ := Bts.shapeW hB4
  have P4 := fc_new (n := w3.heap.size) rfl hb4
  have bel34 := below_trans hbp hb4
  have hs4 := hb4.size
  simp only [World.size_alloc] at hs4
  clear hrm hbp hb4
  go_wp2_with fail
  refine (read_why _ _ 3 _ hB4 pm_why (by decide)).mono ?_
  rintro e w5 ⟨C5, rfl, HC5, hb5⟩
  obtain ⟨W6, hC5, hb6, hst6⟩ := fr_laid w5 C5 HC5
  have hb46 := below_trans hb5 hb6
  have P6 := P4.later (by omega) hb46
  have bel36 := below_trans bel34 hb46
  have p0 := P6.c 0 _ rfl
  have p1 := P6.c 1 _ rfl
  have p2 := P6.c 2 _ rfl
  have p3 := P6.c 3 _ rfl
  have p4 := P6.c 4 _ rfl
  have p5 := P6.c 5 _ rfl
  have p6 := P6.c 6 _ rfl
  have p7 := P6.c 7 _ rfl
  have p8 := P6.c 8 _ rfl
  have p9 := P6.c 9 _ rfl
  have p10 := P6.c 10 _ rfl
  have fz := P6.f
  have hle : w3.heap.size ≤ w3.heap.size := Nat.le_refl _
  have bel37 := (bel36.setCell (p := ⟨w3.heap.size, 3, none⟩) hle (.bool false)).setCell (p := ⟨w3.heap.size, 6, none⟩) hle (.int .i64 47)
  have hr47 := rbuild_ok P47 a1 a2 k1 k2 _ p47_ok p47_fits (hv1.later bel37) (hv2.later bel37)
  have HB : Hid (Below w2.heap.size w2 w3 ∧ Below w.heap.size w w2) := ⟨hb3, bel2⟩
  have H2' : Hid (Holds8 w2 w1.heap.size g 30 cap PB) := H2
  have HL : Hid (w1.heap.size ≤ g) := hg
  clear P4 P6 hB4 hb5 hb6 hb46 bel34 bel36 hv1 hv2 HC5 hA2 H2 hb3 bel2 hg
  go_wp2_with fail
  refine hr47.mono ?_
  rintro e w8 ⟨v8, rfl, hB8, hb8⟩
  obtain ⟨a8, k8, rfl⟩ := Bts.shapeW hB8
  have bel38 := below_trans bel37 hb8
  clear hr47 hb8 bel37 p0 p1 p2 p3 p4 p5 p6 p7 p8 p9 p10 fz hst6
  go_wp2_with fail
  refine (read_why _ _ 4 _ hB8 p47_why (by decide)).mono ?_
  rintro e w9 ⟨C9, rfl, HC9, hb9⟩
  obtain ⟨W10, hC9, hb10, hst10⟩ := fr_laid w9 C9 HC9
  have bel310 := below_trans bel38 (below_trans hb9 hb10)
  have bel210 := below_trans HB.out.1 bel310
  have H10 := H2'.out.later bel210
  have l29 : W10.cell? ⟨g, 29, none⟩ = some (.int .u8 105) := by have := H10.cell 29 (by decide); rwa [pb_last] at this
  have f29 := H10.2.frozenAt 29
  have hxr : bits .xor .u8 105 1 = 104 := by decide
  have H11 := H10.store 29 104
  have hB11 : Bts (W10.setCell ⟨g, 29, none⟩ (.int .u8 104)) (.slice (some ⟨g, 0, none⟩) 30 cap) PX := H11.owns.bts px_bytes
  have bel11 : Below w1.heap.size w1 (W10.setCell ⟨g, 29, none⟩ (.int .u8 104)) := (below_trans HB1.out bel210).setCell HL.out _
  clear hB8 hb9 hb10 HC9 bel38 bel310 bel210 H10 H11
  go_wp2_with fail
  refine (read_why _ _ 2 _ hB11 px_why (by decide)).mono ?_
  rintro e w12 ⟨C12, rfl, HC12, hb12⟩
  obtain ⟨W13, hC12, hb13, hst13⟩ := fr_laid w12 C12 HC12
  have bel := below_trans HB0.out (below_trans bel11 (below_trans hb12 hb13))
  clear hB11 hb12 hb13 HC12 bel11 l29 f29 hxr hst10
  go_wp2
  go_ret
  exact ⟨rfl, bel⟩

set_option maxRecDepth 100000 in
theorem lifted (os : Os) (started : os.Started) (H : Type) (enc : TypeId × Value → H) :
    ReturnsInHanded {} Try.checked os 3 .any (Rows.frameKnownSpec.pre6 enc Try.prog Try.f3 Rows.frameKnownRow.domain false) (Rows.frameKnownSpec.post enc Try.prog Try.f3 false true false false) := by
  refine returnsInHanded_of_change_sized (C := Try.checked) own started (by kernel_rfl) Try.func3
    (ChangeSpec.witness6 (enc := enc) (C := Try.checked) false ⟨#[], #[], []⟩ 8 (by kernel_rfl) (by kernel_rfl) (by kernel_rfl) (by kernel_rfl)) ?_
  intro W base args ds gs before hval0 hW hcnd hsz0 _
  have hval : ∀ (j : Nat) t v, Try.f3.params[j]? = some t → args[j]? = some v → Value.okWide Try.prog W .any base t v := hval0
  have hsz : ∀ n ∈ DataW.weightsEach Try.prog (Try.f3.params.toList ++ Rows.frameKnownSpec.plain.varTypes Try.prog) (ds ++ gs), n ≤ reachBytes := fun n hn => by simpa using List.all_eq_true.1 hsz0 n hn
  have hW' := hW
  obtain ⟨p, q, hA0, hV, rfl, hfz, hnd⟩ := hW
  have hA : DataW.TrodAll enc Try.prog W 0 (fun _ => true) true Try.f3.params.toList args.toList ds p := hA0
  rw [Try.params3] at hA hval hsz
  obtain ⟨rfl, rfl, rfl⟩ := trodAll_none hA
  obtain ⟨rfl, rfl⟩ := trodVars_none hV
  clear hA0 hval0 hsz0 hsz
  refine (walk  W ).mono fun e W' ⟨he, bel⟩ => ?_
  subst he
  exact ⟨_, rfl, _, _, _, [], [], [], hW', trodAll_mk1 (shut_bool Try.underlying4 _), trodAll_mk0, rfl, bel.frame _, fun h => by cases h⟩

theorem over : Rows.frameKnownRow.holds Try.pinned (OpenSpec.ofChange Rows.frameKnownSpec) :=
  OpenClaim.holds_of_wide 3 Try.f3 rfl rfl rfl rfl rfl rfl rfl ⟨rfl, rfl, rfl, rfl, rfl⟩ rfl rfl rfl rfl rfl (by kernel_rfl) Try.func3 (by kernel_rfl)
    (of_decide_eq_true (by kernel_rfl)) (by unfold Func.isWrapper; first | (rw [if_pos (by decide +kernel)]; kernel_rfl) | (rw [if_neg (by decide +kernel)]; exact ⟨rfl, rfl⟩))
    (fun os started H enc _ => lifted os started H enc)

end Go.Proofs.Ytdejjokgchbgnaa.frameKnown
namespace Go.Proofs.Ytdejjokgchbgnaa
theorem frameKnown_holds : Rows.FrameKnownSaid := frameKnown.over
#print axioms frameKnown_holds
end Go.Proofs.Ytdejjokgchbgnaa
