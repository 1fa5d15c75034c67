/- IpBack: for all datagrams and all bytes behind the call returns true: what was built is read back, whatever stands behind, and built again it is the same. No condition. -/
import Derived.Test.YtkclbmhhlpdcnaaBeside
namespace Go.Proofs.Ytkclbmhhlpdcnaa.ipBack
open Go.ChangeShapes Go.WideShapes Go.ChangeAt Go.RowKit

set_option maxHeartbeats 2000000 in
theorem walk_big (p : Dg) (ao ab : Option Addr) (co cb : Nat) (vm : Value) (m : List Int) (w : World) (hm : Bts w vm m) (h : smallB p = false ∨ 5000 < m.length) :
    Calls Try.prog 5 #[ipV p (.slice ao p.opts.length co) (.slice ab p.body.length cb), vm] w fun e w' => e = .returned (.bool true) ∧ Below w.heap.size w w' := by
  obtain ⟨am, cm, bm, om, rfl, m2, m3, m4, m5, m6⟩ := hm
  by_cases hs : smallB p = false
  · go_enter Try.func5, Try.ntmps5
    go_wp2_with fail
    refine (awake2_any _).mono ?_
    rintro e w1 ⟨rfl, hb1⟩
    obtain ⟨d0, d1, d2, d3, d4, d5, d6, d7, d8, d9, d10⟩ := boxes hb1
    go_wp2_with fail
    refine (small_any p ao ab co cb _).mono ?_
    rintro e w2 ⟨rfl, hb2⟩
    rw [hs]
    go_wp2
    go_ret
    exact ⟨rfl, below_trans (below_alloc _ _) (below_trans hb1 hb2)⟩
  · have hs' : smallB p = true := by simpa using hs
    have hlt : (5000 : Int) < (m.length : Int) := by rcases h with h | h; exact absurd h hs; omega
    clear h hs
    go_enter Try.func5, Try.ntmps5
    go_wp2_with fail
    refine (awake2_any _).mono ?_
    rintro e w1 ⟨rfl, hb1⟩
    obtain ⟨d0, d1, d2, d3, d4, d5, d6, d7, d8, d9, d10⟩ := boxes hb1
    go_wp2_with fail
    refine (small_any p ao ab co cb _).mono ?_
    rintro e w2 ⟨rfl, hb2⟩
    rw [hs']
    go_wp2
    go_ret
    exact ⟨rfl, below_trans (below_alloc _ _) (below_trans hb1 hb2)⟩

set_option maxHeartbeats 2000000 in
theorem walk_no (p : Dg) (ao ab : Option Addr) (co cb : Nat) (vm : Value) (m : List Int) (w : World) (hm : Bts w vm m) (hs : smallB p = true) (hml : m.length ≤ 5000) (hE : ¬ buildE p = 0) :
    Calls Try.prog 5 #[ipV p (.slice ao p.opts.length co) (.slice ab p.body.length cb), vm] w fun e w' => e = .returned (.bool true) ∧ Below w.heap.size w w' := by
  obtain ⟨am, cm, bm, om, rfl, m2, m3, m4, m5, m6⟩ := hm
  have hlt : ¬ (5000 : Int) < (m.length : Int) := by omega
  have HS : Hid (p.body.length ≤ 5000 ∧ p.opts.length ≤ 5000) := by show _ ∧ _; unfold smallB at hs; simpa using hs
  have hne : (buildE p != 0) = true := by rw [bne_iff_ne]; exact hE
  have HE : Hid (¬ buildE p = 0) := hE
  clear hE
  go_enter Try.func5, Try.ntmps5
  go_wp2_with fail
  refine (awake2_any _).mono ?_
  rintro e w1 ⟨rfl, hb1⟩
  obtain ⟨d0, d1, d2, d3, d4, d5, d6, d7, d8, d9, d10⟩ := boxes hb1
  go_wp2_with fail
  refine (small_any p ao ab co cb _).mono ?_
  rintro e w2 ⟨rfl, hb2⟩
  rw [hs]
  clear d0 d1 d2 d3 d4 d5 d6 d7 d8 d9 d10
  obtain ⟨d0, d1, d2, d3, d4, d5, d6, d7, d8, d9, d10⟩ := boxes (below_trans hb1 hb2)
  go_wp2_with fail
  refine (build_no p ao ab co cb _ (by have := HS.out.2; omega) (by have := HS.out.1; omega) HE.out).mono ?_
  rintro e w3 ⟨rfl, hb3⟩
  go_wp2
  go_ret
  exact ⟨rfl, below_trans (below_alloc _ _) (below_trans hb1 (below_trans hb2 hb3))⟩

/-- What Parse is given: the bytes that were built, and what stands behind, up to 2048 bytes. -/
theorem cut_good (p : Dg) (k : p.Ok) (f : Fits p) (m : List Int) : Good ((built p ++ m).take 2048) ∧ dgOf ((built p ++ m).take 2048) = p := by
  have hl := built_length p
  have ha := f.all
  have e : (built p ++ m).take 2048 = built p ++ m.take (2048 - (built p).length) := by
    rw [List.take_append]
    congr 1
    rw [List.take_of_length_le (by omega)]
  rw [e]
  exact ⟨good_built p k f _ (by rw [List.length_append, List.length_take]; omega), dg_built p k f _⟩

set_option maxHeartbeats 2000000 in
theorem walk_ok1 (p : Dg) (ao ab : Option Addr) (co cb : Nat) (vm : Value) (m : List Int) (w : World) (k : p.Ok) (hO : Bts w (.slice ao p.opts.length co) p.opts) (hB : Bts w (.slice ab p.body.length cb) p.body) (hm : Bts w vm m) (hs : smallB p = true) (hml : m.length ≤ 5000) (hE : buildE p = 0) (hN : (built p ++ m).length ≤ 2048) :
    Calls Try.prog 5 #[ipV p (.slice ao p.opts.length co) (.slice ab p.body.length cb), vm] w fun e w' => e = .returned (.bool true) ∧ Below w.heap.size w w' := by
  have hmm := hm
  obtain ⟨am, cm, bm, om, rfl, m2, m3, m4, m5, m6⟩ := hm
  have hlt : ¬ (5000 : Int) < (m.length : Int) := by omega
  have f := fits_of p hE
  obtain ⟨hg, hdg⟩ := cut_good p k f m
  have HG : Hid (Good ((built p ++ m).take 2048)) := hg
  have HD : Hid (dgOf ((built p ++ m).take 2048) = p) := hdg
  have HF : Hid (Fits p) := f
  have HK : Hid (p.Ok) := k
  have HE : Hid (buildE p = 0) := hE
  have hbl := built_length p
  have hba := f.all
  have hbt : totalI p = 20 + p.opts.length + p.body.length := rfl
  have HLB : Hid (20 ≤ (built p).length ∧ (built p).length ≤ 2048) := ⟨by omega, by omega⟩
  have HBB : Hid (isBytes (built p)) := built_bytes p k
  clear hbl hba hbt hE hg hdg f k m2 m3 m5 m6
  go_enter Try.func5, Try.ntmps5
  go_wp2_with fail
  refine (awake2_any _).mono ?_
  rintro e w1 ⟨rfl, hb1⟩
  obtain ⟨d0, d1, d2, d3, d4, d5, d6, d7, d8, d9, d10⟩ := boxes hb1
  go_wp2_with fail
  refine (small_any p ao ab co cb _).mono ?_
  rintro e w2 ⟨rfl, hb2⟩
  rw [hs]
  clear d0 d1 d2 d3 d4 d5 d6 d7 d8 d9 d10
  have hx2 := below_trans hb1 hb2
  have hy2 := below_trans (below_alloc w _) hx2
  obtain ⟨d0, d1, d2, d3, d4, d5, d6, d7, d8, d9, d10⟩ := boxes hx2
  clear hb1 hb2
  go_wp2_with fail
  refine (build_ok p ao ab co cb _ HK.out HE.out (hO.later hy2) (hB.later hy2)).mono ?_
  rintro e w3 ⟨v, rfl, hF, hb3⟩
  have hbt := hF.bts
  obtain ⟨g, cap, rfl, hge, q2, q3, q4, q5, q6⟩ := hF
  have hx3 := below_trans hx2 hb3
  have hy3 := below_trans hy2 hb3
  clear d0 d1 d2 d3 d4 d5 d6 d7 d8 d9 d10 hb3 hx2 hy2 q6
  go_wp2_with fail
  refine (copy_any _ g 0 (built p).length cap (built p) _ q2 rfl (.inl rfl) q5 (by have := HLB.out.2; omega)).mono ?_
  rintro e w4 ⟨vc, rfl, hown, hb4⟩
  obtain ⟨vd, w5, hrun, hown5, hb5⟩ := append_bts w4 w3.heap.size vc (.slice am m.length cm) (built p) m hown (hmm.later (below_trans hy3 hb4)) hb4.size (by have := HLB.out.2; omega)
  have hsz5 := hb4.size
  have hb35 : Below w3.heap.size w3 w5 := hb4.trans hb5
  obtain ⟨gd, capd, rfl, hH⟩ := holds8_of_owns hown5 rfl (by rw [List.length_append]; have := HLB.out.1; omega)
  have hcp : (built p ++ m).length ≤ capd ∧ capd ≤ maxLen := by
    obtain ⟨_, _, _, _, e, c1, c2, _⟩ := hown5.bts (isBytes_append HBB.out m4)
    simp only [Value.slice.injEq] at e
    obtain ⟨-, -, rfl⟩ := e
    exact ⟨c1, c2⟩
  have HA : Hid (At w5 gd 0 (built p ++ m).length capd ((built p ++ m).take 2048)) := by
    show At _ _ _ _ _ _
    refine ⟨by omega, hcp.2, by rw [List.length_take]; omega, isBytes_take (isBytes_append HBB.out m4) 2048, ?_⟩
    intro i hi
    rw [List.length_take] at hi
    rw [Nat.zero_add, hH.cell i (by omega)]
    congr 2
    simp [List.getD, show i < 2048 by omega]
  have hy5 := below_trans hy3 hb35
  have hx5 := below_trans hx3 hb35
  have hbt5 := hbt.later hb35
  generalize hNN : (built p ++ m).length = N at *
  have hN' : ¬ (2048 : Int) < (N : Int) := by omega
  clear hown hown5 hb4 hb5 hH q2 q3 q5 hbt hmm hx3 hy3 hb35 hsz5 m4
  go_wp2_with (at_builtin; refine Lib.wpList_append_run_sl _ rfl _ _ 22 rfl _ _ rfl rfl hrun ?_)
  refine (parse_ok' gd 0 N capd _ p _ HA.out HG.out HD.out).mono ?_
  rintro e w6 ⟨a1, k1, a2, k2, rfl, hv1, hv2, hb6⟩
  have hy6 := below_trans hy5 hb6
  have hx6 := below_trans hx5 hb6
  have hbt6 := hbt5.later hb6
  clear hy5 hx5 hbt5 hb6 HA hrun
  have hpb := below_alloc w6 (.cells (ipC p (.slice a1 p.opts.length k1) (.slice a2 p.body.length k2)) 26)
  go_wp2_with fail
  refine (build_ok p a1 a2 k1 k2 _ HK.out HE.out (hv1.later hpb) (hv2.later hpb)).mono ?_
  rintro e w7 ⟨v7, rfl, hF7, hb7⟩
  have hB7 := hF7.bts
  obtain ⟨g7, cap7, rfl, -⟩ := hF7
  have hy7 := below_trans hy6 (below_trans hpb hb7)
  have hx7 := below_trans hx6 (below_trans hpb hb7)
  have hbt7 := hbt6.later (below_trans hpb hb7)
  have hv17 := hv1.later (below_trans hpb hb7)
  have hv27 := hv2.later (below_trans hpb hb7)
  obtain ⟨d0, d1, d2, d3, d4, d5, d6, d7, d8, d9, d10⟩ := boxes hx7
  obtain ⟨f0, f1, f2, f3, f4, f5, f6, f7, f8, f9, f10⟩ := boxes hb7
  clear hy6 hx6 hbt6 hpb hb7 hv1 hv2
  go_wp2_with fail
  refine (ipsame_one p _ _ _ _ _ (hO.later hy7) (hB.later hy7) hv17 hv27).mono ?_
  rintro e w8 ⟨rfl, hb8⟩
  clear d0 d1 d2 d3 d4 d5 d6 d7 d8 d9 d10 f0 f1 f2 f3 f4 f5 f6 f7 f8 f9 f10
  go_wp2_with fail
  refine (same_one _ _ _ (built p) (hbt7.later hb8) (hB7.later hb8)).mono ?_
  rintro e w9 ⟨rfl, nq, rfl⟩
  go_wp2
  go_ret
  exact ⟨rfl, below_drewN (below_trans hy7 hb8) _⟩

set_option maxHeartbeats 2000000 in
theorem walk_ok2 (p : Dg) (ao ab : Option Addr) (co cb : Nat) (vm : Value) (m : List Int) (w : World) (k : p.Ok) (hO : Bts w (.slice ao p.opts.length co) p.opts) (hB : Bts w (.slice ab p.body.length cb) p.body) (hm : Bts w vm m) (hs : smallB p = true) (hml : m.length ≤ 5000) (hE : buildE p = 0) (hN : 2048 < (built p ++ m).length) :
    Calls Try.prog 5 #[ipV p (.slice ao p.opts.length co) (.slice ab p.body.length cb), vm] w fun e w' => e = .returned (.bool true) ∧ Below w.heap.size w w' := by
  have hmm := hm
  obtain ⟨am, cm, bm, om, rfl, m2, m3, m4, m5, m6⟩ := hm
  have hlt : ¬ (5000 : Int) < (m.length : Int) := by omega
  have f := fits_of p hE
  obtain ⟨hg, hdg⟩ := cut_good p k f m
  have HG : Hid (Good ((built p ++ m).take 2048)) := hg
  have HD : Hid (dgOf ((built p ++ m).take 2048) = p) := hdg
  have HF : Hid (Fits p) := f
  have HK : Hid (p.Ok) := k
  have HE : Hid (buildE p = 0) := hE
  have hbl := built_length p
  have hba := f.all
  have hbt : totalI p = 20 + p.opts.length + p.body.length := rfl
  have HLB : Hid (20 ≤ (built p).length ∧ (built p).length ≤ 2048) := ⟨by omega, by omega⟩
  have HBB : Hid (isBytes (built p)) := built_bytes p k
  clear hbl hba hbt hE hg hdg f k m2 m3 m5 m6
  go_enter Try.func5, Try.ntmps5
  go_wp2_with fail
  refine (awake2_any _).mono ?_
  rintro e w1 ⟨rfl, hb1⟩
  obtain ⟨d0, d1, d2, d3, d4, d5, d6, d7, d8, d9, d10⟩ := boxes hb1
  go_wp2_with fail
  refine (small_any p ao ab co cb _).mono ?_
  rintro e w2 ⟨rfl, hb2⟩
  rw [hs]
  clear d0 d1 d2 d3 d4 d5 d6 d7 d8 d9 d10
  have hx2 := below_trans hb1 hb2
  have hy2 := below_trans (below_alloc w _) hx2
  obtain ⟨d0, d1, d2, d3, d4, d5, d6, d7, d8, d9, d10⟩ := boxes hx2
  clear hb1 hb2
  go_wp2_with fail
  refine (build_ok p ao ab co cb _ HK.out HE.out (hO.later hy2) (hB.later hy2)).mono ?_
  rintro e w3 ⟨v, rfl, hF, hb3⟩
  have hbt := hF.bts
  obtain ⟨g, cap, rfl, hge, q2, q3, q4, q5, q6⟩ := hF
  have hx3 := below_trans hx2 hb3
  have hy3 := below_trans hy2 hb3
  clear d0 d1 d2 d3 d4 d5 d6 d7 d8 d9 d10 hb3 hx2 hy2 q6
  go_wp2_with fail
  refine (copy_any _ g 0 (built p).length cap (built p) _ q2 rfl (.inl rfl) q5 (by have := HLB.out.2; omega)).mono ?_
  rintro e w4 ⟨vc, rfl, hown, hb4⟩
  obtain ⟨vd, w5, hrun, hown5, hb5⟩ := append_bts w4 w3.heap.size vc (.slice am m.length cm) (built p) m hown (hmm.later (below_trans hy3 hb4)) hb4.size (by have := HLB.out.2; omega)
  have hsz5 := hb4.size
  have hb35 : Below w3.heap.size w3 w5 := hb4.trans hb5
  obtain ⟨gd, capd, rfl, hH⟩ := holds8_of_owns hown5 rfl (by rw [List.length_append]; have := HLB.out.1; omega)
  have hcp : (built p ++ m).length ≤ capd ∧ capd ≤ maxLen := by
    obtain ⟨_, _, _, _, e, c1, c2, _⟩ := hown5.bts (isBytes_append HBB.out m4)
    simp only [Value.slice.injEq] at e
    obtain ⟨-, -, rfl⟩ := e
    exact ⟨c1, c2⟩
  have HA : Hid (At w5 gd 0 2048 capd ((built p ++ m).take 2048)) := by
    show At _ _ _ _ _ _
    refine ⟨by omega, hcp.2, by rw [List.length_take]; omega, isBytes_take (isBytes_append HBB.out m4) 2048, ?_⟩
    intro i hi
    rw [List.length_take] at hi
    rw [Nat.zero_add, hH.cell i (by omega)]
    congr 2
    simp [List.getD, show i < 2048 by omega]
  have hy5 := below_trans hy3 hb35
  have hx5 := below_trans hx3 hb35
  have hbt5 := hbt.later hb35
  generalize hNN : (built p ++ m).length = N at *
  have hN' : (2048 : Int) < (N : Int) := by omega
  have hN2 : (2048 : Int) ≤ (capd : Int) := by omega
  clear hown hown5 hb4 hb5 hH q2 q3 q5 hbt hmm hx3 hy3 hb35 hsz5 m4
  go_wp2_with (at_builtin; refine Lib.wpList_append_run_sl _ rfl _ _ 22 rfl _ _ rfl rfl hrun ?_)
  refine (parse_ok' gd 0 2048 capd _ p _ HA.out HG.out HD.out).mono ?_
  rintro e w6 ⟨a1, k1, a2, k2, rfl, hv1, hv2, hb6⟩
  have hy6 := below_trans hy5 hb6
  have hx6 := below_trans hx5 hb6
  have hbt6 := hbt5.later hb6
  clear hy5 hx5 hbt5 hb6 HA hrun
  have hpb := below_alloc w6 (.cells (ipC p (.slice a1 p.opts.length k1) (.slice a2 p.body.length k2)) 26)
  go_wp2_with fail
  refine (build_ok p a1 a2 k1 k2 _ HK.out HE.out (hv1.later hpb) (hv2.later hpb)).mono ?_
  rintro e w7 ⟨v7, rfl, hF7, hb7⟩
  have hB7 := hF7.bts
  obtain ⟨g7, cap7, rfl, -⟩ := hF7
  have hy7 := below_trans hy6 (below_trans hpb hb7)
  have hx7 := below_trans hx6 (below_trans hpb hb7)
  have hbt7 := hbt6.later (below_trans hpb hb7)
  have hv17 := hv1.later (below_trans hpb hb7)
  have hv27 := hv2.later (below_trans hpb hb7)
  obtain ⟨d0, d1, d2, d3, d4, d5, d6, d7, d8, d9, d10⟩ := boxes hx7
  obtain ⟨f0, f1, f2, f3, f4, f5, f6, f7, f8, f9, f10⟩ := boxes hb7
  clear hy6 hx6 hbt6 hpb hb7 hv1 hv2
  go_wp2_with fail
  refine (ipsame_one p _ _ _ _ _ (hO.later hy7) (hB.later hy7) hv17 hv27).mono ?_
  rintro e w8 ⟨rfl, hb8⟩
  clear d0 d1 d2 d3 d4 d5 d6 d7 d8 d9 d10 f0 f1 f2 f3 f4 f5 f6 f7 f8 f9 f10
  go_wp2_with fail
  refine (same_one _ _ _ (built p) (hbt7.later hb8) (hB7.later hb8)).mono ?_
  rintro e w9 ⟨rfl, nq, rfl⟩
  go_wp2
  go_ret
  exact ⟨rfl, below_drewN (below_trans hy7 hb8) _⟩

theorem walk (v0 v1 : Value) (w : World) (V0 : IsIp w v0) (V1 : IsBts w v1) :
    Calls Try.prog 5 #[v0, v1] w fun e w' => e = .returned (.bool true) ∧ Below w.heap.size w w' := by
  obtain ⟨p, ao, ab, co, cb, rfl, k, hO, hB, -, -⟩ := V0
  obtain ⟨m, hm, -⟩ := V1
  by_cases h1 : smallB p = false ∨ 5000 < m.length
  · exact walk_big p ao ab co cb v1 m w hm h1
  have h2 : smallB p = true := by cases h : smallB p; exact absurd (.inl h) h1; rfl
  have h3 : m.length ≤ 5000 := by omega
  by_cases h4 : buildE p = 0
  · by_cases h5 : (built p ++ m).length ≤ 2048
    · exact walk_ok1 p ao ab co cb v1 m w k hO hB hm h2 h3 h4 h5
    · exact walk_ok2 p ao ab co cb v1 m w k hO hB hm h2 h3 h4 (by omega)
  · exact walk_no p ao ab co cb v1 m w hm h2 h3 h4

set_option maxRecDepth 100000 in
theorem lifted (os : Os) (started : os.Started) (H : Type) (enc : TypeId × Value → H) :
    ReturnsInHanded {} Try.checked os 5 .any (Rows.ipBackSpec.pre6 enc Try.prog Try.f5 Rows.ipBackRow.domain false) (Rows.ipBackSpec.post enc Try.prog Try.f5 false true false false) := by
  refine returnsInHanded_of_change_sized (C := Try.checked) own started (by kernel_rfl) Try.func5
    (ChangeSpec.witness6 (enc := enc) (C := Try.checked) false ⟨#[], #[.agg #[.int .i64 0, .int .i64 0, .bool false, .bool false, .int .i64 0, .int .i64 0, .int .i64 0, .int .u32 0, .int .u32 0, .slice none 0 0, .slice none 0 0], .slice none 0 0], []⟩ 8 (by kernel_rfl) (by kernel_rfl) (by kernel_rfl) (by kernel_rfl)) ?_
  intro W base args ds gs before hval0 hW hcnd hsz0 _
  have hval : ∀ (j : Nat) t v, Try.f5.params[j]? = some t → args[j]? = some v → Value.okWide Try.prog W .any base t v := hval0
  have hsz : ∀ n ∈ DataW.weightsEach Try.prog (Try.f5.params.toList ++ Rows.ipBackSpec.plain.varTypes Try.prog) (ds ++ gs), n ≤ reachBytes := fun n hn => by simpa using List.all_eq_true.1 hsz0 n hn
  have hW' := hW
  obtain ⟨p, q, hA0, hV, rfl, hfz, hnd⟩ := hW
  have hA : DataW.TrodAll enc Try.prog W 0 (fun _ => true) true Try.f5.params.toList args.toList ds p := hA0
  rw [Try.params5] at hA hval hsz
  obtain ⟨v0, vs0, d0, ds0, p0, q0, hargs, rfl, rfl, h0, r0⟩ := trodAll_cons hA
  obtain ⟨v1, vs1, d1, ds1, p1, q1, rfl, rfl, rfl, h1, r1⟩ := trodAll_cons r0
  obtain ⟨rfl, rfl, rfl⟩ := trodAll_nil r1
  obtain rfl : args = #[v0, v1] := by cases args; simp_all
  obtain ⟨rfl, rfl⟩ := trodVars_none hV
  have lt0 : ∀ x ∈ p0, x.block < W.heap.size := by obtain ⟨m, hm⟩ := h0; exact DataW.trod_lt m _ _ _ hm
  have V0 := viewIP (hval 0 26 v0 rfl rfl) h0 (fun n hn => hsz n (DataW.weights_mem_each (j := 0) rfl rfl n hn))
  have lt1 : ∀ x ∈ p1, x.block < W.heap.size := by obtain ⟨m, hm⟩ := h1; exact DataW.trod_lt m _ _ _ hm
  have V1 := view26 (hval 1 22 v1 rfl rfl) h1 (fun n hn => hsz n (DataW.weights_mem_each (j := 1) rfl rfl n hn))
  clear hA0 hval0 hsz0 hsz
  refine (walk v0 v1 W V0 V1).mono fun e W' ⟨he, bel⟩ => ?_
  subst he
  exact ⟨_, rfl, _, _, _, [], _, [], hW', trodAll_mk1 (shut_bool Try.underlying4 _), (trodAll_cons_mk (Below.trod laidOut (by kernel_rfl) (of_decide_eq_true (by kernel_rfl)) h0 bel lt0) (trodAll_cons_mk (Below.trod laidOut (by kernel_rfl) (of_decide_eq_true (by kernel_rfl)) h1 bel lt1) trodAll_mk0)), rfl, bel.frame _, fun h => by cases h⟩

theorem over : Rows.ipBackRow.holds Try.pinned (OpenSpec.ofChange Rows.ipBackSpec) :=
  OpenClaim.holds_of_wide 5 Try.f5 rfl rfl rfl rfl rfl rfl rfl ⟨rfl, rfl, rfl, rfl, rfl⟩ rfl rfl rfl rfl rfl (by kernel_rfl) Try.func5 (by kernel_rfl)
    (of_decide_eq_true (by kernel_rfl)) (by unfold Func.isWrapper; first | (rw [if_pos (by decide +kernel)]; kernel_rfl) | (rw [if_neg (by decide +kernel)]; exact ⟨rfl, rfl⟩))
    (fun os started H enc _ => lifted os started H enc)

end Go.Proofs.Ytkclbmhhlpdcnaa.ipBack
namespace Go.Proofs.Ytkclbmhhlpdcnaa
theorem ipBack_holds : Rows.IpBackSaid := ipBack.over
#print axioms ipBack_holds
end Go.Proofs.Ytkclbmhhlpdcnaa
