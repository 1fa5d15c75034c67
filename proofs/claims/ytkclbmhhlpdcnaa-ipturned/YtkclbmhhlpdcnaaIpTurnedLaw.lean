/- IpTurned: for all datagrams and all places the call returns true: one bit of the header, but for the lower four of the first byte, that is turned is found. No condition. -/
import Derived.Test.YtkclbmhhlpdcnaaBeside
namespace Go.Proofs.Ytkclbmhhlpdcnaa.ipTurned
open Go.ChangeShapes Go.WideShapes Go.ChangeAt Go.RowKit

/-- One bit that is turned: another byte; from the fifth bit on another upper half. -/
theorem turn_bit : ∀ j : Fin 8, ∀ x : Fin 256, 0 ≤ bits .xor .u8 (x.val : Int) (2 ^ j.val) ∧ bits .xor .u8 (x.val : Int) (2 ^ j.val) < 256 ∧ bits .xor .u8 (x.val : Int) (2 ^ j.val) ≠ (x.val : Int) ∧ (4 ≤ j.val → bits .xor .u8 (x.val : Int) (2 ^ j.val) / 16 ≠ (x.val : Int) / 16) := by
  decide +kernel

theorem turn_bit' (j : Nat) (hj : j < 8) (x : Int) (h0 : 0 ≤ x) (h1 : x < 256) : 0 ≤ bits .xor .u8 x (2 ^ j) ∧ bits .xor .u8 x (2 ^ j) < 256 ∧ bits .xor .u8 x (2 ^ j) ≠ x ∧ (4 ≤ j → bits .xor .u8 x (2 ^ j) / 16 ≠ x / 16) := by
  obtain ⟨n, rfl⟩ := Int.eq_ofNat_of_zero_le h0
  exact turn_bit ⟨j, hj⟩ ⟨n, by omega⟩

set_option maxHeartbeats 1000000 in
theorem walk_big (p : Dg) (ao ab : Option Addr) (co cb : Nat) (q : Int) (w : World) (hs : smallB p = false) :
    Calls Try.prog 7 #[ipV p (.slice ao p.opts.length co) (.slice ab p.body.length cb), .int .i64 q] w fun e w' => e = .returned (.bool true) ∧ Below w.heap.size w w' := by
  go_enter Try.func7, Try.ntmps7
  go_wp2_with fail
  refine (awake2_any _).mono ?_
  rintro e w1 ⟨rfl, hb1⟩
  obtain ⟨d0, d1, d2, d3, d4, d5, d6, d7, d8, d9, d10⟩ := boxes hb1
  go_wp2_with fail
  refine (small_any p ao ab co cb _).mono ?_
  rintro e w2 ⟨rfl, hb2⟩
  rw [hs]
  go_wp2_with fail
  refine (awake2_any _).mono ?_
  rintro e w3 ⟨rfl, hb3⟩
  go_wp2
  go_ret
  exact ⟨rfl, below_trans (below_alloc _ _) (below_trans hb1 (below_trans hb2 hb3))⟩

set_option maxHeartbeats 1000000 in
theorem walk_no (p : Dg) (ao ab : Option Addr) (co cb : Nat) (q : Int) (w : World) (hs : smallB p = true) (hE : ¬ buildE p = 0) :
    Calls Try.prog 7 #[ipV p (.slice ao p.opts.length co) (.slice ab p.body.length cb), .int .i64 q] w fun e w' => e = .returned (.bool true) ∧ Below w.heap.size w w' := by
  have HS : Hid (p.body.length ≤ 5000 ∧ p.opts.length ≤ 5000) := by show _ ∧ _; unfold smallB at hs; simpa using hs
  have hne : (buildE p != 0) = true := by rw [bne_iff_ne]; exact hE
  have HE : Hid (¬ buildE p = 0) := hE
  clear hE
  go_enter Try.func7, Try.ntmps7
  go_wp2_with fail
  refine (awake2_any _).mono ?_
  rintro e w1 ⟨rfl, hb1⟩
  obtain ⟨d0, d1, d2, d3, d4, d5, d6, d7, d8, d9, d10⟩ := boxes hb1
  go_wp2_with fail
  refine (small_any p ao ab co cb _).mono ?_
  rintro e w2 ⟨rfl, hb2⟩
  rw [hs]
  clear d0 d1 d2 d3 d4 d5 d6 d7 d8 d9 d10
  obtain ⟨d0, d1, d2, d3, d4, d5, d6, d7, d8, d9, d10⟩ := boxes (below_trans hb1 hb2)
  go_wp2_with fail
  refine (build_no p ao ab co cb _ (by have := HS.out.2; omega) (by have := HS.out.1; omega) HE.out).mono ?_
  rintro e w3 ⟨rfl, hb3⟩
  have d9 := cell_later hb3 d9
  go_wp2_with fail
  refine (awake2_any _).mono ?_
  rintro e w4 ⟨rfl, hb4⟩
  go_wp2
  go_ret
  exact ⟨rfl, below_trans (below_alloc _ _) (below_trans hb1 (below_trans hb2 (below_trans hb3 hb4)))⟩

set_option maxHeartbeats 1000000 in
theorem walk_neg (p : Dg) (ao ab : Option Addr) (co cb : Nat) (q : Int) (w : World) (k : p.Ok) (hO : Bts w (.slice ao p.opts.length co) p.opts) (hB : Bts w (.slice ab p.body.length cb) p.body) (hs : smallB p = true) (hE : buildE p = 0)
    (hq : q < 0) :
    Calls Try.prog 7 #[ipV p (.slice ao p.opts.length co) (.slice ab p.body.length cb), .int .i64 (q)] w fun e w' => e = .returned (.bool true) ∧ Below w.heap.size w w' := by
  have HS : Hid (p.body.length ≤ 5000 ∧ p.opts.length ≤ 5000) := by show _ ∧ _; unfold smallB at hs; simpa using hs
  have HE : Hid (buildE p = 0) := hE
  have hol : p.opts.length ≤ 5000 := HS.out.2
  clear hE
  go_enter Try.func7, Try.ntmps7
  go_wp2_with fail
  refine (awake2_any _).mono ?_
  rintro e w1 ⟨rfl, hb1⟩
  obtain ⟨d0, d1, d2, d3, d4, d5, d6, d7, d8, d9, d10⟩ := boxes hb1
  go_wp2_with fail
  refine (small_any p ao ab co cb _).mono ?_
  rintro e w2 ⟨rfl, hb2⟩
  rw [hs]
  clear d0 d1 d2 d3 d4 d5 d6 d7 d8 d9 d10
  have hx2 := below_trans hb1 hb2
  have hy2 := below_trans (below_alloc w _) hx2
  obtain ⟨d0, d1, d2, d3, d4, d5, d6, d7, d8, d9, d10⟩ := boxes hx2
  clear hb1 hb2
  go_wp2_with fail
  refine (build_ok p ao ab co cb _ k HE.out (hO.later hy2) (hB.later hy2)).mono ?_
  rintro e w3 ⟨v, rfl, hF, hb3⟩
  obtain ⟨g, cap, rfl, hge, q2, q3, q4, q5, q6⟩ := hF
  have d9 := cell_later hb3 d9
  clear d0 d1 d2 d3 d4 d5 d6 d7 d8 d10 q4 q5 q6
  go_wp2_with fail
  refine (awake2_any _).mono ?_
  rintro e w4 ⟨rfl, hb4⟩
  go_wp2
  go_ret
  exact ⟨rfl, below_trans hy2 (below_trans hb3 hb4)⟩

set_option maxHeartbeats 1000000 in
theorem walk_far (p : Dg) (ao ab : Option Addr) (co cb : Nat) (i j : Nat) (w : World) (k : p.Ok) (hO : Bts w (.slice ao p.opts.length co) p.opts) (hB : Bts w (.slice ab p.body.length cb) p.body) (hs : smallB p = true) (hE : buildE p = 0)
    (hj : j < 8) (hi : 20 + p.opts.length ≤ i) (hq : 8 * (i : Int) + (j : Int) < 9223372036854775808) :
    Calls Try.prog 7 #[ipV p (.slice ao p.opts.length co) (.slice ab p.body.length cb), .int .i64 (8 * (i : Int) + (j : Int))] w fun e w' => e = .returned (.bool true) ∧ Below w.heap.size w w' := by
  have z1 : ¬ 8 * (i : Int) + (j : Int) < 0 := by omega
  have z4 : (8 * (i : Int) + (j : Int)) / 8 = (i : Int) := by omega
  have z5 : (20 : Int) + (p.opts.length : Int) ≤ (i : Int) := by omega
  have HS : Hid (p.body.length ≤ 5000 ∧ p.opts.length ≤ 5000) := by show _ ∧ _; unfold smallB at hs; simpa using hs
  have HE : Hid (buildE p = 0) := hE
  have hol : p.opts.length ≤ 5000 := HS.out.2
  clear hE
  go_enter Try.func7, Try.ntmps7
  go_wp2_with fail
  refine (awake2_any _).mono ?_
  rintro e w1 ⟨rfl, hb1⟩
  obtain ⟨d0, d1, d2, d3, d4, d5, d6, d7, d8, d9, d10⟩ := boxes hb1
  go_wp2_with fail
  refine (small_any p ao ab co cb _).mono ?_
  rintro e w2 ⟨rfl, hb2⟩
  rw [hs]
  clear d0 d1 d2 d3 d4 d5 d6 d7 d8 d9 d10
  have hx2 := below_trans hb1 hb2
  have hy2 := below_trans (below_alloc w _) hx2
  obtain ⟨d0, d1, d2, d3, d4, d5, d6, d7, d8, d9, d10⟩ := boxes hx2
  clear hb1 hb2
  go_wp2_with fail
  refine (build_ok p ao ab co cb _ k HE.out (hO.later hy2) (hB.later hy2)).mono ?_
  rintro e w3 ⟨v, rfl, hF, hb3⟩
  obtain ⟨g, cap, rfl, hge, q2, q3, q4, q5, q6⟩ := hF
  have d9 := cell_later hb3 d9
  clear d0 d1 d2 d3 d4 d5 d6 d7 d8 d10 q4 q5 q6
  go_wp2_with fail
  refine (awake2_any _).mono ?_
  rintro e w4 ⟨rfl, hb4⟩
  go_wp2
  go_ret
  exact ⟨rfl, below_trans hy2 (below_trans hb3 hb4)⟩

set_option maxHeartbeats 1000000 in
theorem walk_four (p : Dg) (ao ab : Option Addr) (co cb : Nat) (i j : Nat) (w : World) (k : p.Ok) (hO : Bts w (.slice ao p.opts.length co) p.opts) (hB : Bts w (.slice ab p.body.length cb) p.body) (hs : smallB p = true) (hE : buildE p = 0)
    (hj : j < 4) (hi : i = 0) :
    Calls Try.prog 7 #[ipV p (.slice ao p.opts.length co) (.slice ab p.body.length cb), .int .i64 (8 * (i : Int) + (j : Int))] w fun e w' => e = .returned (.bool true) ∧ Below w.heap.size w w' := by
  have z1 : ¬ 8 * (i : Int) + (j : Int) < 0 := by omega
  have z4 : (8 * (i : Int) + (j : Int)) / 8 = (i : Int) := by omega
  have z5 : ¬ (20 : Int) + (p.opts.length : Int) ≤ (i : Int) := by omega
  have z6 : 8 * (i : Int) + (j : Int) < 4 := by omega
  clear hi
  have HS : Hid (p.body.length ≤ 5000 ∧ p.opts.length ≤ 5000) := by show _ ∧ _; unfold smallB at hs; simpa using hs
  have HE : Hid (buildE p = 0) := hE
  have hol : p.opts.length ≤ 5000 := HS.out.2
  clear hE
  go_enter Try.func7, Try.ntmps7
  go_wp2_with fail
  refine (awake2_any _).mono ?_
  rintro e w1 ⟨rfl, hb1⟩
  obtain ⟨d0, d1, d2, d3, d4, d5, d6, d7, d8, d9, d10⟩ := boxes hb1
  go_wp2_with fail
  refine (small_any p ao ab co cb _).mono ?_
  rintro e w2 ⟨rfl, hb2⟩
  rw [hs]
  clear d0 d1 d2 d3 d4 d5 d6 d7 d8 d9 d10
  have hx2 := below_trans hb1 hb2
  have hy2 := below_trans (below_alloc w _) hx2
  obtain ⟨d0, d1, d2, d3, d4, d5, d6, d7, d8, d9, d10⟩ := boxes hx2
  clear hb1 hb2
  go_wp2_with fail
  refine (build_ok p ao ab co cb _ k HE.out (hO.later hy2) (hB.later hy2)).mono ?_
  rintro e w3 ⟨v, rfl, hF, hb3⟩
  obtain ⟨g, cap, rfl, hge, q2, q3, q4, q5, q6⟩ := hF
  have d9 := cell_later hb3 d9
  clear d0 d1 d2 d3 d4 d5 d6 d7 d8 d10 q4 q5 q6
  go_wp2_with fail
  refine (awake2_any _).mono ?_
  rintro e w4 ⟨rfl, hb4⟩
  go_wp2
  go_ret
  exact ⟨rfl, below_trans hy2 (below_trans hb3 hb4)⟩

set_option maxHeartbeats 1000000 in
theorem walk_in (p : Dg) (ao ab : Option Addr) (co cb : Nat) (i j : Nat) (w : World) (k : p.Ok) (hO : Bts w (.slice ao p.opts.length co) p.opts) (hB : Bts w (.slice ab p.body.length cb) p.body) (hs : smallB p = true) (hE : buildE p = 0)
    (hj : j < 8) (hi : i < 20 + p.opts.length) (h4 : i = 0 → 4 ≤ j) :
    Calls Try.prog 7 #[ipV p (.slice ao p.opts.length co) (.slice ab p.body.length cb), .int .i64 (8 * (i : Int) + (j : Int))] w fun e w' => e = .returned (.bool true) ∧ Below w.heap.size w w' := by
  have f := fits_of p hE
  have hol := f.o40
  have HE : Hid (buildE p = 0) := hE
  have HF : Hid (Fits p) := f
  have HK : Hid (p.Ok) := k
  have HJ : Hid (i = 0 → 4 ≤ j) := h4
  have hbl := built_length p
  have hba := f.all
  have hbt : totalI p = 20 + p.opts.length + p.body.length := rfl
  have HLB : Hid (i < (built p).length ∧ (built p).length ≤ 2048) := ⟨by omega, by omega⟩
  have HB := getD_byte (built p) (built_bytes p k) i
  have z1 : ¬ 8 * (i : Int) + (j : Int) < 0 := by omega
  have z2 : ¬ 20 + (p.opts.length : Int) ≤ (8 * (i : Int) + (j : Int)) / 8 := by omega
  have z3 : ¬ 8 * (i : Int) + (j : Int) < 4 := by omega
  have z4 : (8 * (i : Int) + (j : Int)) / 8 = (i : Int) := by omega
  have z5 : (8 * (i : Int) + (j : Int)) % 8 = (j : Int) := by omega
  clear hE f h4 hbl hba hbt
  go_enter Try.func7, Try.ntmps7
  go_wp2_with fail
  refine (awake2_any _).mono ?_
  rintro e w1 ⟨rfl, hb1⟩
  obtain ⟨d0, d1, d2, d3, d4, d5, d6, d7, d8, d9, d10⟩ := boxes hb1
  go_wp2_with fail
  refine (small_any p ao ab co cb _).mono ?_
  rintro e w2 ⟨rfl, hb2⟩
  rw [hs]
  clear d0 d1 d2 d3 d4 d5 d6 d7 d8 d9 d10
  have hx2 := below_trans hb1 hb2
  have hy2 := below_trans (below_alloc w _) hx2
  obtain ⟨d0, d1, d2, d3, d4, d5, d6, d7, d8, d9, d10⟩ := boxes hx2
  clear hb1 hb2
  go_wp2_with fail
  refine (build_ok p ao ab co cb _ k HE.out (hO.later hy2) (hB.later hy2)).mono ?_
  rintro e w3 ⟨v, rfl, hF, hb3⟩
  obtain ⟨g, cap, rfl, hge, q2, q3, q4, q5, q6⟩ := hF
  have d9 := cell_later hb3 d9
  have hil : (i : Int) < ((built p).length : Int) := by have := HLB.out.1; omega
  have c0 : w3.cell? ⟨g, i, none⟩ = some (.int .u8 ((built p).getD i 0)) := by have := q5 i HLB.out.1; rwa [Nat.zero_add] at this
  have c1 := q6 i HLB.out.1
  generalize hX : (built p).getD i 0 = X at *
  generalize hLL : (built p).length = L at *
  clear d0 d1 d2 d3 d4 d5 d6 d7 d8 d10
  go_wp2_with fail
  have hp : (2 : Int) ^ j % 256 = 2 ^ j := by
    have : j = 0 ∨ j = 1 ∨ j = 2 ∨ j = 3 ∨ j = 4 ∨ j = 5 ∨ j = 6 ∨ j = 7 := by omega
    rcases this with rfl | rfl | rfl | rfl | rfl | rfl | rfl | rfl <;> decide
  rw [hp]
  obtain ⟨y0, y1, y2, y3⟩ := turn_bit' j hj X HB.1 HB.2
  generalize bits .xor .u8 X (2 ^ j) = Y at *
  have HP : Hid (¬ parseE ((built p).set i Y) = 0) := turned_bad p HK.out HF.out i Y hi y0 y1 (by rw [hX]; exact y2) (by
    intro h0
    subst h0
    have hl := y3 (HJ.out rfl)
    have h4 := (good_built p HK.out HF.out [] (by rw [List.append_nil, hLL]; exact HLB.out.2)).c
    rw [List.append_nil] at h4
    have e : b1 (built p) 0 = X := hX
    rw [e] at h4
    omega)
  have hne : (parseE ((built p).set i Y) != 0) = true := by rw [bne_iff_ne]; exact HP.out
  have hA : At (w3.setCell ⟨g, i, none⟩ (.int .u8 Y)) g 0 L cap ((built p).set i Y) := by
    refine ⟨q2, q3, by rw [List.length_set]; exact hLL, ?_, ?_⟩
    · intro z hz
      rcases List.mem_or_eq_of_mem_set hz with h | rfl
      · exact q4 z h
      · exact ⟨y0, y1⟩
    · intro n hn
      rw [List.length_set] at hn
      by_cases hni : n = i
      · subst hni
        simp [go_sem, c0, hn]
      · have hni' : ¬ i = n := fun h => hni h.symm
        have := q5 n hn
        rw [Nat.zero_add] at this
        simp [go_sem, List.getD, List.getElem?_set_ne hni', this]
  have hx3 := below_trans hy2 hb3
  have hge' : w.heap.size ≤ g := Nat.le_trans hy2.size hge
  refine (parse_no _ g 0 L cap _ _ (.inl rfl) hA HP.out).mono ?_
  rintro e w4 ⟨rfl, hb4⟩
  have hx4 : Below w.heap.size w w4 := (hx3.setCell hge' _).trans (hb4.mono (by have := hx3.size; simpa using this))
  clear q5 q6 c0 c1 hA hb4
  go_wp2_with fail
  refine (awake2_any _).mono ?_
  rintro e w5 ⟨rfl, hb5⟩
  go_wp2
  go_ret
  exact ⟨rfl, below_trans hx4 (below_trans (below_alloc _ _) hb5)⟩

theorem walk (v0 v1 : Value) (w : World) (V0 : IsIp w v0) (V1 : IsI64 w v1) :
    Calls Try.prog 7 #[v0, v1] w fun e w' => e = .returned (.bool true) ∧ Below w.heap.size w w' := by
  obtain ⟨p, ao, ab, co, cb, rfl, k, hO, hB, -, -⟩ := V0
  obtain ⟨q, rfl, -, hq⟩ := V1
  cases h1 : smallB p
  · exact walk_big p ao ab co cb q w h1
  by_cases h2 : buildE p = 0
  case neg => exact walk_no p ao ab co cb q w h1 h2
  by_cases h3 : q < 0
  · exact walk_neg p ao ab co cb q w k hO hB h1 h2 h3
  obtain ⟨i, j, hj, rfl⟩ : ∃ i j : Nat, j < 8 ∧ q = 8 * (i : Int) + (j : Int) := ⟨(q / 8).toNat, (q % 8).toNat, by omega, by omega⟩
  by_cases h4 : 20 + p.opts.length ≤ i
  · exact walk_far p ao ab co cb i j w k hO hB h1 h2 hj h4 hq
  by_cases h5 : i = 0 ∧ j < 4
  · exact walk_four p ao ab co cb i j w k hO hB h1 h2 h5.2 h5.1
  exact walk_in p ao ab co cb i j w k hO hB h1 h2 hj (by omega) (by omega)

set_option maxRecDepth 100000 in
theorem lifted (os : Os) (started : os.Started) (H : Type) (enc : TypeId × Value → H) :
    ReturnsInHanded {} Try.checked os 7 .any (Rows.ipTurnedSpec.pre6 enc Try.prog Try.f7 Rows.ipTurnedRow.domain false) (Rows.ipTurnedSpec.post enc Try.prog Try.f7 false true false false) := by
  refine returnsInHanded_of_change_sized (C := Try.checked) own started (by kernel_rfl) Try.func7
    (ChangeSpec.witness6 (enc := enc) (C := Try.checked) false ⟨#[], #[.agg #[.int .i64 0, .int .i64 0, .bool false, .bool false, .int .i64 0, .int .i64 0, .int .i64 0, .int .u32 0, .int .u32 0, .slice none 0 0, .slice none 0 0], .int .i64 0], []⟩ 8 (by kernel_rfl) (by kernel_rfl) (by kernel_rfl) (by kernel_rfl)) ?_
  intro W base args ds gs before hval0 hW hcnd hsz0 _
  have hval : ∀ (j : Nat) t v, Try.f7.params[j]? = some t → args[j]? = some v → Value.okWide Try.prog W .any base t v := hval0
  have hsz : ∀ n ∈ DataW.weightsEach Try.prog (Try.f7.params.toList ++ Rows.ipTurnedSpec.plain.varTypes Try.prog) (ds ++ gs), n ≤ reachBytes := fun n hn => by simpa using List.all_eq_true.1 hsz0 n hn
  have hW' := hW
  obtain ⟨p, q, hA0, hV, rfl, hfz, hnd⟩ := hW
  have hA : DataW.TrodAll enc Try.prog W 0 (fun _ => true) true Try.f7.params.toList args.toList ds p := hA0
  rw [Try.params7] at hA hval hsz
  obtain ⟨v0, vs0, d0, ds0, p0, q0, hargs, rfl, rfl, h0, r0⟩ := trodAll_cons hA
  obtain ⟨v1, vs1, d1, ds1, p1, q1, rfl, rfl, rfl, h1, r1⟩ := trodAll_cons r0
  obtain ⟨rfl, rfl, rfl⟩ := trodAll_nil r1
  obtain rfl : args = #[v0, v1] := by cases args; simp_all
  obtain ⟨rfl, rfl⟩ := trodVars_none hV
  have lt0 : ∀ x ∈ p0, x.block < W.heap.size := by obtain ⟨m, hm⟩ := h0; exact DataW.trod_lt m _ _ _ hm
  have V0 := viewIP (hval 0 26 v0 rfl rfl) h0 (fun n hn => hsz n (DataW.weights_mem_each (j := 0) rfl rfl n hn))
  have lt1 : ∀ x ∈ p1, x.block < W.heap.size := by obtain ⟨m, hm⟩ := h1; exact DataW.trod_lt m _ _ _ hm
  have V1 := view3 (hval 1 3 v1 rfl rfl) h1 (fun n hn => hsz n (DataW.weights_mem_each (j := 1) rfl rfl n hn))
  clear hA0 hval0 hsz0 hsz
  refine (walk v0 v1 W V0 V1).mono fun e W' ⟨he, bel⟩ => ?_
  subst he
  exact ⟨_, rfl, _, _, _, [], _, [], hW', trodAll_mk1 (shut_bool Try.underlying4 _), (trodAll_cons_mk (Below.trod laidOut (by kernel_rfl) (of_decide_eq_true (by kernel_rfl)) h0 bel lt0) (trodAll_cons_mk (Below.trod laidOut (by kernel_rfl) (of_decide_eq_true (by kernel_rfl)) h1 bel lt1) trodAll_mk0)), rfl, bel.frame _, fun h => by cases h⟩

theorem over : Rows.ipTurnedRow.holds Try.pinned (OpenSpec.ofChange Rows.ipTurnedSpec) :=
  OpenClaim.holds_of_wide 7 Try.f7 rfl rfl rfl rfl rfl rfl rfl ⟨rfl, rfl, rfl, rfl, rfl⟩ rfl rfl rfl rfl rfl (by kernel_rfl) Try.func7 (by kernel_rfl)
    (of_decide_eq_true (by kernel_rfl)) (by unfold Func.isWrapper; first | (rw [if_pos (by decide +kernel)]; kernel_rfl) | (rw [if_neg (by decide +kernel)]; exact ⟨rfl, rfl⟩))
    (fun os started H enc _ => lifted os started H enc)

end Go.Proofs.Ytkclbmhhlpdcnaa.ipTurned
namespace Go.Proofs.Ytkclbmhhlpdcnaa
theorem ipTurned_holds : Rows.IpTurnedSaid := ipTurned.over
#print axioms ipTurned_holds
end Go.Proofs.Ytkclbmhhlpdcnaa
