/- TcpTurned: for all segments between two addresses and all places the call returns true: a bit that is turned behind the header's length is found. No condition. -/
import Derived.Test.YtgeeoggbijimoaaTcpAwake
import Derived.Test.YtgeeoggbijimoaaTcpParse2
namespace Go.Proofs.Ytgeeoggbijimoaa.tcpTurned
open Go.ChangeShapes Go.WideShapes Go.ChangeAt Go.RowKit

/-- One bit that is turned: another byte. -/
theorem turn_bit : ∀ j : Fin 8, ∀ x : Fin 256, 0 ≤ bits .xor .u8 (x.val : Int) (2 ^ j.val) ∧ bits .xor .u8 (x.val : Int) (2 ^ j.val) < 256 ∧ bits .xor .u8 (x.val : Int) (2 ^ j.val) ≠ (x.val : Int) := by
  decide +kernel

theorem turn_bit' (j : Nat) (hj : j < 8) (x : Int) (h0 : 0 ≤ x) (h1 : x < 256) : 0 ≤ bits .xor .u8 x (2 ^ j) ∧ bits .xor .u8 x (2 ^ j) < 256 ∧ bits .xor .u8 x (2 ^ j) ≠ x := by
  obtain ⟨n, rfl⟩ := Int.eq_ofNat_of_zero_le h0
  exact turn_bit ⟨j, hj⟩ ⟨n, by omega⟩

set_option maxHeartbeats 1000000 in
theorem walk_big (s d : Int) (p : Pc) (ao ad : Option Addr) (co cd : Nat) (q : Int) (w : World) (hs : smallT p = false) :
    Calls Try.prog 7 #[sentTV s d p (.slice ao p.opts.length co) (.slice ad p.data.length cd), .int .i64 (q)] w fun e w' => e = .returned (.bool true) ∧ Below w.heap.size w w' := by
  go_enter Try.func7, Try.ntmps7
  go_wp2_with fail
  refine (awake4_any _).mono ?_
  rintro e w1 ⟨rfl, hb1⟩
  obtain ⟨d0, d1, d2, d3, d4, d5, d6, d7, d8, d9, d10⟩ := boxesT hb1
  go_wp2_with fail
  refine (smallT_any s d p ao ad co cd _).mono ?_
  rintro e w2 ⟨rfl, hb2⟩
  rw [hs]
  go_wp2
  go_ret
  exact ⟨rfl, below_trans (below_alloc _ _) (below_trans hb1 hb2)⟩

set_option maxHeartbeats 1000000 in
theorem walk_no (s d : Int) (p : Pc) (ao ad : Option Addr) (co cd : Nat) (q : Int) (w : World) (k : p.Ok) (hs : smallT p = true) (hE : ¬ buildT p = 0) :
    Calls Try.prog 7 #[sentTV s d p (.slice ao p.opts.length co) (.slice ad p.data.length cd), .int .i64 (q)] w fun e w' => e = .returned (.bool true) ∧ Below w.heap.size w w' := by
  have HS : Hid (p.data.length ≤ 5000 ∧ p.opts.length ≤ 5000) := by show _ ∧ _; unfold smallT at hs; simpa using hs
  have HE : Hid (¬ buildT p = 0) := hE
  obtain ⟨E, hEE⟩ : ∃ E, buildT p = E := ⟨_, rfl⟩
  have hne : (E != 0) = true := by rw [bne_iff_ne, ← hEE]; exact hE
  clear hE
  go_enter Try.func7, Try.ntmps7
  go_wp2_with fail
  refine (awake4_any _).mono ?_
  rintro e w1 ⟨rfl, hb1⟩
  obtain ⟨d0, d1, d2, d3, d4, d5, d6, d7, d8, d9, d10⟩ := boxesT hb1
  go_wp2_with fail
  refine (smallT_any s d p ao ad co cd _).mono ?_
  rintro e w2 ⟨rfl, hb2⟩
  rw [hs]
  clear d0 d1 d2 d3 d4 d5 d6 d7 d8 d9 d10
  have hx2 := below_trans hb1 hb2
  have hy2 := below_trans (below_alloc w _) hx2
  obtain ⟨d0, d1, d2, d3, d4, d5, d6, d7, d8, d9, d10⟩ := boxesT hx2
  clear hb1 hb2
  go_wp2_with fail
  refine (tbuild_no s d p ao ad co cd _ k (by have := HS.out.2; omega) (by have := HS.out.1; omega) HE.out).mono ?_
  rintro e w3 ⟨rfl, hb3⟩
  rw [hEE]
  clear d0 d1 d2 d3 d4 d5 d6 d7 d8 d9 d10 hEE
  go_wp2
  go_ret
  exact ⟨rfl, below_trans hy2 hb3⟩

set_option maxHeartbeats 1000000 in
theorem walk_neg (s d : Int) (p : Pc) (ao ad : Option Addr) (co cd : Nat) (q : Int) (w : World) (s0 : 0 ≤ s) (s1 : s < 4294967296) (t0 : 0 ≤ d) (t1 : d < 4294967296) (k : p.Ok) (f : TFits p) (hO : Bts w (.slice ao p.opts.length co) p.opts) (hD : Bts w (.slice ad p.data.length cd) p.data) (hs : smallT p = true) (hq : q < 0) :
    Calls Try.prog 7 #[sentTV s d p (.slice ao p.opts.length co) (.slice ad p.data.length cd), .int .i64 (q)] w fun e w' => e = .returned (.bool true) ∧ Below w.heap.size w w' := by
  have HF : Hid (TFits p) := f
  have HK : Hid (p.Ok) := k
  have hall := f.all
  have HN : Hid ((builtT s d p).length = 20 + p.opts.length + p.data.length) := builtT_length s d p
  clear k f
  go_enter Try.func7, Try.ntmps7
  go_wp2_with fail
  refine (awake4_any _).mono ?_
  rintro e w1 ⟨rfl, hb1⟩
  obtain ⟨d0, d1, d2, d3, d4, d5, d6, d7, d8, d9, d10⟩ := boxesT hb1
  go_wp2_with fail
  refine (smallT_any s d p ao ad co cd _).mono ?_
  rintro e w2 ⟨rfl, hb2⟩
  rw [hs]
  clear d0 d1 d2 d3 d4 d5 d6 d7 d8 d9 d10
  have hx2 := below_trans hb1 hb2
  have hy2 := below_trans (below_alloc w _) hx2
  obtain ⟨d0, d1, d2, d3, d4, d5, d6, d7, d8, d9, d10⟩ := boxesT hx2
  clear hb1 hb2
  go_wp2_with fail
  refine (tbuild_ok s d p ao ad co cd _ s0 s1 t0 t1 HK.out HF.out (hO.later hy2) (hD.later hy2)).mono ?_
  rintro e w3 ⟨v, rfl, hF, hb3⟩
  obtain ⟨g, cap, rfl, hge, q2, q3, q4, q5, q6⟩ := hF
  have hx3 := below_trans hx2 hb3
  have hzz := hx2.size
  have hy3 := below_trans hy2 hb3
  clear d0 d1 d2 d3 d4 d5 d6 d7 d8 d9 d10 hx2 hb3
  clear q4 q5 q6
  go_wp2
  go_ret
  exact ⟨rfl, hy3⟩

set_option maxHeartbeats 1000000 in
theorem walk_far (s d : Int) (p : Pc) (ao ad : Option Addr) (co cd : Nat) (i j : Nat) (w : World) (s0 : 0 ≤ s) (s1 : s < 4294967296) (t0 : 0 ≤ d) (t1 : d < 4294967296) (k : p.Ok) (f : TFits p) (hO : Bts w (.slice ao p.opts.length co) p.opts) (hD : Bts w (.slice ad p.data.length cd) p.data) (hs : smallT p = true) (hj : j < 8) (hi : 20 + p.opts.length + p.data.length ≤ i) (hq : 8 * (i : Int) + (j : Int) < 9223372036854775808) :
    Calls Try.prog 7 #[sentTV s d p (.slice ao p.opts.length co) (.slice ad p.data.length cd), .int .i64 (8 * (i : Int) + (j : Int))] w fun e w' => e = .returned (.bool true) ∧ Below w.heap.size w w' := by
  have z1 : ¬ 8 * (i : Int) + (j : Int) < 0 := by omega
  have z4 : (8 * (i : Int) + (j : Int)) / 8 = (i : Int) := by omega
  have HF : Hid (TFits p) := f
  have HK : Hid (p.Ok) := k
  have hall := f.all
  have HN : Hid ((builtT s d p).length = 20 + p.opts.length + p.data.length) := builtT_length s d p
  clear k f
  have z5 : ((builtT s d p).length : Int) ≤ (i : Int) := by rw [HN.out]; omega
  go_enter Try.func7, Try.ntmps7
  go_wp2_with fail
  refine (awake4_any _).mono ?_
  rintro e w1 ⟨rfl, hb1⟩
  obtain ⟨d0, d1, d2, d3, d4, d5, d6, d7, d8, d9, d10⟩ := boxesT hb1
  go_wp2_with fail
  refine (smallT_any s d p ao ad co cd _).mono ?_
  rintro e w2 ⟨rfl, hb2⟩
  rw [hs]
  clear d0 d1 d2 d3 d4 d5 d6 d7 d8 d9 d10
  have hx2 := below_trans hb1 hb2
  have hy2 := below_trans (below_alloc w _) hx2
  obtain ⟨d0, d1, d2, d3, d4, d5, d6, d7, d8, d9, d10⟩ := boxesT hx2
  clear hb1 hb2
  go_wp2_with fail
  refine (tbuild_ok s d p ao ad co cd _ s0 s1 t0 t1 HK.out HF.out (hO.later hy2) (hD.later hy2)).mono ?_
  rintro e w3 ⟨v, rfl, hF, hb3⟩
  obtain ⟨g, cap, rfl, hge, q2, q3, q4, q5, q6⟩ := hF
  have hx3 := below_trans hx2 hb3
  have hzz := hx2.size
  have hy3 := below_trans hy2 hb3
  clear d0 d1 d2 d3 d4 d5 d6 d7 d8 d9 d10 hx2 hb3
  clear q4 q5 q6
  generalize (builtT s d p).length = L at *
  go_wp2
  go_ret
  exact ⟨rfl, hy3⟩

set_option maxHeartbeats 1000000 in
theorem walk_twelve (s d : Int) (p : Pc) (ao ad : Option Addr) (co cd : Nat) (j : Nat) (w : World) (s0 : 0 ≤ s) (s1 : s < 4294967296) (t0 : 0 ≤ d) (t1 : d < 4294967296) (k : p.Ok) (f : TFits p) (hO : Bts w (.slice ao p.opts.length co) p.opts) (hD : Bts w (.slice ad p.data.length cd) p.data) (hs : smallT p = true) (hj : j < 8) :
    Calls Try.prog 7 #[sentTV s d p (.slice ao p.opts.length co) (.slice ad p.data.length cd), .int .i64 (96 + (j : Int))] w fun e w' => e = .returned (.bool true) ∧ Below w.heap.size w w' := by
  have z1 : ¬ 96 + (j : Int) < 0 := by omega
  have z4 : (96 + (j : Int)) / 8 = 12 := by omega
  have HF : Hid (TFits p) := f
  have HK : Hid (p.Ok) := k
  have hall := f.all
  have HN : Hid ((builtT s d p).length = 20 + p.opts.length + p.data.length) := builtT_length s d p
  clear k f
  have z5 : ¬ ((builtT s d p).length : Int) ≤ 12 := by rw [HN.out]; omega
  go_enter Try.func7, Try.ntmps7
  go_wp2_with fail
  refine (awake4_any _).mono ?_
  rintro e w1 ⟨rfl, hb1⟩
  obtain ⟨d0, d1, d2, d3, d4, d5, d6, d7, d8, d9, d10⟩ := boxesT hb1
  go_wp2_with fail
  refine (smallT_any s d p ao ad co cd _).mono ?_
  rintro e w2 ⟨rfl, hb2⟩
  rw [hs]
  clear d0 d1 d2 d3 d4 d5 d6 d7 d8 d9 d10
  have hx2 := below_trans hb1 hb2
  have hy2 := below_trans (below_alloc w _) hx2
  obtain ⟨d0, d1, d2, d3, d4, d5, d6, d7, d8, d9, d10⟩ := boxesT hx2
  clear hb1 hb2
  go_wp2_with fail
  refine (tbuild_ok s d p ao ad co cd _ s0 s1 t0 t1 HK.out HF.out (hO.later hy2) (hD.later hy2)).mono ?_
  rintro e w3 ⟨v, rfl, hF, hb3⟩
  obtain ⟨g, cap, rfl, hge, q2, q3, q4, q5, q6⟩ := hF
  have hx3 := below_trans hx2 hb3
  have hzz := hx2.size
  have hy3 := below_trans hy2 hb3
  clear d0 d1 d2 d3 d4 d5 d6 d7 d8 d9 d10 hx2 hb3
  clear q4 q5 q6
  generalize (builtT s d p).length = L at *
  go_wp2
  go_ret
  exact ⟨rfl, hy3⟩

set_option maxHeartbeats 2000000 in
theorem walk_in (s d : Int) (p : Pc) (ao ad : Option Addr) (co cd : Nat) (i j : Nat) (w : World) (s0 : 0 ≤ s) (s1 : s < 4294967296) (t0 : 0 ≤ d) (t1 : d < 4294967296) (k : p.Ok) (f : TFits p) (hO : Bts w (.slice ao p.opts.length co) p.opts) (hD : Bts w (.slice ad p.data.length cd) p.data) (hs : smallT p = true) (hj : j < 8) (hi : i < 20 + p.opts.length + p.data.length) (h12 : i ≠ 12) :
    Calls Try.prog 7 #[sentTV s d p (.slice ao p.opts.length co) (.slice ad p.data.length cd), .int .i64 (8 * (i : Int) + (j : Int))] w fun e w' => e = .returned (.bool true) ∧ Below w.heap.size w w' := by
  have z1 : ¬ 8 * (i : Int) + (j : Int) < 0 := by omega
  have z4 : (8 * (i : Int) + (j : Int)) / 8 = (i : Int) := by omega
  have z5 : (8 * (i : Int) + (j : Int)) % 8 = (j : Int) := by omega
  have z7 : ((i : Int) == 12) = false := by rw [beq_eq_false_iff_ne]; omega
  have HF : Hid (TFits p) := f
  have HK : Hid (p.Ok) := k
  have hall := f.all
  have HN : Hid ((builtT s d p).length = 20 + p.opts.length + p.data.length) := builtT_length s d p
  clear k f
  have z6 : ¬ ((builtT s d p).length : Int) ≤ (i : Int) := by rw [HN.out]; omega
  have HLB : Hid (i < (builtT s d p).length ∧ (builtT s d p).length ≤ 2048) := ⟨by rw [HN.out]; omega, by rw [HN.out]; omega⟩
  have HB := getD_byte (builtT s d p) (builtT_bytes s d p HK.out) i
  go_enter Try.func7, Try.ntmps7
  go_wp2_with fail
  refine (awake4_any _).mono ?_
  rintro e w1 ⟨rfl, hb1⟩
  obtain ⟨d0, d1, d2, d3, d4, d5, d6, d7, d8, d9, d10⟩ := boxesT hb1
  go_wp2_with fail
  refine (smallT_any s d p ao ad co cd _).mono ?_
  rintro e w2 ⟨rfl, hb2⟩
  rw [hs]
  clear d0 d1 d2 d3 d4 d5 d6 d7 d8 d9 d10
  have hx2 := below_trans hb1 hb2
  have hy2 := below_trans (below_alloc w _) hx2
  obtain ⟨d0, d1, d2, d3, d4, d5, d6, d7, d8, d9, d10⟩ := boxesT hx2
  clear hb1 hb2
  go_wp2_with fail
  refine (tbuild_ok s d p ao ad co cd _ s0 s1 t0 t1 HK.out HF.out (hO.later hy2) (hD.later hy2)).mono ?_
  rintro e w3 ⟨v, rfl, hF, hb3⟩
  obtain ⟨g, cap, rfl, hge, q2, q3, q4, q5, q6⟩ := hF
  have hx3 := below_trans hx2 hb3
  have hzz := hx2.size
  have hy3 := below_trans hy2 hb3
  clear d0 d1 d2 d3 d4 d5 d6 d7 d8 d9 d10 hx2 hb3
  obtain ⟨d0, d1, -⟩ := boxesT hx3
  have hil : (i : Int) < ((builtT s d p).length : Int) := by have := HLB.out.1; omega
  have c0 : w3.cell? ⟨g, i, none⟩ = some (.int .u8 ((builtT s d p).getD i 0)) := by have := q5 i HLB.out.1; rwa [Nat.zero_add] at this
  have c1 := q6 i HLB.out.1
  have hgw : w.heap.size ≠ g := by simp only [World.size_alloc] at hzz; omega
  generalize hX : (builtT s d p).getD i 0 = X at *
  generalize hLL : (builtT s d p).length = L at *
  go_wp2_with fail
  have hp : (2 : Int) ^ j % 256 = 2 ^ j := by
    have : j = 0 ∨ j = 1 ∨ j = 2 ∨ j = 3 ∨ j = 4 ∨ j = 5 ∨ j = 6 ∨ j = 7 := by omega
    rcases this with rfl | rfl | rfl | rfl | rfl | rfl | rfl | rfl <;> decide
  rw [hp]
  obtain ⟨y0, y1, y2⟩ := turn_bit' j hj X HB.1 HB.2
  generalize bits .xor .u8 X (2 ^ j) = Y at *
  have HP : Hid (parseT s d ((builtT s d p).set i Y) = 5) := turnedT s d p HK.out HF.out.arg i Y (by rw [hLL]; exact HLB.out.1) h12 y0 y1 (by rw [hX]; exact y2)
  have hA : At (w3.setCell ⟨g, i, none⟩ (.int .u8 Y)) g 0 L cap ((builtT s d p).set i Y) := by
    refine ⟨q2, q3, by rw [List.length_set]; exact hLL, ?_, ?_⟩
    · intro z hz
      rcases List.mem_or_eq_of_mem_set hz with h | rfl
      · exact q4 z h
      · exact ⟨y0, y1⟩
    · intro n hn
      rw [List.length_set] at hn
      by_cases hni : n = i
      · subst hni
        simp [go_sem, c0, hn]
      · have hni' : ¬ i = n := fun h => hni h.symm
        have := q5 n hn
        rw [Nat.zero_add] at this
        simp [go_sem, List.getD, List.getElem?_set_ne hni', this]
  have hge' : w.heap.size ≤ g := by simp only [World.size_alloc] at hzz; omega
  refine (tparse_no s d _ g 0 L cap _ _ s0 s1 t0 t1 (.inl rfl) hA (by have := HLB.out.2; omega) (by rw [HP.out]; decide)).mono ?_
  rintro e w4 ⟨rfl, hb4⟩
  rw [HP.out]
  have hx4 : Below w.heap.size w w4 := (hy3.setCell hge' _).trans (hb4.mono (by have := hy3.size; simpa using this))
  clear q5 q6 c0 c1 hA hb4 d0 d1
  go_wp2
  go_ret
  exact ⟨rfl, below_trans hx4 (below_alloc _ _)⟩

theorem walk (v0 v1 : Value) (w : World) (V0 : IsSentT w v0) (V1 : IsI64 w v1) :
    Calls Try.prog 7 #[v0, v1] w fun e w' => e = .returned (.bool true) ∧ Below w.heap.size w w' := by
  obtain ⟨s, d, p, ao, ad, co, cd, rfl, s0, s1, t0, t1, k, hO, hD, -, -⟩ := V0
  obtain ⟨q, rfl, -, hq⟩ := V1
  cases h1 : smallT p
  · exact walk_big s d p ao ad co cd q w h1
  by_cases h2 : buildT p = 0
  case neg => exact walk_no s d p ao ad co cd q w k h1 h2
  have f := tfits_of p h2
  by_cases h3 : q < 0
  · exact walk_neg s d p ao ad co cd q w s0 s1 t0 t1 k f hO hD h1 h3
  obtain ⟨i, j, hj, rfl⟩ : ∃ i j : Nat, j < 8 ∧ q = 8 * (i : Int) + (j : Int) := ⟨(q / 8).toNat, (q % 8).toNat, by omega, by omega⟩
  by_cases h4 : 20 + p.opts.length + p.data.length ≤ i
  · exact walk_far s d p ao ad co cd i j w s0 s1 t0 t1 k f hO hD h1 hj h4 hq
  by_cases h5 : i = 12
  · have := walk_twelve s d p ao ad co cd j w s0 s1 t0 t1 k f hO hD h1 hj
    subst h5
    exact this
  exact walk_in s d p ao ad co cd i j w s0 s1 t0 t1 k f hO hD h1 hj (by omega) h5

set_option maxRecDepth 100000 in
theorem lifted (os : Os) (started : os.Started) (H : Type) (enc : TypeId × Value → H) :
    ReturnsInHanded {} Try.checked os 7 .any (Rows.tcpTurnedSpec.pre6 enc Try.prog Try.f7 Rows.tcpTurnedRow.domain false) (Rows.tcpTurnedSpec.post enc Try.prog Try.f7 false true false false) := by
  refine returnsInHanded_of_change_sized (C := Try.checked) own started (by kernel_rfl) Try.func7
    (ChangeSpec.witness6 (enc := enc) (C := Try.checked) false ⟨#[], #[.agg #[.int .u32 0, .int .u32 0, .int .i64 0, .int .i64 0, .int .u32 0, .int .u32 0, .int .i64 0, .int .i64 0, .int .i64 0, .slice none 0 0, .slice none 0 0], .int .i64 0], []⟩ 8 (by kernel_rfl) (by kernel_rfl) (by kernel_rfl) (by kernel_rfl)) ?_
  intro W base args ds gs before hval0 hW hcnd hsz0 _
  have hval : ∀ (j : Nat) t v, Try.f7.params[j]? = some t → args[j]? = some v → Value.okWide Try.prog W .any base t v := hval0
  have hsz : ∀ n ∈ DataW.weightsEach Try.prog (Try.f7.params.toList ++ Rows.tcpTurnedSpec.plain.varTypes Try.prog) (ds ++ gs), n ≤ reachBytes := fun n hn => by simpa using List.all_eq_true.1 hsz0 n hn
  have hW' := hW
  obtain ⟨p, q, hA0, hV, rfl, hfz, hnd⟩ := hW
  have hA : DataW.TrodAll enc Try.prog W 0 (fun _ => true) true Try.f7.params.toList args.toList ds p := hA0
  rw [Try.params7] at hA hval hsz
  obtain ⟨v0, vs0, d0, ds0, p0, q0, hargs, rfl, rfl, h0, r0⟩ := trodAll_cons hA
  obtain ⟨v1, vs1, d1, ds1, p1, q1, rfl, rfl, rfl, h1, r1⟩ := trodAll_cons r0
  obtain ⟨rfl, rfl, rfl⟩ := trodAll_nil r1
  obtain rfl : args = #[v0, v1] := by cases args; simp_all
  obtain ⟨rfl, rfl⟩ := trodVars_none hV
  have lt0 : ∀ x ∈ p0, x.block < W.heap.size := by obtain ⟨m, hm⟩ := h0; exact DataW.trod_lt m _ _ _ hm
  have V0 := viewSentT (hval 0 38 v0 rfl rfl) h0 (fun n hn => hsz n (DataW.weights_mem_each (j := 0) rfl rfl n hn))
  have lt1 : ∀ x ∈ p1, x.block < W.heap.size := by obtain ⟨m, hm⟩ := h1; exact DataW.trod_lt m _ _ _ hm
  have V1 := view3 (hval 1 3 v1 rfl rfl) h1 (fun n hn => hsz n (DataW.weights_mem_each (j := 1) rfl rfl n hn))
  clear hA0 hval0 hsz0 hsz
  refine (walk v0 v1 W V0 V1).mono fun e W' ⟨he, bel⟩ => ?_
  subst he
  exact ⟨_, rfl, _, _, _, [], _, [], hW', trodAll_mk1 (shut_bool Try.underlying4 _), (trodAll_cons_mk (Below.trod laidOut (by kernel_rfl) (of_decide_eq_true (by kernel_rfl)) h0 bel lt0) (trodAll_cons_mk (Below.trod laidOut (by kernel_rfl) (of_decide_eq_true (by kernel_rfl)) h1 bel lt1) trodAll_mk0)), rfl, bel.frame _, fun h => by cases h⟩

theorem over : Rows.tcpTurnedRow.holds Try.pinned (OpenSpec.ofChange Rows.tcpTurnedSpec) :=
  OpenClaim.holds_of_wide 7 Try.f7 rfl rfl rfl rfl rfl rfl rfl ⟨rfl, rfl, rfl, rfl, rfl⟩ rfl rfl rfl rfl rfl (by kernel_rfl) Try.func7 (by kernel_rfl)
    (of_decide_eq_true (by kernel_rfl)) (by unfold Func.isWrapper; first | (rw [if_pos (by decide +kernel)]; kernel_rfl) | (rw [if_neg (by decide +kernel)]; exact ⟨rfl, rfl⟩))
    (fun os started H enc _ => lifted os started H enc)

end Go.Proofs.Ytgeeoggbijimoaa.tcpTurned
namespace Go.Proofs.Ytgeeoggbijimoaa
theorem tcpTurned_holds : Rows.TcpTurnedSaid := tcpTurned.over
#print axioms tcpTurned_holds
end Go.Proofs.Ytgeeoggbijimoaa
