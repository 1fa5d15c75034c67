/- FrameShort: for all bytes and numbers the call returns true: of a frame that is read its first bytes, from eight behind the header on, quote its ends. No condition. -/
import Derived.Test.YtdejjokgchbgnaaM9
import Derived.Test.YtdejjokgchbgnaaM2
set_option maxRecDepth 100000
namespace Go.Proofs.Ytdejjokgchbgnaa.frameShort
open Go.ChangeShapes Go.WideShapes Go.ChangeAt Go.RowKit

@[reducible] def zeroIC : Array Value := #[.int .i64 0, .int .u32 0, .int .i64 0, .int .u32 0, .int .i64 0]

theorem at_take {w : World} {b off len cap : Nat} {l : List Int} (hA : At w b off len cap l) (q : Nat) (hq : q ≤ len) : At w b off q cap (l.take q) := by
  have hlen : (l.take q).length = q := by rw [List.length_take, hA.len]; omega
  have c1 := hA.cap1
  refine ⟨by omega, hA.cap2, hlen, isBytes_take hA.bytes q, ?_⟩
  intro i hi
  rw [hlen] at hi
  have : (l.take q).getD i 0 = l.getD i 0 := by simp [List.getD, hi]
  rw [this]
  exact hA.sees i (by rw [hA.len]; omega)

theorem slice_to (b off len cap : Nat) (x : Int) (q : Nat) (hx : x = (q : Int)) (h0 : 0 < q) (hq : q ≤ cap) (W : World) :
    (Instr.slice 23 (.slice (some ⟨b, off, none⟩) len cap) none (some (.int .i64 x)) none).run Try.prog W = .ok (.slice (some ⟨b, off, none⟩) q cap) W := by
  subst hx
  have ht' : Try.prog.underlying 23 = some (.slice (Try.prog.elem 23)) := by simp [Program.elem, Try.underlying23]
  have he : Try.prog.elem 23 = 5 := by simp [Program.elem, Try.underlying23]
  rw [run_slice_h W 23 _ _ _ ht' .i64 _ (by omega) (by omega), he, Try.sizeOf5]
  have hc : ¬ cap = 0 := by omega
  simp [Result.andThen, sliced, hc, add_at]

theorem walk_big (a : Option Addr) (len cap : Nat) (n : Int) (w : World) (h : 5000 < len) :
    Calls Try.prog 6 #[.slice a len cap, .int .i64 n] w fun e w' => e = .returned (.bool true) ∧ Below w.heap.size w w' := by
  have h' : (5000 : Int) < len := by omega
  go_enter Try.func6, Try.ntmps6
  go_wp2_with fail
  refine (awake6_any _).mono ?_
  rintro e w1 ⟨rfl, hb1⟩
  go_wp2
  go_ret
  exact ⟨rfl, hb1⟩

set_option maxHeartbeats 2000000 in
theorem walk_no (a : Option Addr) (b off len cap : Nat) (l : List Int) (n : Int) (w : World) (ha : a = some ⟨b, off, none⟩ ∨ l = []) (hA : At w b off len cap l) (h : len ≤ 5000) (hy : ¬ (readR l).why = 0) :
    Calls Try.prog 6 #[.slice a len cap, .int .i64 n] w fun e w' => e = .returned (.bool true) ∧ Below w.heap.size w w' := by
  have h' : ¬ (5000 : Int) < len := by omega
  have hrd := fun W (hW : Below w.heap.size w W) => read_no a b off len cap l W ha (hA.later hW) hy
  have hne : ((readR l).why != 0) = true := by rw [bne_iff_ne]; exact hy
  generalize (readR l).why = y at *
  clear hA hy
  go_enter Try.func6, Try.ntmps6
  go_wp2_with fail
  refine (awake6_any _).mono ?_
  rintro e w1 ⟨rfl, hb1⟩
  go_wp2_with fail
  refine (hrd _ hb1).mono ?_
  rintro e w2 ⟨rfl, hb2⟩
  obtain ⟨C, hC⟩ : ∃ C, zeroFC = C := ⟨_, rfl⟩
  have hC22 : C.size = 22 := by rw [← hC]; rfl
  obtain ⟨W5, F5, hb5, hst5⟩ := fr_var w2 C hC22 (by rw [← hC]; exact oneZ)
  rw [hC]
  have hx := below_trans hb1 (below_trans hb2 hb5)
  clear hC F5 hb5 hb2 hb1 hrd
  go_wp2
  go_ret
  exact ⟨rfl, hx⟩

set_option maxHeartbeats 2000000 in
theorem walk_fault (b off len cap : Nat) (l : List Int) (n : Int) (w : World) (hA : At w b off len cap l) (h : len ≤ 5000) (hy : (readR l).why = 0) (hk : (readR l).kind = 5) :
    Calls Try.prog 6 #[.slice (some ⟨b, off, none⟩) len cap, .int .i64 n] w fun e w' => e = .returned (.bool true) ∧ Below w.heap.size w w' := by
  have h' : ¬ (5000 : Int) < len := by omega
  have hrd := fun W (hW : Below w.heap.size w W) => read_ok b off len cap l W (hA.later hW) hy
  clear hA hy
  go_enter Try.func6, Try.ntmps6
  go_wp2_with fail
  refine (awake6_any _).mono ?_
  rintro e w1 ⟨rfl, hb1⟩
  go_wp2_with fail
  refine (hrd _ hb1).mono ?_
  rintro e w2 ⟨a1, k1, a2, k2, rfl, -, -, hb2⟩
  obtain ⟨C, hC⟩ : ∃ C, frC (dgOf l) (.slice a1 (dgOf l).opts.length k1) (.slice a2 (dgOf l).body.length k2) (readR l) = C := ⟨_, rfl⟩
  have hC22 : C.size = 22 := by rw [← hC]; rfl
  obtain ⟨W5, F5, hb5, hst5⟩ := fr_var w2 C hC22 (by rw [← hC]; exact oneFr _ _ _ _ _ _ _ _)
  have c11 : W5.cell? ⟨w2.heap.size, 11, none⟩ = some (.int .i64 5) := F5.c 11 _ (by rw [← hC, ← hk]; rfl)
  rw [hC]
  have hx := below_trans hb1 (below_trans hb2 hb5)
  clear hC F5 hb5 hb2 hb1 hrd hk
  go_wp2
  go_ret
  exact ⟨rfl, hx⟩

set_option maxHeartbeats 4000000 in
theorem walk_short (b off len cap : Nat) (l : List Int) (n : Int) (h m : Nat) (w : World) (hA : At w b off len cap l) (hl : len ≤ 5000) (hy : (readR l).why = 0) (hk : ¬ (readR l).kind = 5) (s : Shown l h)
    (hm : (n < (h : Int) + 8 ∨ (len : Int) < n) ∧ m = h + 8 ∨ ¬ n < (h : Int) + 8 ∧ ¬ (len : Int) < n ∧ n = (m : Int)) :
    Calls Try.prog 6 #[.slice (some ⟨b, off, none⟩) len cap, .int .i64 n] w fun e w' => e = .returned (.bool true) ∧ Below w.heap.size w w' := by
  have hL := hA.len
  have h' : ¬ (5000 : Int) < len := by omega
  have hsl := s.len
  have h20 := s.h20
  have hm1 : h + 8 ≤ m := by omega
  have hm2 : m ≤ len := by omega
  have hcap := hA.cap1
  have hrd := fun W (hW : Below w.heap.size w W) => read_ok b off len cap l W (hA.later hW) hy
  have hq1 := fun W (hW : Below w.heap.size w W) => quote_ok b off m cap (l.take m) _ W (at_take (hA.later hW) m hm2) (short_some l h m s hm1 (by omega))
  have hq2 := fun W (hW : Below w.heap.size w W) => quote_no (some ⟨b, off, none⟩) b off (h + 7) cap (l.take (h + 7)) W (.inl rfl) (at_take (hA.later hW) (h + 7) (by omega)) (short_none l h s)
  have hs1 := fun W => slice_to b off len cap (m : Int) m rfl (by omega) (by omega) W
  have hs2 := fun W => slice_to b off len cap ((h : Int) + 7) (h + 7) (by omega) (by omega) (by omega) W
  have ho := opts_len l h s.hd s.good
  have hpk := s.proto
  have hpr : Hid ((dgOf l).proto = b1 l 9) := (rfl : (dgOf l).proto = _)
  have hk' : ((readR l).kind == 5) = false := by simpa using hk
  rw [← hpr.out] at hpk
  go_enter Try.func6, Try.ntmps6
  go_wp2_with fail
  refine (awake6_any _).mono ?_
  rintro e w1 ⟨rfl, hb1⟩
  go_wp2_with fail
  refine (hrd _ hb1).mono ?_
  rintro e w2 ⟨a1, k1, a2, k2, rfl, -, -, hb2⟩
  obtain ⟨C, hC⟩ : ∃ C, frC (dgOf l) (.slice a1 (dgOf l).opts.length k1) (.slice a2 (dgOf l).body.length k2) (readR l) = C := ⟨_, rfl⟩
  have hC22 : C.size = 22 := by rw [← hC]; rfl
  obtain ⟨W5, F5, hb5, hst5⟩ := fr_var w2 C hC22 (by rw [← hC]; exact oneFr _ _ _ _ _ _ _ _)
  have c6 : W5.cell? ⟨w2.heap.size, 6, none⟩ = some (.int .i64 (dgOf l).proto) := F5.c 6 _ (by rw [← hC]; rfl)
  have c9 : W5.cell? ⟨w2.heap.size, 9, none⟩ = some (.slice a1 (h - 20) k1) := F5.c 9 _ (by rw [← hC, ← ho]; rfl)
  have c11 : W5.cell? ⟨w2.heap.size, 11, none⟩ = some (.int .i64 (readR l).kind) := F5.c 11 _ (by rw [← hC]; rfl)
  have c12 : W5.cell? ⟨w2.heap.size, 12, none⟩ = some (.int .u32 (dgOf l).src) := F5.c 12 _ (by rw [← hC]; rfl)
  have c13 : W5.cell? ⟨w2.heap.size, 13, none⟩ = some (.int .i64 (readR l).fp) := F5.c 13 _ (by rw [← hC]; rfl)
  have c14 : W5.cell? ⟨w2.heap.size, 14, none⟩ = some (.int .u32 (dgOf l).dst) := F5.c 14 _ (by rw [← hC]; rfl)
  have c15 : W5.cell? ⟨w2.heap.size, 15, none⟩ = some (.int .i64 (readR l).tp) := F5.c 15 _ (by rw [← hC]; rfl)
  rw [hC]
  have hx5 := below_trans hb1 (below_trans hb2 hb5)
  obtain ⟨o, hho⟩ : ∃ o, h = o + 20 := ⟨h - 20, by omega⟩
  have hs5 := hb5.size
  subst hho
  rw [show o + 20 - 20 = o by omega] at c9
  clear hC F5 hb5 hb2 hb1 hrd hA hy hk s ho hpr
  have hnn : 0 ≤ n ∨ n < 0 := by omega
  go_wp2_with fail
  all_goals
    first
      | (have hM : 28 + o = m := by omega
         rw [hM])
      | (have hM : n.toNat = m := by omega
         rw [hM])
    refine (hq1 _ hx5).mono ?_
    rintro e w6 ⟨rfl, hb6⟩
    have hb67 := below_trans hb6 (below_alloc w6 (.cells (inC ⟨(dgOf l).proto, (dgOf l).src, (readR l).fp, (dgOf l).dst, (readR l).tp⟩) 35))
    have hx7 := below_trans hx5 hb67
    have d6 := cell_later hb6 c6
    have d11 := cell_later hb6 c11
    have d12 := cell_later hb6 c12
    have d13 := cell_later hb6 c13
    have d14 := cell_later hb6 c14
    have d15 := cell_later hb6 c15
    clear hM
    go_wp2_with fail
    rw [show 27 + o = o + 20 + 7 by omega]
    refine (hq2 _ hx7).mono ?_
    rintro e w8 ⟨rfl, hb8⟩
    have hb68 := below_trans (below_alloc _ _) hb8
    obtain ⟨W9, hW9⟩ : ∃ W9, W9 = w8.alloc (.cells (inC Inn.zero) 35) := ⟨_, rfl⟩
    have hb9 : Below w8.heap.size w8 W9 := by rw [hW9]; exact below_alloc _ _
    have x0 := cell_later hb9 (box_cell hb8 0 _ rfl)
    have x1 := cell_later hb9 (box_cell hb8 1 _ rfl)
    have x2 := cell_later hb9 (box_cell hb8 2 _ rfl)
    have x3 := cell_later hb9 (box_cell hb8 3 _ rfl)
    have x4 := cell_later hb9 (box_cell hb8 4 _ rfl)
    have hb69 := below_trans hb68 hb9
    have d6 := cell_later hb69 d6
    have d11 := cell_later hb69 d11
    have d12 := cell_later hb69 d12
    have d13 := cell_later hb69 d13
    have d14 := cell_later hb69 d14
    have d15 := cell_later hb69 d15
    have HX : Hid (Below w.heap.size w W9) := below_trans hx7 (below_trans hb8 hb9)
    have hpa := fun W => proto_any (readR l).kind W
    rw [hpk] at hpa
    have HW : Hid (w8.alloc (.cells (inC Inn.zero) 35) = W9) := hW9.symm
    clear hb8 hb68 hb69 hb9 hW9 c6 c11 c12 c13 c14 c15 c9 hb6 hb67 hx7 hx5 hq1 hq2 hs1 hs2 hst5 hpk hm
    go_wp2_with fail
    rw [HW.out]
    clear HW
    go_quiet ((go_at_call 17; refine Calls.quiet_of_same (hpa _)))
    go_wp2
    go_ret
    exact ⟨rfl, below_drewN HX.out _⟩

theorem walk (v0 v1 : Value) (w : World) (V0 : IsBts w v0) (V1 : IsI64 w v1) :
    Calls Try.prog 6 #[v0, v1] w fun e w' => e = .returned (.bool true) ∧ Below w.heap.size w w' := by
  obtain ⟨l, ⟨a, cap, b, off, rfl, h2, h3, h4, h5, h6⟩, -⟩ := V0
  obtain ⟨n, rfl, -, -⟩ := V1
  have hA : At w b off l.length cap l := ⟨h2, h3, rfl, h4, h6⟩
  by_cases h1 : 5000 < l.length
  · exact walk_big a l.length cap n w h1
  by_cases hy : (readR l).why = 0
  · obtain ⟨hE, -, -⟩ := readR_ok l hy
    have hl := (good_of l hE).b
    rcases h5 with rfl | rfl
    case inr => simp at hl
    by_cases hk : (readR l).kind = 5
    · exact walk_fault b off l.length cap l n w hA (by omega) hy hk
    · obtain ⟨h, s⟩ := shown_of l hy hk
      have := s.len
      by_cases q : n < (h : Int) + 8 ∨ (l.length : Int) < n
      · exact walk_short b off l.length cap l n h (h + 8) w hA (by omega) hy hk s (.inl ⟨q, rfl⟩)
      · exact walk_short b off l.length cap l n h n.toNat w hA (by omega) hy hk s (.inr ⟨by omega, by omega, by omega⟩)
  · exact walk_no a b off l.length cap l n w h5 hA (by omega) hy

set_option maxRecDepth 100000 in
theorem lifted (os : Os) (started : os.Started) (H : Type) (enc : TypeId × Value → H) :
    ReturnsInHanded {} Try.checked os 6 .any (Rows.frameShortSpec.pre6 enc Try.prog Try.f6 Rows.frameShortRow.domain false) (Rows.frameShortSpec.post enc Try.prog Try.f6 false true false false) := by
  refine returnsInHanded_of_change_sized (C := Try.checked) own started (by kernel_rfl) Try.func6
    (ChangeSpec.witness6 (enc := enc) (C := Try.checked) false ⟨#[], #[.slice none 0 0, .int .i64 0], []⟩ 8 (by kernel_rfl) (by kernel_rfl) (by kernel_rfl) (by kernel_rfl)) ?_
  intro W base args ds gs before hval0 hW hcnd hsz0 _
  have hval : ∀ (j : Nat) t v, Try.f6.params[j]? = some t → args[j]? = some v → Value.okWide Try.prog W .any base t v := hval0
  have hsz : ∀ n ∈ DataW.weightsEach Try.prog (Try.f6.params.toList ++ Rows.frameShortSpec.plain.varTypes Try.prog) (ds ++ gs), n ≤ reachBytes := fun n hn => by simpa using List.all_eq_true.1 hsz0 n hn
  have hW' := hW
  obtain ⟨p, q, hA0, hV, rfl, hfz, hnd⟩ := hW
  have hA : DataW.TrodAll enc Try.prog W 0 (fun _ => true) true Try.f6.params.toList args.toList ds p := hA0
  rw [Try.params6] at hA hval hsz
  obtain ⟨v0, vs0, d0, ds0, p0, q0, hargs, rfl, rfl, h0, r0⟩ := trodAll_cons hA
  obtain ⟨v1, vs1, d1, ds1, p1, q1, rfl, rfl, rfl, h1, r1⟩ := trodAll_cons r0
  obtain ⟨rfl, rfl, rfl⟩ := trodAll_nil r1
  obtain rfl : args = #[v0, v1] := by cases args; simp_all
  obtain ⟨rfl, rfl⟩ := trodVars_none hV
  have lt0 : ∀ x ∈ p0, x.block < W.heap.size := by obtain ⟨m, hm⟩ := h0; exact DataW.trod_lt m _ _ _ hm
  have V0 := view26 (hval 0 23 v0 rfl rfl) h0 (fun n hn => hsz n (DataW.weights_mem_each (j := 0) rfl rfl n hn))
  have lt1 : ∀ x ∈ p1, x.block < W.heap.size := by obtain ⟨m, hm⟩ := h1; exact DataW.trod_lt m _ _ _ hm
  have V1 := view3 (hval 1 3 v1 rfl rfl) h1 (fun n hn => hsz n (DataW.weights_mem_each (j := 1) rfl rfl n hn))
  clear hA0 hval0 hsz0 hsz
  refine (walk v0 v1 W V0 V1).mono fun e W' ⟨he, bel⟩ => ?_
  subst he
  exact ⟨_, rfl, _, _, _, [], _, [], hW', trodAll_mk1 (shut_bool Try.underlying4 _), (trodAll_cons_mk (Below.trod laidOut (by kernel_rfl) (of_decide_eq_true (by kernel_rfl)) h0 bel lt0) (trodAll_cons_mk (Below.trod laidOut (by kernel_rfl) (of_decide_eq_true (by kernel_rfl)) h1 bel lt1) trodAll_mk0)), rfl, bel.frame _, fun h => by cases h⟩

theorem over : Rows.frameShortRow.holds Try.pinned (OpenSpec.ofChange Rows.frameShortSpec) :=
  OpenClaim.holds_of_wide 6 Try.f6 rfl rfl rfl rfl rfl rfl rfl ⟨rfl, rfl, rfl, rfl, rfl⟩ rfl rfl rfl rfl rfl (by kernel_rfl) Try.func6 (by kernel_rfl)
    (of_decide_eq_true (by kernel_rfl)) (by unfold Func.isWrapper; first | (rw [if_pos (by decide +kernel)]; kernel_rfl) | (rw [if_neg (by decide +kernel)]; exact ⟨rfl, rfl⟩))
    (fun os started H enc _ => lifted os started H enc)

end Go.Proofs.Ytdejjokgchbgnaa.frameShort
namespace Go.Proofs.Ytdejjokgchbgnaa
theorem frameShort_holds : Rows.FrameShortSaid := frameShort.over
#print axioms frameShort_holds
end Go.Proofs.Ytdejjokgchbgnaa
