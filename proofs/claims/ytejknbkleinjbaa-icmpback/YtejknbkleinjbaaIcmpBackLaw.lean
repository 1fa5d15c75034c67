/- IcmpBack: for all messages and all places the call returns true: what was built is read back; one bit that is turned is found. No condition. -/
import Derived.Test.YtejknbkleinjbaaIcmpAwake
import Derived.Test.YtejknbkleinjbaaIcmpParse
namespace Go.Proofs.Ytejknbkleinjbaa.icmpBack
open Go.ChangeShapes Go.WideShapes Go.ChangeAt Go.RowKit

/-- One bit that is turned: another byte. -/
theorem turn_bit : ∀ j : Fin 8, ∀ x : Fin 256, 0 ≤ bits .xor .u8 (x.val : Int) (2 ^ j.val) ∧ bits .xor .u8 (x.val : Int) (2 ^ j.val) < 256 ∧ bits .xor .u8 (x.val : Int) (2 ^ j.val) ≠ (x.val : Int) := by
  decide +kernel

theorem turn_bit' (j : Nat) (hj : j < 8) (x : Int) (h0 : 0 ≤ x) (h1 : x < 256) : 0 ≤ bits .xor .u8 x (2 ^ j) ∧ bits .xor .u8 x (2 ^ j) < 256 ∧ bits .xor .u8 x (2 ^ j) ≠ x := by
  obtain ⟨n, rfl⟩ := Int.eq_ofNat_of_zero_le h0
  exact turn_bit ⟨j, hj⟩ ⟨n, by omega⟩

theorem boxesW {w w' : World} {m : Wd} {vd : Value} {t : TypeId} (hb : Below (w.alloc (.cells (wdC m vd) t)).heap.size (w.alloc (.cells (wdC m vd) t)) w') :
    w'.cell? ⟨w.heap.size, 0, none⟩ = some (.int .i64 m.type) ∧ w'.cell? ⟨w.heap.size, 1, none⟩ = some (.int .i64 m.code) ∧ w'.cell? ⟨w.heap.size, 2, none⟩ = some (.int .u32 m.rest) ∧ w'.cell? ⟨w.heap.size, 3, none⟩ = some vd :=
  ⟨box_cell hb 0 _ rfl, box_cell hb 1 _ rfl, box_cell hb 2 _ rfl, box_cell hb 3 _ rfl⟩

theorem wparse_ok' (b off len cap : Nat) (l : List Int) (m : Wd) (w : World) (hA : At w b off len cap l) (hl : len ≤ 1099511627776) (g : WGood l) (hm : wdOf l = m) :
    Calls Try.prog 11 #[.slice (some ⟨b, off, none⟩) len cap] w fun e w' =>
      ∃ a1 k1, e = .returned (.tuple #[wdV m (.slice a1 m.data.length k1), .int .i64 0]) ∧ Bts w' (.slice a1 m.data.length k1) m.data ∧ Below w.heap.size w w' := by
  subst hm; exact wparse_ok b off len cap l w hA hl g

set_option maxHeartbeats 1000000 in
theorem walk_big (m : Wd) (a : Option Addr) (c : Nat) (q : Int) (w : World) (h : 5000 < m.data.length) :
    Calls Try.prog 6 #[wdV m (.slice a m.data.length c), .int .i64 q] w fun e w' => e = .returned (.bool true) ∧ Below w.heap.size w w' := by
  have h' : (5000 : Int) < (m.data.length : Int) := by omega
  go_enter Try.func6, Try.ntmps6
  go_wp2_with fail
  refine (awake5_any _).mono ?_
  rintro e w1 ⟨rfl, hb1⟩
  obtain ⟨d0, d1, d2, d3⟩ := boxesW hb1
  go_wp2
  go_ret
  exact ⟨rfl, below_trans (below_alloc _ _) hb1⟩

set_option maxHeartbeats 1000000 in
theorem walk_no (m : Wd) (a : Option Addr) (c : Nat) (q : Int) (w : World) (h : m.data.length ≤ 5000) (hE : ¬ buildW m = 0) :
    Calls Try.prog 6 #[wdV m (.slice a m.data.length c), .int .i64 q] w fun e w' => e = .returned (.bool true) ∧ Below w.heap.size w w' := by
  have h' : ¬ (5000 : Int) < (m.data.length : Int) := by omega
  have HE : Hid (¬ buildW m = 0) := hE
  obtain ⟨E, hEE⟩ : ∃ E, buildW m = E := ⟨_, rfl⟩
  have hne : (E != 0) = true := by rw [bne_iff_ne, ← hEE]; exact hE
  clear hE
  go_enter Try.func6, Try.ntmps6
  go_wp2_with fail
  refine (awake5_any _).mono ?_
  rintro e w1 ⟨rfl, hb1⟩
  obtain ⟨d0, d1, d2, d3⟩ := boxesW hb1
  go_wp2_with fail
  refine (wbuild_no m a c _ (by omega) HE.out).mono ?_
  rintro e w2' ⟨rfl, hb2⟩
  rw [hEE]
  clear d0 d1 d2 d3 hEE
  go_wp2
  go_ret
  exact ⟨rfl, below_trans (below_alloc _ _) (below_trans hb1 hb2)⟩

set_option maxRecDepth 100000 in
set_option maxHeartbeats 4000000 in
theorem walk_neg (m : Wd) (a : Option Addr) (c : Nat) (q : Int) (w : World) (k : m.Ok) (f : WFits m) (hD : Bts w (.slice a m.data.length c) m.data) (hq : q < 0) :
    Calls Try.prog 6 #[wdV m (.slice a m.data.length c), .int .i64 q] w fun e w' => e = .returned (.bool true) ∧ Below w.heap.size w w' := by
  have hlen := f.all
  have h' : ¬ (5000 : Int) < (m.data.length : Int) := by omega
  have HF : Hid (WFits m) := f
  have HK : Hid (m.Ok) := k
  have HN : Hid ((builtW m).length = 8 + m.data.length) := builtW_length m
  clear k f
  go_enter Try.func6, Try.ntmps6
  go_wp2_with fail
  refine (awake5_any _).mono ?_
  rintro e w1 ⟨rfl, hb1⟩
  obtain ⟨d0, d1, d2, d3⟩ := boxesW hb1
  have hbw := below_trans (below_alloc w (.cells (wdC m (.slice a m.data.length c)) 26)) hb1
  go_wp2_with fail
  refine (wbuild_ok m a c _ HK.out HF.out (hD.later hbw)).mono ?_
  rintro e w2' ⟨v, rfl, hF, hb2⟩
  obtain ⟨g, cap, rfl, hge, q2, q3, q4, q5, q6⟩ := hF
  rw [HN.out] at q2 q6 ⊢
  have hA2 : At w2' g 0 (8 + m.data.length) cap (builtW m) := ⟨q2, q3, HN.out, q4, q5⟩
  clear d0 d1 d2 d3 q4 q5
  go_wp2_with fail
  refine (wparse_ok' g 0 (8 + m.data.length) cap (builtW m) m _ hA2 (by omega) (wgood_built m HK.out.data) (wd_built m HK.out HF.out)).mono ?_
  rintro e w3 ⟨a1, k1, rfl, hv1, hb3⟩
  have hp3 := below_alloc w3 (.cells (wdC m (.slice a1 m.data.length k1)) 26)
  have hx3 := below_trans hb1 (below_trans hb2 hb3)
  obtain ⟨d0, d1, d2, d3⟩ := boxesW hx3
  have hlt3 : w.heap.size < w3.heap.size := World.block_lt_of_cell? w3 _ d0
  have q1 := hD.later (below_trans hbw (below_trans hb2 (below_trans hb3 hp3)))
  have r1 := hv1.later hp3
  go_wp2_with fail
  refine (wsame_one m _ _ _ r1 q1).mono ?_
  rintro e w5 ⟨rfl, hb5⟩
  have hx5 := below_trans hb3 (below_trans hp3 hb5)
  have hy5 : Below w.heap.size w w5 := below_trans hbw (below_trans hb2 hx5)
  have hA5 := hA2.later hx5
  have hgw : w.heap.size < g := by have := hb1.size; simp only [World.size_alloc] at this; omega
  have hgl : g < w2'.heap.size := World.block_lt_of_cell? w2' _ (hA2.sees 0 (by rw [HN.out]; omega))
  have F5 : ∀ i, i < 8 + m.data.length → w5.frozen? ⟨g, i, none⟩ = false := fun i hi => by rw [hx5.frozen (by exact hgl)]; exact q6 i hi
  clear d0 d1 d2 d3 r1 q1 hb1 hb2 hb3 hb5 hp3 hx3 hv1 hA2 q6 hx5 hlt3 hgl hD hbw
  clear hA5 F5 hgw hge q2 q3
  go_wp2
  go_ret
  exact ⟨rfl, hy5⟩

set_option maxRecDepth 100000 in
set_option maxHeartbeats 4000000 in
theorem walk_far (m : Wd) (a : Option Addr) (c : Nat) (i j : Nat) (w : World) (k : m.Ok) (f : WFits m) (hD : Bts w (.slice a m.data.length c) m.data) (hj : j < 8) (hi : 8 + m.data.length ≤ i) (hq : 8 * (i : Int) + (j : Int) < 9223372036854775808) :
    Calls Try.prog 6 #[wdV m (.slice a m.data.length c), .int .i64 (8 * (i : Int) + (j : Int))] w fun e w' => e = .returned (.bool true) ∧ Below w.heap.size w w' := by
  have z1 : ¬ 8 * (i : Int) + (j : Int) < 0 := by omega
  have z4 : (8 * (i : Int) + (j : Int)) / 8 = (i : Int) := by omega
  have z5 : 8 + (m.data.length : Int) ≤ (i : Int) := by omega
  have HZ : Hid (¬ 8 * (i : Int) + (j : Int) < 0 ∧ (8 * (i : Int) + (j : Int)) / 8 = (i : Int) ∧ 8 + (m.data.length : Int) ≤ (i : Int) ∧ 8 * (i : Int) + (j : Int) < 9223372036854775808) := ⟨z1, z4, z5, hq⟩
  clear z1 z4 z5 hi hq hj
  have hlen := f.all
  have h' : ¬ (5000 : Int) < (m.data.length : Int) := by omega
  have HF : Hid (WFits m) := f
  have HK : Hid (m.Ok) := k
  have HN : Hid ((builtW m).length = 8 + m.data.length) := builtW_length m
  clear k f
  go_enter Try.func6, Try.ntmps6
  go_wp2_with fail
  refine (awake5_any _).mono ?_
  rintro e w1 ⟨rfl, hb1⟩
  obtain ⟨d0, d1, d2, d3⟩ := boxesW hb1
  have hbw := below_trans (below_alloc w (.cells (wdC m (.slice a m.data.length c)) 26)) hb1
  go_wp2_with fail
  refine (wbuild_ok m a c _ HK.out HF.out (hD.later hbw)).mono ?_
  rintro e w2' ⟨v, rfl, hF, hb2⟩
  obtain ⟨g, cap, rfl, hge, q2, q3, q4, q5, q6⟩ := hF
  rw [HN.out] at q2 q6 ⊢
  have hA2 : At w2' g 0 (8 + m.data.length) cap (builtW m) := ⟨q2, q3, HN.out, q4, q5⟩
  clear d0 d1 d2 d3 q4 q5
  go_wp2_with fail
  refine (wparse_ok' g 0 (8 + m.data.length) cap (builtW m) m _ hA2 (by omega) (wgood_built m HK.out.data) (wd_built m HK.out HF.out)).mono ?_
  rintro e w3 ⟨a1, k1, rfl, hv1, hb3⟩
  have hp3 := below_alloc w3 (.cells (wdC m (.slice a1 m.data.length k1)) 26)
  have hx3 := below_trans hb1 (below_trans hb2 hb3)
  obtain ⟨d0, d1, d2, d3⟩ := boxesW hx3
  have hlt3 : w.heap.size < w3.heap.size := World.block_lt_of_cell? w3 _ d0
  have q1 := hD.later (below_trans hbw (below_trans hb2 (below_trans hb3 hp3)))
  have r1 := hv1.later hp3
  go_wp2_with fail
  refine (wsame_one m _ _ _ r1 q1).mono ?_
  rintro e w5 ⟨rfl, hb5⟩
  have hx5 := below_trans hb3 (below_trans hp3 hb5)
  have hy5 : Below w.heap.size w w5 := below_trans hbw (below_trans hb2 hx5)
  have hA5 := hA2.later hx5
  have hgw : w.heap.size < g := by have := hb1.size; simp only [World.size_alloc] at this; omega
  have hgl : g < w2'.heap.size := World.block_lt_of_cell? w2' _ (hA2.sees 0 (by rw [HN.out]; omega))
  have F5 : ∀ i, i < 8 + m.data.length → w5.frozen? ⟨g, i, none⟩ = false := fun i hi => by rw [hx5.frozen (by exact hgl)]; exact q6 i hi
  clear d0 d1 d2 d3 r1 q1 hb1 hb2 hb3 hb5 hp3 hx3 hv1 hA2 q6 hx5 hlt3 hgl hD hbw
  clear hA5 F5 hgw hge q2 q3
  obtain ⟨z1, z4, z5, hq⟩ := HZ.out
  go_wp2
  go_ret
  exact ⟨rfl, hy5⟩

set_option maxRecDepth 100000 in
set_option maxHeartbeats 4000000 in
theorem walk_in (m : Wd) (a : Option Addr) (c : Nat) (i j : Nat) (w : World) (k : m.Ok) (f : WFits m) (hD : Bts w (.slice a m.data.length c) m.data) (hj : j < 8) (hi : i < 8 + m.data.length) :
    Calls Try.prog 6 #[wdV m (.slice a m.data.length c), .int .i64 (8 * (i : Int) + (j : Int))] w fun e w' => e = .returned (.bool true) ∧ Below w.heap.size w w' := by
  have z1 : ¬ 8 * (i : Int) + (j : Int) < 0 := by omega
  have z4 : (8 * (i : Int) + (j : Int)) / 8 = (i : Int) := by omega
  have z5 : (8 * (i : Int) + (j : Int)) % 8 = (j : Int) := by omega
  have z6 : ¬ 8 + (m.data.length : Int) ≤ (i : Int) := by omega
  have hil : (i : Int) < 8 + (m.data.length : Int) := by omega
  have hlen := f.all
  have h' : ¬ (5000 : Int) < (m.data.length : Int) := by omega
  have HF : Hid (WFits m) := f
  have HK : Hid (m.Ok) := k
  have HN : Hid ((builtW m).length = 8 + m.data.length) := builtW_length m
  clear k f
  have HB := getD_byte (builtW m) (builtW_bytes m HK.out.data) i
  have HLB : Hid (i < (builtW m).length) := by show _ < _; rw [HN.out]; exact hi
  go_enter Try.func6, Try.ntmps6
  go_wp2_with fail
  refine (awake5_any _).mono ?_
  rintro e w1 ⟨rfl, hb1⟩
  obtain ⟨d0, d1, d2, d3⟩ := boxesW hb1
  have hbw := below_trans (below_alloc w (.cells (wdC m (.slice a m.data.length c)) 26)) hb1
  go_wp2_with fail
  refine (wbuild_ok m a c _ HK.out HF.out (hD.later hbw)).mono ?_
  rintro e w2' ⟨v, rfl, hF, hb2⟩
  obtain ⟨g, cap, rfl, hge, q2, q3, q4, q5, q6⟩ := hF
  rw [HN.out] at q2 q6 ⊢
  have hA2 : At w2' g 0 (8 + m.data.length) cap (builtW m) := ⟨q2, q3, HN.out, q4, q5⟩
  clear d0 d1 d2 d3 q4 q5
  go_wp2_with fail
  refine (wparse_ok' g 0 (8 + m.data.length) cap (builtW m) m _ hA2 (by omega) (wgood_built m HK.out.data) (wd_built m HK.out HF.out)).mono ?_
  rintro e w3 ⟨a1, k1, rfl, hv1, hb3⟩
  have hp3 := below_alloc w3 (.cells (wdC m (.slice a1 m.data.length k1)) 26)
  have hx3 := below_trans hb1 (below_trans hb2 hb3)
  obtain ⟨d0, d1, d2, d3⟩ := boxesW hx3
  have hlt3 : w.heap.size < w3.heap.size := World.block_lt_of_cell? w3 _ d0
  have q1 := hD.later (below_trans hbw (below_trans hb2 (below_trans hb3 hp3)))
  have r1 := hv1.later hp3
  go_wp2_with fail
  refine (wsame_one m _ _ _ r1 q1).mono ?_
  rintro e w5 ⟨rfl, hb5⟩
  have hx5 := below_trans hb3 (below_trans hp3 hb5)
  have hy5 : Below w.heap.size w w5 := below_trans hbw (below_trans hb2 hx5)
  have hA5 := hA2.later hx5
  have hgw : w.heap.size < g := by have := hb1.size; simp only [World.size_alloc] at this; omega
  have hgl : g < w2'.heap.size := World.block_lt_of_cell? w2' _ (hA2.sees 0 (by rw [HN.out]; omega))
  have F5 : ∀ i, i < 8 + m.data.length → w5.frozen? ⟨g, i, none⟩ = false := fun i hi => by rw [hx5.frozen (by exact hgl)]; exact q6 i hi
  clear d0 d1 d2 d3 r1 q1 hb1 hb2 hb3 hb5 hp3 hx3 hv1 hA2 q6 hx5 hlt3 hgl hD hbw
  have c0 : w5.cell? ⟨g, i, none⟩ = some (.int .u8 ((builtW m).getD i 0)) := by have := hA5.sees i HLB.out; rwa [Nat.zero_add] at this
  have c1 := F5 i hi
  generalize hX : (builtW m).getD i 0 = X at *
  go_wp2_with fail
  have hp : (2 : Int) ^ j % 256 = 2 ^ j := by
    have : j = 0 ∨ j = 1 ∨ j = 2 ∨ j = 3 ∨ j = 4 ∨ j = 5 ∨ j = 6 ∨ j = 7 := by omega
    rcases this with rfl | rfl | rfl | rfl | rfl | rfl | rfl | rfl <;> decide
  rw [hp]
  obtain ⟨y0, y1, y2⟩ := turn_bit' j hj X HB.1 HB.2
  generalize bits .xor .u8 X (2 ^ j) = Y at *
  have HP : Hid (parseW ((builtW m).set i Y) = 5) := turnedW m HK.out i Y HLB.out y0 y1 (by rw [hX]; exact y2)
  have hA : At (w5.setCell ⟨g, i, none⟩ (.int .u8 Y)) g 0 (8 + m.data.length) cap ((builtW m).set i Y) := by
    refine ⟨q2, q3, by rw [List.length_set]; exact HN.out, ?_, ?_⟩
    · intro z hz
      rcases List.mem_or_eq_of_mem_set hz with h | rfl
      · exact hA5.bytes z h
      · exact ⟨y0, y1⟩
    · intro n hn
      rw [List.length_set] at hn
      by_cases hni : n = i
      · subst hni
        simp [go_sem, c0, hn]
      · have hni' : ¬ i = n := fun h => hni h.symm
        have := hA5.sees n hn
        rw [Nat.zero_add] at this
        simp [go_sem, List.getD, List.getElem?_set_ne hni', this]
  refine (wparse_no _ g 0 (8 + m.data.length) cap _ _ (.inl rfl) hA (by omega) (by rw [HP.out]; decide)).mono ?_
  rintro e w6 ⟨rfl, hb6⟩
  rw [HP.out]
  have hx6 : Below w.heap.size w w6 := (hy5.setCell (by show w.heap.size ≤ g; omega) _).trans (hb6.mono (by have := hy5.size; simpa using this))
  clear c0 c1 hA hA5 F5 hb6
  go_wp2
  go_ret
  exact ⟨rfl, by first | exact hx6 | exact below_trans hx6 (below_alloc _ _)⟩

theorem walk (v0 v1 : Value) (w : World) (V0 : IsWd w v0) (V1 : IsI64 w v1) :
    Calls Try.prog 6 #[v0, v1] w fun e w' => e = .returned (.bool true) ∧ Below w.heap.size w w' := by
  obtain ⟨m, a, c, rfl, k, hD, -⟩ := V0
  obtain ⟨q, rfl, -, hq⟩ := V1
  by_cases h1 : 5000 < m.data.length
  · exact walk_big m a c q w h1
  by_cases h2 : buildW m = 0
  case neg => exact walk_no m a c q w (by omega) h2
  have f := wfits_of m h2
  by_cases h3 : q < 0
  · exact walk_neg m a c q w k f hD h3
  obtain ⟨i, j, hj, rfl⟩ : ∃ i j : Nat, j < 8 ∧ q = 8 * (i : Int) + (j : Int) := ⟨(q / 8).toNat, (q % 8).toNat, by omega, by omega⟩
  by_cases h4 : 8 + m.data.length ≤ i
  · exact walk_far m a c i j w k f hD hj h4 hq
  exact walk_in m a c i j w k f hD hj (by omega)

set_option maxRecDepth 100000 in
theorem lifted (os : Os) (started : os.Started) (H : Type) (enc : TypeId × Value → H) :
    ReturnsInHanded {} Try.checked os 6 .any (Rows.icmpBackSpec.pre6 enc Try.prog Try.f6 Rows.icmpBackRow.domain false) (Rows.icmpBackSpec.post enc Try.prog Try.f6 false true false false) := by
  refine returnsInHanded_of_change_sized (C := Try.checked) own started (by kernel_rfl) Try.func6
    (ChangeSpec.witness6 (enc := enc) (C := Try.checked) false ⟨#[], #[.agg #[.int .i64 0, .int .i64 0, .int .u32 0, .slice none 0 0], .int .i64 0], []⟩ 8 (by kernel_rfl) (by kernel_rfl) (by kernel_rfl) (by kernel_rfl)) ?_
  intro W base args ds gs before hval0 hW hcnd hsz0 _
  have hval : ∀ (j : Nat) t v, Try.f6.params[j]? = some t → args[j]? = some v → Value.okWide Try.prog W .any base t v := hval0
  have hsz : ∀ n ∈ DataW.weightsEach Try.prog (Try.f6.params.toList ++ Rows.icmpBackSpec.plain.varTypes Try.prog) (ds ++ gs), n ≤ reachBytes := fun n hn => by simpa using List.all_eq_true.1 hsz0 n hn
  have hW' := hW
  obtain ⟨p, q, hA0, hV, rfl, hfz, hnd⟩ := hW
  have hA : DataW.TrodAll enc Try.prog W 0 (fun _ => true) true Try.f6.params.toList args.toList ds p := hA0
  rw [Try.params6] at hA hval hsz
  obtain ⟨v0, vs0, d0, ds0, p0, q0, hargs, rfl, rfl, h0, r0⟩ := trodAll_cons hA
  obtain ⟨v1, vs1, d1, ds1, p1, q1, rfl, rfl, rfl, h1, r1⟩ := trodAll_cons r0
  obtain ⟨rfl, rfl, rfl⟩ := trodAll_nil r1
  obtain rfl : args = #[v0, v1] := by cases args; simp_all
  obtain ⟨rfl, rfl⟩ := trodVars_none hV
  have lt0 : ∀ x ∈ p0, x.block < W.heap.size := by obtain ⟨m, hm⟩ := h0; exact DataW.trod_lt m _ _ _ hm
  have V0 := viewWd (hval 0 26 v0 rfl rfl) h0 (fun n hn => hsz n (DataW.weights_mem_each (j := 0) rfl rfl n hn))
  have lt1 : ∀ x ∈ p1, x.block < W.heap.size := by obtain ⟨m, hm⟩ := h1; exact DataW.trod_lt m _ _ _ hm
  have V1 := view3 (hval 1 3 v1 rfl rfl) h1 (fun n hn => hsz n (DataW.weights_mem_each (j := 1) rfl rfl n hn))
  clear hA0 hval0 hsz0 hsz
  refine (walk v0 v1 W V0 V1).mono fun e W' ⟨he, bel⟩ => ?_
  subst he
  exact ⟨_, rfl, _, _, _, [], _, [], hW', trodAll_mk1 (shut_bool Try.underlying4 _), (trodAll_cons_mk (Below.trod laidOut (by kernel_rfl) (of_decide_eq_true (by kernel_rfl)) h0 bel lt0) (trodAll_cons_mk (Below.trod laidOut (by kernel_rfl) (of_decide_eq_true (by kernel_rfl)) h1 bel lt1) trodAll_mk0)), rfl, bel.frame _, fun h => by cases h⟩

theorem over : Rows.icmpBackRow.holds Try.pinned (OpenSpec.ofChange Rows.icmpBackSpec) :=
  OpenClaim.holds_of_wide 6 Try.f6 rfl rfl rfl rfl rfl rfl rfl ⟨rfl, rfl, rfl, rfl, rfl⟩ rfl rfl rfl rfl rfl (by kernel_rfl) Try.func6 (by kernel_rfl)
    (of_decide_eq_true (by kernel_rfl)) (by unfold Func.isWrapper; first | (rw [if_pos (by decide +kernel)]; kernel_rfl) | (rw [if_neg (by decide +kernel)]; exact ⟨rfl, rfl⟩))
    (fun os started H enc _ => lifted os started H enc)

end Go.Proofs.Ytejknbkleinjbaa.icmpBack
namespace Go.Proofs.Ytejknbkleinjbaa
theorem icmpBack_holds : Rows.IcmpBackSaid := icmpBack.over
#print axioms icmpBack_holds
end Go.Proofs.Ytejknbkleinjbaa
