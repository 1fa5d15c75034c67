/- The contracts of lay, isPort, shown, word and Pseudo, and of Pseudo in the document's own answer. -/
import Derived.Test.YtdejjokgchbgnaaRow
import Derived.Test.YtdejjokgchbgnaaUdpMath
set_option maxRecDepth 100000
namespace Go.Proofs.Ytdejjokgchbgnaa
open Go.RowKit

set_option maxHeartbeats 400000 in
theorem ulay_yes (b off len cap : Nat) (l : List Int) (q m : Int) (p n : Nat) (x : Int) (w : World) (hq : q = (p : Int)) (hm : m = (n : Int)) (hL : l.length = len)
    (hs : Sees w b off l) (h1 : 1 ≤ n) (h2 : n ≤ 8) (h3 : p + n ≤ len) (hx0 : 0 ≤ x) (hx1 : x < 18446744073709551616) (hreach : len ≤ 140737488351232) :
    Calls Try.prog 76 #[.slice (some ⟨b, off, none⟩) len cap, .int .i64 q, .int .i64 m, .int .u64 x] w fun e w' =>
      ∃ G, e = .returned (.slice (some ⟨G, 0, none⟩) len len) ∧ Holds8 w' w.heap.size G len len (lay l p n x) ∧ Below w.heap.size w w' := by
  subst hq hm
  go_enter Try.func76, Try.ntmps76
  go_wp2_with fail
  refine (put_yes b off len cap l p n x _ hL hs h1 h2 h3 hx0 hx1 hreach).mono ?_
  rintro e w1 ⟨G, rfl, hH, hb⟩
  go_wp2
  go_ret
  exact ⟨G, rfl, hH, hb⟩

theorem ulay_step (b off len cap : Nat) (l : List Int) (q m : Int) (p n : Nat) (x : Int) (w w0 : World) (hb0 : Below w0.heap.size w0 w) (hq : q = (p : Int)) (hm : m = (n : Int)) (hL : l.length = len)
    (hs : Sees w b off l) (h1 : 1 ≤ n) (h2 : n ≤ 8) (h3 : p + n ≤ len) (hx0 : 0 ≤ x) (hx1 : x < 18446744073709551616) (hreach : len ≤ 140737488351232) :
    Calls Try.prog 76 #[.slice (some ⟨b, off, none⟩) len cap, .int .i64 q, .int .i64 m, .int .u64 x] w fun e w' =>
      ∃ G L', e = .returned (.slice (some ⟨G, 0, none⟩) len len) ∧ Hid (L' = lay l p n x) ∧ Hid (L'.length = len) ∧ Sees w' G 0 L' ∧ Below w0.heap.size w0 w' := by
  refine (ulay_yes b off len cap l q m p n x w hq hm hL hs h1 h2 h3 hx0 hx1 hreach).mono ?_
  rintro e w' ⟨G, rfl, hH, hb⟩
  refine ⟨G, _, rfl, (rfl : lay l p n x = lay l p n x), (by show (lay l p n x).length = len; rw [lay_length]; exact hL), ?_, below_trans hb0 hb⟩
  intro i hi
  rw [Nat.zero_add]
  exact hH.cell i (by rw [lay_length, hL] at hi; exact hi)

set_option maxHeartbeats 400000 in
theorem uword_any (b off len cap : Nat) (l : List Int) (q : Int) (k : Nat) (w : World) (hA : At w b off len cap l) (hq : q = (k : Int)) (hk : k + 2 ≤ len) :
    Calls Try.prog 69 #[.slice (some ⟨b, off, none⟩) len cap, .int .i64 q] w fun e w' => e = .returned (.int .i64 (w2 l k)) ∧ w' = w := by
  subst hq
  have hb := w2_bd l hA.bytes k
  have hc1 := hA.cap1
  have hc2 := hA.cap2
  have hg := get_yes b off len cap l k 2 w (Nat.le_trans hc1 hc2) hc1 hc2 hA.len hA.bytes hA.sees (by decide) (by decide) hk
  have e : num ((l.drop k).take 2) = w2 l k := by
    have := getV2 l k (by rw [hA.len]; exact hk)
    unfold getV at this
    rwa [if_pos (by unfold holdsB; rw [hA.len]; simp; omega), Int.toNat_natCast] at this
  rw [e] at hg
  obtain ⟨h0, h1⟩ := hb
  clear hA e
  go_enter Try.func69, Try.ntmps69
  go_wp2_with fail
  refine hg.mono ?_
  rintro e w' ⟨rfl, rfl⟩
  go_wp2
  go_ret
  exact ⟨rfl, rfl⟩

theorem umake12 : ∃ Z : Array Value, Hid (∀ j, j < 12 → Z[j]? = some (.int .u8 0)) ∧ ∀ W : World, (Instr.makeSlice 23 (.int .i64 12) (.int .i64 12)).run Try.prog W = .ok (.slice (some ⟨W.heap.size, 0, none⟩) 12 12) (W.alloc (.cells Z 5)) := by
  refine ⟨madeCells #[.int .u8 0] 12, ?_, fun W => run_make_row' (P := Try.prog) 23 5 (.int .u8 0) 1 Try.underlying23 info5 rfl .i64 .i64 12 (by decide) (by decide) W⟩
  show ∀ j, j < 12 → (madeCells #[.int .u8 0] 12)[j]? = some (.int .u8 0)
  intro j hj
  simp [madeCells, hj, Nat.mod_one]

theorem umake8 : ∃ Z : Array Value, Hid (∀ j, j < 8 → Z[j]? = some (.int .u8 0)) ∧ ∀ W : World, (Instr.makeSlice 23 (.int .i64 8) (.int .i64 8)).run Try.prog W = .ok (.slice (some ⟨W.heap.size, 0, none⟩) 8 8) (W.alloc (.cells Z 5)) := by
  refine ⟨madeCells #[.int .u8 0] 8, ?_, fun W => run_make_row' (P := Try.prog) 23 5 (.int .u8 0) 1 Try.underlying23 info5 rfl .i64 .i64 8 (by decide) (by decide) W⟩
  show ∀ j, j < 8 → (madeCells #[.int .u8 0] 8)[j]? = some (.int .u8 0)
  intro j hj
  simp [madeCells, hj, Nat.mod_one]

theorem zeros_sees (w : World) (Z : Array Value) (n : Nat) (h : ∀ j, j < n → Z[j]? = some (.int .u8 0)) : Sees (w.alloc (.cells Z 5)) w.heap.size 0 (List.replicate n 0) := by
  intro i hi
  rw [List.length_replicate] at hi
  rw [Nat.zero_add, World.cell?_alloc_mark w Z 5 (0, 0) i]
  rw [show (List.replicate n (0 : Int)).getD i 0 = 0 by simp [List.getD, hi]]
  exact h i hi

theorem u64_wrap (x : Int) : IntKind.u64.wrap x = x % 18446744073709551616 := IntKind.wrap_u64 x

set_option maxHeartbeats 1000000 in
theorem pseudo_any (s d p n : Int) (w : World) (s0 : 0 ≤ s) (s1 : s < 4294967296) (d0 : 0 ≤ d) (d1 : d < 4294967296) :
    Calls Try.prog 74 #[.int .u32 s, .int .u32 d, .int .i64 p, .int .i64 n] w fun e w' =>
      ∃ G, e = .returned (.slice (some ⟨G, 0, none⟩) 12 12) ∧ Bts w' (.slice (some ⟨G, 0, none⟩) 12 12) (pseudoB s d p n) ∧ Below w.heap.size w w' := by
  obtain ⟨Z, hZ, hmk⟩ := umake12
  have hs0 := zeros_sees w Z 12 hZ.out
  go_enter Try.func74, Try.ntmps74
  go_wp2_with fail
  refine (ulay_step w.heap.size 0 12 12 (List.replicate 12 0) 0 4 0 4 s _ w (below_alloc _ _) rfl rfl (by decide) hs0 (by decide) (by decide) (by decide) (by omega) (by omega) (by decide)).mono ?_
  rintro e w1 ⟨G1, L1, rfl, E1, HL1, hs, hb⟩
  clear hs0
  go_wp2_with fail
  refine (ulay_step G1 0 12 12 L1 4 4 4 4 d _ w hb rfl rfl HL1.out hs (by decide) (by decide) (by decide) (by omega) (by omega) (by decide)).mono ?_
  clear hs hb
  rintro e w2' ⟨G2, L2, rfl, E2, HL2, hs, hb⟩
  go_wp2_with fail
  refine (ulay_step G2 0 12 12 L2 9 1 9 1 (p % 18446744073709551616) _ w hb rfl rfl HL2.out hs (by decide) (by decide) (by decide) (by omega) (by omega) (by decide)).mono ?_
  clear hs hb
  rintro e w3 ⟨G3, L3, rfl, E3, HL3, hs, hb⟩
  go_wp2_with fail
  refine (ulay_step G3 0 12 12 L3 10 2 10 2 (n % 18446744073709551616) _ w hb rfl rfl HL3.out hs (by decide) (by decide) (by decide) (by omega) (by omega) (by decide)).mono ?_
  clear hs hb
  rintro e w4 ⟨G4, L4, rfl, E4, HL4, hs, hb⟩
  have HE : Hid (L4 = pseudoB s d p n) := by
    show L4 = pseudoB s d p n
    rw [E4.out, E3.out, E2.out, E1.out]
    show [s / 256 / 256 / 256 % 256, s / 256 / 256 % 256, s / 256 % 256, s % 256, d / 256 / 256 / 256 % 256, d / 256 / 256 % 256, d / 256 % 256, d % 256, 0, p % 18446744073709551616 % 256, n % 18446744073709551616 / 256 % 256, n % 18446744073709551616 % 256] = _
    unfold pseudoB
    simp only [List.cons.injEq, and_true, true_and]
    refine ⟨by omega, by omega, by omega, by omega, by omega, by omega, by omega⟩
  rw [HE.out] at hs
  clear E1 E2 E3 E4
  go_wp2
  go_ret
  exact ⟨G4, rfl, ⟨_, 12, G4, 0, rfl, by rw [pseudo_length]; exact Nat.le_refl _, by decide, pseudo_bytes s d p n, .inl rfl, hs⟩, hb⟩

set_option maxHeartbeats 1000000 in
theorem rpseudo_any (s d p n : Int) (w : World) (s0 : 0 ≤ s) (s1 : s < 4294967296) (d0 : 0 ≤ d) (d1 : d < 4294967296) :
    Calls Try.prog 39 #[.int .u32 s, .int .u32 d, .int .i64 p, .int .i64 n] w fun e w' =>
      ∃ v, e = .returned v ∧ Bts w' v (pseudoB s d p n) ∧ Below w.heap.size w w' := by
  go_enter Try.func39, Try.ntmps39
  go_wp2_with fail
  refine (lay_any w w.heap.size (.slice none 0 0) [] 4 4 s w (World.ownsRow_nil _ _ _ _) (Nat.le_refl _) (by simp) rfl (by decide) (Below.refl _ _)).mono ?_
  rintro e w1 ⟨v1, rfl, ho1, hb1, hz1⟩
  go_wp2_with fail
  refine (lay_any w1 w.heap.size v1 _ 4 4 d w ho1 hz1 (by simp [bytesOfN]) rfl (by decide) hb1).mono ?_
  clear ho1 hb1 hz1
  rintro e w2' ⟨v2, rfl, ho2, hb2, hz2⟩
  obtain ⟨v3, w3, hrun, ho3, hb3⟩ := append_bts (w2'.alloc (.cells #[.int .u8 0, .int .u8 (p % 256)] 5)) w.heap.size v2 _ _ _ (World.ownsRow.alloc ho2 _) ((owns_lit2 w2' 0 (p % 256)).bts (by intro z hz; simp at hz; rcases hz with rfl | rfl <;> omega)) (by simp; omega) (by simp [bytesOfN])
  have hb3' : Below w.heap.size w w3 := (hb2.alloc hz2 _).trans hb3
  have hz3 : w.heap.size ≤ w3.heap.size := by have := hb3.size; simp only [World.size_alloc] at this; omega
  clear ho2 hb2 hb3
  go_wp2_with (at_builtin; refine Lib.wpList_append_run_sl _ rfl _ _ 23 rfl _ _ rfl rfl hrun ?_)
  refine (lay_any w3 w.heap.size v3 _ 2 2 (n % 18446744073709551616) w ho3 hz3 (by simp [bytesOfN]) rfl (by decide) hb3').mono ?_
  rintro e w4 ⟨v4, rfl, ho4, hb4, hz4⟩
  have HE : Hid ((([] ++ bytesOfN 4 s) ++ bytesOfN 4 d) ++ [0, p % 256] ++ bytesOfN 2 (n % 18446744073709551616) = pseudoB s d p n) := by
    show _ = _
    simp only [bytesOfN, pseudoB, List.nil_append, List.cons_append, List.cons.injEq, and_true, true_and]
    refine ⟨by omega, by omega⟩
  have hB := ho4.bts (by rw [HE.out]; exact pseudo_bytes s d p n)
  rw [HE.out] at hB
  clear ho4 ho3 hrun HE
  go_wp2
  go_ret
  exact ⟨v4, rfl, hB, hb4⟩
end Go.Proofs.Ytdejjokgchbgnaa
