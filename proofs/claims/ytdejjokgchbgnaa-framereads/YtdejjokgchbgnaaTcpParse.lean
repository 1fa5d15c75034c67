/- The contracts of measured and of Parse. -/
import Derived.Test.YtdejjokgchbgnaaTcpBuild2
set_option maxRecDepth 100000
namespace Go.Proofs.Ytdejjokgchbgnaa
open Go.RowKit
attribute [local go_sem ↓] Go.wp_at_zero Go.wp_at_succ

theorem lead_hd (l : List Int) (hb : isBytes l) : w2 l 12 / 4096 * 4 = hdT l := by
  have h1 := getD_byte l hb 12
  have h2 := getD_byte l hb 13
  unfold w2 hdT b1
  rw [show 12 + 1 = 13 from rfl]
  omega

theorem lead_spare (l : List Int) (hb : isBytes l) : w2 l 12 / 256 % 16 = b1 l 12 % 16 := by
  have h1 := getD_byte l hb 12
  have h2 := getD_byte l hb 13
  unfold w2 b1
  rw [show 12 + 1 = 13 from rfl]
  omega

theorem lead_flags (l : List Int) (hb : isBytes l) : w2 l 12 % 256 = b1 l 13 := by
  have h1 := getD_byte l hb 12
  have h2 := getD_byte l hb 13
  unfold w2 b1
  rw [show 12 + 1 = 13 from rfl]
  omega

theorem hdT_bd (l : List Int) (hb : isBytes l) : 0 ≤ hdT l ∧ hdT l ≤ 60 := by
  have h1 := getD_byte l hb 12
  unfold hdT b1
  omega

theorem tmeas_short (s d : Int) (a : Option Addr) (len cap : Nat) (w : World) (h : len < 20) :
    Calls Try.prog 70 #[.int .u32 s, .int .u32 d, .slice a len cap] w fun e w' => e = .returned (.tuple #[.int .i64 0, .int .i64 2]) ∧ Below w.heap.size w w' := by
  have h' : (len : Int) < 20 := by omega
  go_enter Try.func70, Try.ntmps70
  go_wp2
  go_ret2
  exact ⟨rfl, Below.refl _ _⟩

set_option maxHeartbeats 1000000 in
theorem tmeas_few (s d : Int) (b off len cap : Nat) (l : List Int) (w : World) (hA : At w b off len cap l) (g1 : 20 ≤ len) (h : hdT l < 20) :
    Calls Try.prog 70 #[.int .u32 s, .int .u32 d, .slice (some ⟨b, off, none⟩) len cap] w fun e w' => e = .returned (.tuple #[.int .i64 0, .int .i64 4]) ∧ Below w.heap.size w w' := by
  have h' : ¬ (len : Int) < 20 := by omega
  have e1 := lead_hd l hA.bytes
  obtain ⟨x0, x1⟩ := w2_bd l hA.bytes 12
  have hn := tnumber2 b off len cap l 12 12 w hA rfl (by omega)
  have hx : w2 l 12 / 4096 * 4 < 20 := by rw [e1]; exact h
  generalize w2 l 12 = X at *
  clear hA e1 h
  go_enter Try.func70, Try.ntmps70
  go_wp2_with fail
  refine hn.mono ?_
  rintro e w' ⟨rfl, rfl⟩
  go_wp2_with (go_at_call 75; refine (tester_any _ _).mono ?_; rintro e w' ⟨rfl, rfl⟩)
  go_ret2
  exact ⟨rfl, below_alloc _ _⟩

set_option maxHeartbeats 1000000 in
theorem tmeas_spare (s d : Int) (b off len cap : Nat) (l : List Int) (w : World) (hA : At w b off len cap l) (g1 : 20 ≤ len) (g2 : ¬ hdT l < 20) (h : b1 l 12 % 16 ≠ 0) :
    Calls Try.prog 70 #[.int .u32 s, .int .u32 d, .slice (some ⟨b, off, none⟩) len cap] w fun e w' => e = .returned (.tuple #[.int .i64 0, .int .i64 4]) ∧ Below w.heap.size w w' := by
  have h' : ¬ (len : Int) < 20 := by omega
  have e1 := lead_hd l hA.bytes
  have e2 := lead_spare l hA.bytes
  obtain ⟨x0, x1⟩ := w2_bd l hA.bytes 12
  have hn := tnumber2 b off len cap l 12 12 w hA rfl (by omega)
  have hx : ¬ w2 l 12 / 4096 * 4 < 20 := by rw [e1]; exact g2
  have hsp : (bits .and .i64 (w2 l 12) 3840 != 0) = true := by rw [spare_bits _ x0 x1, e2]; exact decide_eq_true h
  generalize w2 l 12 = X at *
  have hc := flag_cell w X
  clear hA e1 e2 g2 h
  go_enter Try.func70, Try.ntmps70
  go_wp2_with fail
  refine hn.mono ?_
  rintro e w' ⟨rfl, rfl⟩
  go_wp2_with (first | (go_at_call 75; refine (tester_any _ _).mono ?_; rintro e w' ⟨rfl, rfl⟩) | (go_at_call 77; refine (tests_any X _ _ _ (by with_reducible exact hc)).mono ?_; rintro e w' ⟨rfl, rfl⟩))
  go_ret2
  exact ⟨rfl, below_alloc _ _⟩

set_option maxHeartbeats 1000000 in
theorem tmeas_long (s d : Int) (b off len cap : Nat) (l : List Int) (w : World) (hA : At w b off len cap l) (g1 : 20 ≤ len) (g2 : ¬ hdT l < 20) (g3 : b1 l 12 % 16 = 0) (h : (len : Int) < hdT l) :
    Calls Try.prog 70 #[.int .u32 s, .int .u32 d, .slice (some ⟨b, off, none⟩) len cap] w fun e w' => e = .returned (.tuple #[.int .i64 0, .int .i64 2]) ∧ Below w.heap.size w w' := by
  have h' : ¬ (len : Int) < 20 := by omega
  have e1 := lead_hd l hA.bytes
  have e2 := lead_spare l hA.bytes
  obtain ⟨x0, x1⟩ := w2_bd l hA.bytes 12
  have hn := tnumber2 b off len cap l 12 12 w hA rfl (by omega)
  have hx : ¬ w2 l 12 / 4096 * 4 < 20 := by rw [e1]; exact g2
  have hy : (len : Int) < w2 l 12 / 4096 * 4 := by rw [e1]; exact h
  have hsp : (bits .and .i64 (w2 l 12) 3840 != 0) = false := by rw [spare_bits _ x0 x1, e2, g3]; rfl
  generalize w2 l 12 = X at *
  have hc := flag_cell w X
  clear hA e1 e2 g2 h g3
  go_enter Try.func70, Try.ntmps70
  go_wp2_with fail
  refine hn.mono ?_
  rintro e w' ⟨rfl, rfl⟩
  go_wp2_with (first | (go_at_call 75; refine (tester_any _ _).mono ?_; rintro e w' ⟨rfl, rfl⟩) | (go_at_call 77; refine (tests_any X _ _ _ (by with_reducible exact hc)).mono ?_; rintro e w' ⟨rfl, rfl⟩))
  go_ret2
  exact ⟨rfl, below_alloc _ _⟩

set_option maxHeartbeats 4000000 in
theorem tmeas_sum (s d : Int) (b off len cap : Nat) (l : List Int) (w : World) (s0 : 0 ≤ s) (s1 : s < 4294967296) (t0 : 0 ≤ d) (t1 : d < 4294967296) (hA : At w b off len cap l) (hl : len ≤ 70000) (g1 : 20 ≤ len) (g2 : ¬ hdT l < 20) (g3 : b1 l 12 % 16 = 0) (g4 : ¬ (len : Int) < hdT l) (h : fold16 (ws (pseudoB s d 6 len ++ l)) ≠ 65535) :
    Calls Try.prog 70 #[.int .u32 s, .int .u32 d, .slice (some ⟨b, off, none⟩) len cap] w fun e w' => e = .returned (.tuple #[.int .i64 0, .int .i64 5]) ∧ Below w.heap.size w w' := by
  have h' : ¬ (len : Int) < 20 := by omega
  have e1 := lead_hd l hA.bytes
  have e2 := lead_spare l hA.bytes
  obtain ⟨x0, x1⟩ := w2_bd l hA.bytes 12
  have hn := tnumber2 b off len cap l 12 12 w hA rfl (by omega)
  have hx : ¬ w2 l 12 / 4096 * 4 < 20 := by rw [e1]; exact g2
  have hy : ¬ (len : Int) < w2 l 12 / 4096 * 4 := by rw [e1]; exact g4
  have hsp : (bits .and .i64 (w2 l 12) 3840 != 0) = false := by rw [spare_bits _ x0 x1, e2, g3]; rfl
  have hs : (fold16 (ws (pseudoB s d 6 len ++ l)) != 65535) = true := by rw [bne_iff_ne]; exact h
  have HLL : Hid (l.length = len) := hA.len
  generalize w2 l 12 = X at *
  have hc := flag_cell w X
  have hA1 := hA.later (below_alloc w (.cells #[.int .i64 X] 3))
  clear hA e1 e2 g2 h g3 g4
  go_enter Try.func70, Try.ntmps70
  go_wp2_with fail
  refine hn.mono ?_
  rintro e w' ⟨rfl, rfl⟩
  go_wp2_with (first | (go_at_call 75; refine (tester_any _ _).mono ?_; rintro e w' ⟨rfl, rfl⟩) | (go_at_call 77; refine (tests_any X _ _ _ (by with_reducible exact hc)).mono ?_; rintro e w' ⟨rfl, rfl⟩))
  refine (pseudo_any s d 6 (len : Int) _ s0 s1 t0 t1).mono ?_
  rintro e w4 ⟨G4, rfl, hP, hb4⟩
  have hB4 := (hA1.later hb4).bts
  go_wp2_with fail
  refine (sum2 w4 _ _ _ _ _ 23 (by simp) hP hB4 (by rw [pseudo_length, HLL.out]; omega)).mono ?_
  rintro e w5 ⟨rfl, rfl⟩
  have hx5 := below_trans (below_alloc w' (.cells #[.int .i64 X] 3)) (below_trans hb4 (below_alloc w4 (.cells #[.slice (some ⟨G4, 0, none⟩) 12 12, .slice (some ⟨b, off, none⟩) len cap] 23)))
  clear hP hB4 hb4 hA1
  go_wp2
  go_ret2
  exact ⟨rfl, hx5⟩

set_option maxHeartbeats 4000000 in
theorem tmeas_ok (s d : Int) (b off len cap : Nat) (l : List Int) (w : World) (s0 : 0 ≤ s) (s1 : s < 4294967296) (t0 : 0 ≤ d) (t1 : d < 4294967296) (hA : At w b off len cap l) (hl : len ≤ 70000) (g1 : 20 ≤ len) (g2 : ¬ hdT l < 20) (g3 : b1 l 12 % 16 = 0) (g4 : ¬ (len : Int) < hdT l) (h : fold16 (ws (pseudoB s d 6 len ++ l)) = 65535) :
    Calls Try.prog 70 #[.int .u32 s, .int .u32 d, .slice (some ⟨b, off, none⟩) len cap] w fun e w' => e = .returned (.tuple #[.int .i64 (hdT l), .int .i64 0]) ∧ Below w.heap.size w w' := by
  have h' : ¬ (len : Int) < 20 := by omega
  have e1 := lead_hd l hA.bytes
  have e2 := lead_spare l hA.bytes
  obtain ⟨x0, x1⟩ := w2_bd l hA.bytes 12
  have hn := tnumber2 b off len cap l 12 12 w hA rfl (by omega)
  have hx : ¬ w2 l 12 / 4096 * 4 < 20 := by rw [e1]; exact g2
  have hy : ¬ (len : Int) < w2 l 12 / 4096 * 4 := by rw [e1]; exact g4
  have hsp : (bits .and .i64 (w2 l 12) 3840 != 0) = false := by rw [spare_bits _ x0 x1, e2, g3]; rfl
  have hs : (fold16 (ws (pseudoB s d 6 len ++ l)) != 65535) = false := by rw [h]; rfl
  have HLL : Hid (l.length = len) := hA.len
  rw [← e1]
  generalize w2 l 12 = X at *
  have hc := flag_cell w X
  have hA1 := hA.later (below_alloc w (.cells #[.int .i64 X] 3))
  clear hA e1 e2 g2 h g3 g4
  go_enter Try.func70, Try.ntmps70
  go_wp2_with fail
  refine hn.mono ?_
  rintro e w' ⟨rfl, rfl⟩
  go_wp2_with (first | (go_at_call 75; refine (tester_any _ _).mono ?_; rintro e w' ⟨rfl, rfl⟩) | (go_at_call 77; refine (tests_any X _ _ _ (by with_reducible exact hc)).mono ?_; rintro e w' ⟨rfl, rfl⟩))
  refine (pseudo_any s d 6 (len : Int) _ s0 s1 t0 t1).mono ?_
  rintro e w4 ⟨G4, rfl, hP, hb4⟩
  have hB4 := (hA1.later hb4).bts
  go_wp2_with fail
  refine (sum2 w4 _ _ _ _ _ 23 (by simp) hP hB4 (by rw [pseudo_length, HLL.out]; omega)).mono ?_
  rintro e w5 ⟨rfl, rfl⟩
  have hx5 := below_trans (below_alloc w' (.cells #[.int .i64 X] 3)) (below_trans hb4 (below_alloc w4 (.cells #[.slice (some ⟨G4, 0, none⟩) 12 12, .slice (some ⟨b, off, none⟩) len cap] 23)))
  clear hP hB4 hb4 hA1
  go_wp2
  go_ret2
  exact ⟨rfl, hx5⟩

theorem tmeas_no (s d : Int) (a : Option Addr) (b off len cap : Nat) (l : List Int) (w : World) (s0 : 0 ≤ s) (s1 : s < 4294967296) (t0 : 0 ≤ d) (t1 : d < 4294967296) (ha : a = some ⟨b, off, none⟩ ∨ l = []) (hA : At w b off len cap l) (hl : len ≤ 70000) (h : ¬ parseT s d l = 0) :
    Calls Try.prog 70 #[.int .u32 s, .int .u32 d, .slice a len cap] w fun e w' => e = .returned (.tuple #[.int .i64 0, .int .i64 (parseT s d l)]) ∧ Below w.heap.size w w' := by
  have hL := hA.len
  obtain ⟨E, hE⟩ : ∃ E, parseT s d l = E := ⟨_, rfl⟩
  rw [hE] at h ⊢
  unfold parseT at hE
  by_cases g1 : l.length < 20
  · rw [if_pos g1] at hE; subst hE; exact tmeas_short s d a len cap w (by omega)
  rw [if_neg g1] at hE
  rcases ha with rfl | rfl
  case inr => simp at g1
  by_cases g2 : hdT l < 20
  · rw [if_pos (.inl g2)] at hE; subst hE; exact tmeas_few s d b off len cap l w hA (by omega) g2
  by_cases g3 : b1 l 12 % 16 = 0
  case neg => rw [if_pos (.inr g3)] at hE; subst hE; exact tmeas_spare s d b off len cap l w hA (by omega) g2 g3
  rw [if_neg (by omega)] at hE
  by_cases g4 : (l.length : Int) < hdT l
  · rw [if_pos g4] at hE; subst hE; exact tmeas_long s d b off len cap l w hA (by omega) g2 g3 (by omega)
  rw [if_neg g4, hL] at hE
  rw [hL] at g4
  by_cases g5 : fold16 (ws (pseudoB s d 6 (len : Int) ++ l)) ≠ 65535
  · rw [if_pos g5] at hE; subst hE; exact tmeas_sum s d b off len cap l w s0 s1 t0 t1 hA hl (by omega) g2 g3 g4 g5
  rw [if_neg g5] at hE
  exact absurd hE.symm h

theorem tmeas_yes (s d : Int) (b off len cap : Nat) (l : List Int) (w : World) (s0 : 0 ≤ s) (s1 : s < 4294967296) (t0 : 0 ≤ d) (t1 : d < 4294967296) (hA : At w b off len cap l) (hl : len ≤ 70000) (g : TGood s d l) :
    Calls Try.prog 70 #[.int .u32 s, .int .u32 d, .slice (some ⟨b, off, none⟩) len cap] w fun e w' => e = .returned (.tuple #[.int .i64 (hdT l), .int .i64 0]) ∧ Below w.heap.size w w' := by
  have hL := hA.len
  obtain ⟨g1, g2, g3, g4, g5⟩ := g
  rw [hL] at g1 g4 g5
  exact tmeas_ok s d b off len cap l w s0 s1 t0 t1 hA hl g1 (by omega) g3 (by omega) g5
end Go.Proofs.Ytdejjokgchbgnaa
