/- The contract of Piece, the document's own answer. -/
import Derived.Test.YtdejjokgchbgnaaTcpParse2
import Derived.Test.YtdejjokgchbgnaaRlong3
set_option maxRecDepth 100000
namespace Go.Proofs.Ytdejjokgchbgnaa
open Go.RowKit
attribute [local go_sem ↓] Go.wp_at_zero Go.wp_at_succ

set_option maxHeartbeats 1000000 in
theorem trparse_short (s d : Int) (a : Option Addr) (len cap : Nat) (w : World) (h : len < 20) :
    Calls Try.prog 31 #[.int .u32 s, .int .u32 d, .slice a len cap] w fun e w' => e = .returned (.tuple #[pcV Pc.zero (.slice none 0 0) (.slice none 0 0), .int .i64 2]) ∧ Below w.heap.size w w' := by
  have h' : (len : Int) < 20 := by omega
  go_enter Try.func31, Try.ntmps31
  go_wp2
  refine bodyPost_ret (v := .tuple #[pcV Pc.zero (.slice none 0 0) (.slice none 0 0), .int .i64 2]) ?_ rfl ?_
  · simp [results, Try.results31, go_sem, Pc.zero]
  exact ⟨rfl, below_alloc _ _⟩

set_option maxHeartbeats 1000000 in
theorem trparse_few (s d : Int) (b off len cap : Nat) (l : List Int) (w : World) (hA : At w b off len cap l) (g1 : 20 ≤ len) (h : hdT l < 20) :
    Calls Try.prog 31 #[.int .u32 s, .int .u32 d, .slice (some ⟨b, off, none⟩) len cap] w fun e w' => e = .returned (.tuple #[pcV Pc.zero (.slice none 0 0) (.slice none 0 0), .int .i64 4]) ∧ Below w.heap.size w w' := by
  have h' : ¬ (len : Int) < 20 := by omega
  have hl12 : (12 : Int) < (len : Int) := by omega
  have c12 := cell_later (below_alloc w (.cells zeroTC 69)) (hA.sees 12 (by rw [hA.len]; omega))
  have hx := b1_bd l hA.bytes 12
  unfold hdT at h
  have e12 : l.getD 12 0 = b1 l 12 := rfl
  rw [e12] at c12
  generalize b1 l 12 = X at *
  obtain ⟨x0, x1⟩ := hx
  clear hA e12
  go_enter Try.func31, Try.ntmps31
  go_wp2
  refine bodyPost_ret (v := .tuple #[pcV Pc.zero (.slice none 0 0) (.slice none 0 0), .int .i64 4]) ?_ rfl ?_
  · simp [results, Try.results31, go_sem, Pc.zero]
  exact ⟨rfl, below_alloc _ _⟩

set_option maxHeartbeats 1000000 in
theorem trparse_spare (s d : Int) (b off len cap : Nat) (l : List Int) (w : World) (hA : At w b off len cap l) (g1 : 20 ≤ len) (g2 : ¬ hdT l < 20) (h : b1 l 12 % 16 ≠ 0) :
    Calls Try.prog 31 #[.int .u32 s, .int .u32 d, .slice (some ⟨b, off, none⟩) len cap] w fun e w' => e = .returned (.tuple #[pcV Pc.zero (.slice none 0 0) (.slice none 0 0), .int .i64 4]) ∧ Below w.heap.size w w' := by
  have h' : ¬ (len : Int) < 20 := by omega
  have hl12 : (12 : Int) < (len : Int) := by omega
  have c12 := cell_later (below_alloc w (.cells zeroTC 69)) (hA.sees 12 (by rw [hA.len]; omega))
  have hx := b1_bd l hA.bytes 12
  unfold hdT at g2
  have e12 : l.getD 12 0 = b1 l 12 := rfl
  rw [e12] at c12
  generalize b1 l 12 = X at *
  obtain ⟨x0, x1⟩ := hx
  have hm : (X % 16 != 0) = true := by rw [bne_iff_ne]; exact h
  clear hA e12 h
  go_enter Try.func31, Try.ntmps31
  go_wp2
  refine bodyPost_ret (v := .tuple #[pcV Pc.zero (.slice none 0 0) (.slice none 0 0), .int .i64 4]) ?_ rfl ?_
  · simp [results, Try.results31, go_sem, Pc.zero]
  exact ⟨rfl, below_alloc _ _⟩

set_option maxHeartbeats 1000000 in
theorem trparse_long (s d : Int) (b off len cap : Nat) (l : List Int) (w : World) (hA : At w b off len cap l) (g1 : 20 ≤ len) (g2 : ¬ hdT l < 20) (g3 : b1 l 12 % 16 = 0) (h : (len : Int) < hdT l) :
    Calls Try.prog 31 #[.int .u32 s, .int .u32 d, .slice (some ⟨b, off, none⟩) len cap] w fun e w' => e = .returned (.tuple #[pcV Pc.zero (.slice none 0 0) (.slice none 0 0), .int .i64 2]) ∧ Below w.heap.size w w' := by
  have h' : ¬ (len : Int) < 20 := by omega
  have hl12 : (12 : Int) < (len : Int) := by omega
  have c12 := cell_later (below_alloc w (.cells zeroTC 69)) (hA.sees 12 (by rw [hA.len]; omega))
  have hx := b1_bd l hA.bytes 12
  unfold hdT at g2 h
  have e12 : l.getD 12 0 = b1 l 12 := rfl
  rw [e12] at c12
  generalize b1 l 12 = X at *
  obtain ⟨x0, x1⟩ := hx
  have hm : (X % 16 != 0) = false := by rw [g3]; rfl
  clear hA e12 g3
  go_enter Try.func31, Try.ntmps31
  go_wp2
  refine bodyPost_ret (v := .tuple #[pcV Pc.zero (.slice none 0 0) (.slice none 0 0), .int .i64 2]) ?_ rfl ?_
  · simp [results, Try.results31, go_sem, Pc.zero]
  exact ⟨rfl, below_alloc _ _⟩

set_option maxHeartbeats 4000000 in
theorem trparse_sum (s d : Int) (b off len cap : Nat) (l : List Int) (w : World) (s0 : 0 ≤ s) (s1 : s < 4294967296) (t0 : 0 ≤ d) (t1 : d < 4294967296) (hA : At w b off len cap l) (hl : len ≤ 70000) (g1 : 20 ≤ len) (g2 : ¬ hdT l < 20) (g3 : b1 l 12 % 16 = 0) (g4 : ¬ (len : Int) < hdT l) (h : fold16 (ws (pseudoB s d 6 len ++ l)) ≠ 65535) :
    Calls Try.prog 31 #[.int .u32 s, .int .u32 d, .slice (some ⟨b, off, none⟩) len cap] w fun e w' => e = .returned (.tuple #[pcV Pc.zero (.slice none 0 0) (.slice none 0 0), .int .i64 5]) ∧ Below w.heap.size w w' := by
  have h' : ¬ (len : Int) < 20 := by omega
  have hl12 : (12 : Int) < (len : Int) := by omega
  have c12 := cell_later (below_alloc w (.cells zeroTC 69)) (hA.sees 12 (by rw [hA.len]; omega))
  have hx := b1_bd l hA.bytes 12
  unfold hdT at g2 g4
  have e12 : l.getD 12 0 = b1 l 12 := rfl
  have hs : (fold16 (ws (pseudoB s d 6 len ++ l)) != 65535) = true := by rw [bne_iff_ne]; exact h
  have HLL : Hid (l.length = len) := hA.len
  rw [e12] at c12
  generalize b1 l 12 = X at *
  obtain ⟨x0, x1⟩ := hx
  have hm : (X % 16 != 0) = false := by rw [g3]; rfl
  clear e12 g3 h
  go_enter Try.func31, Try.ntmps31
  go_wp2_with fail
  refine (rpseudo_any s d 6 (len : Int) _ s0 s1 t0 t1).mono ?_
  rintro e w4 ⟨v4, rfl, hP, hb4⟩
  obtain ⟨a4, n4, k4, rfl⟩ := hP.shape
  have hB4 := (hA.later (below_trans (below_alloc _ _) hb4)).bts
  go_wp2_with fail
  refine (rsum2 w4 _ _ _ _ _ 23 (by simp) hP hB4 (by rw [pseudo_length, HLL.out]; omega)).mono ?_
  rintro e w5 ⟨rfl, rfl⟩
  have hx5 := below_trans hb4 (below_alloc w4 (.cells #[.slice a4 n4 k4, .slice (some ⟨b, off, none⟩) len cap] 23))
  obtain ⟨⟨c0, c1, c2, c3, c4, c5, c6, c7, c8⟩, hfz⟩ := zeroT_cells rfl hx5
  have bel := laidT_below (below_trans (below_alloc _ _) hx5) Pc.zero (.slice none 0 0) (.slice none 0 0)
  generalize (w4.alloc (.cells #[.slice a4 n4 k4, .slice (some ⟨b, off, none⟩) len cap] 23)) = W5 at *
  clear hx5 hP hb4 hB4 hA c12
  go_wp2
  refine bodyPost_ret (v := .tuple #[pcV Pc.zero (.slice none 0 0) (.slice none 0 0), .int .i64 5]) ?_ rfl ?_
  · simp [results, Try.results31, go_sem, c0, c1, c2, c3, c4, c5, c6, c7, c8, Pc.zero]
  exact ⟨rfl, bel⟩

theorem trparse_no (s d : Int) (a : Option Addr) (b off len cap : Nat) (l : List Int) (w : World) (s0 : 0 ≤ s) (s1 : s < 4294967296) (t0 : 0 ≤ d) (t1 : d < 4294967296) (ha : a = some ⟨b, off, none⟩ ∨ l = []) (hA : At w b off len cap l) (hl : len ≤ 70000) (h : ¬ parseT s d l = 0) :
    Calls Try.prog 31 #[.int .u32 s, .int .u32 d, .slice a len cap] w fun e w' => e = .returned (.tuple #[pcV Pc.zero (.slice none 0 0) (.slice none 0 0), .int .i64 (parseT s d l)]) ∧ Below w.heap.size w w' := by
  have hL := hA.len
  obtain ⟨E, hE⟩ : ∃ E, parseT s d l = E := ⟨_, rfl⟩
  rw [hE] at h ⊢
  unfold parseT at hE
  by_cases g1 : l.length < 20
  · rw [if_pos g1] at hE; subst hE; exact trparse_short s d a len cap w (by omega)
  rw [if_neg g1] at hE
  rcases ha with rfl | rfl
  case inr => simp at g1
  by_cases g2 : hdT l < 20
  · rw [if_pos (.inl g2)] at hE; subst hE; exact trparse_few s d b off len cap l w hA (by omega) g2
  by_cases g3 : b1 l 12 % 16 = 0
  case neg => rw [if_pos (.inr g3)] at hE; subst hE; exact trparse_spare s d b off len cap l w hA (by omega) g2 g3
  rw [if_neg (by omega)] at hE
  by_cases g4 : (l.length : Int) < hdT l
  · rw [if_pos g4] at hE; subst hE; exact trparse_long s d b off len cap l w hA (by omega) g2 g3 (by omega)
  rw [if_neg g4, hL] at hE
  rw [hL] at g4
  by_cases g5 : fold16 (ws (pseudoB s d 6 (len : Int) ++ l)) ≠ 65535
  · rw [if_pos g5] at hE; subst hE; exact trparse_sum s d b off len cap l w s0 s1 t0 t1 hA hl (by omega) g2 g3 g4 g5
  rw [if_neg g5] at hE
  exact absurd hE.symm h
end Go.Proofs.Ytdejjokgchbgnaa
