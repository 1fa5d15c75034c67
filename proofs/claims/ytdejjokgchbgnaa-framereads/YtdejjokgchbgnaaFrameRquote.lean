/- The contract of Quote in the document's own answer. -/
import Derived.Test.YtdejjokgchbgnaaFrameQuote2
import Derived.Test.YtdejjokgchbgnaaRlong2
set_option maxRecDepth 100000
namespace Go.Proofs.Ytdejjokgchbgnaa
open Go.RowKit
attribute [local go_sem ↓] Go.wp_at_zero Go.wp_at_succ

@[reducible] def zeroIC : Array Value := #[.int .i64 0, .int .u32 0, .int .i64 0, .int .u32 0, .int .i64 0]

theorem flong_bel (b off len cap : Nat) (l : List Int) (q : Int) (k : Nat) (w : World) (hA : At w b off len cap l) (hq : q = (k : Int)) (hk : k + 4 ≤ len) (hl : len ≤ 140737488351232) :
    Calls Try.prog 22 #[.slice (some ⟨b, off, none⟩) len cap, .int .i64 q] w fun e w' => e = .returned (.int .u32 (w4 l k)) ∧ Below w.heap.size w w' := by
  refine (flong_any b off len cap l q k w hA hq hk hl).mono ?_
  rintro e w' ⟨rfl, nq, rfl⟩
  exact ⟨rfl, below_drewN (Below.refl _ _) _⟩

theorem rquote_short (a : Option Addr) (len cap : Nat) (w : World) (h : len < 20) :
    Calls Try.prog 16 #[.slice a len cap] w fun e w' => e = .returned (.tuple #[inV Inn.zero, .bool false]) ∧ Below w.heap.size w w' := by
  have h' : (len : Int) < 20 := by omega
  go_enter Try.func16, Try.ntmps16
  go_wp2
  refine bodyPost_ret (v := .tuple #[inV Inn.zero, .bool false]) ?_ rfl ?_
  · simp [results, Try.results16, go_sem, Inn.zero]
  exact ⟨rfl, below_alloc _ _⟩

theorem rquote_ver (b off len cap : Nat) (l : List Int) (w : World) (hA : At w b off len cap l) (g2 : 20 ≤ len) (h : b1 l 0 / 16 ≠ 4) :
    Calls Try.prog 16 #[.slice (some ⟨b, off, none⟩) len cap] w fun e w' => e = .returned (.tuple #[inV Inn.zero, .bool false]) ∧ Below w.heap.size w w' := by
  have h' : ¬ (len : Int) < 20 := by omega
  have l0 : 0 < len := by omega
  have c0 : (w.alloc (.cells zeroIC 35)).cell? ⟨b, off, none⟩ = some (.int .u8 (b1 l 0)) := cell_later (below_alloc _ _) (hA.sees 0 (by rw [hA.len]; omega))
  have hv : (b1 l 0 / 16 != 4) = true := by rw [bne_iff_ne]; exact h
  obtain ⟨x0, y0⟩ := b1_bd l hA.bytes 0
  clear h hA
  go_enter Try.func16, Try.ntmps16
  go_wp2
  refine bodyPost_ret (v := .tuple #[inV Inn.zero, .bool false]) ?_ rfl ?_
  · simp [results, Try.results16, go_sem, Inn.zero]
  exact ⟨rfl, below_alloc _ _⟩

theorem rquote_few (b off len cap : Nat) (l : List Int) (w : World) (hA : At w b off len cap l) (g2 : 20 ≤ len) (g3 : b1 l 0 / 16 = 4) (h : hdOf l < 20) :
    Calls Try.prog 16 #[.slice (some ⟨b, off, none⟩) len cap] w fun e w' => e = .returned (.tuple #[inV Inn.zero, .bool false]) ∧ Below w.heap.size w w' := by
  have h' : ¬ (len : Int) < 20 := by omega
  have l0 : 0 < len := by omega
  have c0 : (w.alloc (.cells zeroIC 35)).cell? ⟨b, off, none⟩ = some (.int .u8 (b1 l 0)) := cell_later (below_alloc _ _) (hA.sees 0 (by rw [hA.len]; omega))
  have hv : (b1 l 0 / 16 != 4) = false := by rw [g3]; rfl
  obtain ⟨x0, y0⟩ := b1_bd l hA.bytes 0
  have hd : b1 l 0 % 16 < 5 := by unfold hdOf at h; omega
  clear h hA
  go_enter Try.func16, Try.ntmps16
  go_wp2
  refine bodyPost_ret (v := .tuple #[inV Inn.zero, .bool false]) ?_ rfl ?_
  · simp [results, Try.results16, go_sem, Inn.zero]
  exact ⟨rfl, below_alloc _ _⟩

theorem rquote_len (b off len cap : Nat) (l : List Int) (w : World) (hA : At w b off len cap l) (g2 : 20 ≤ len) (g3 : b1 l 0 / 16 = 4) (g4 : 20 ≤ hdOf l) (h : (len : Int) < hdOf l + 8) :
    Calls Try.prog 16 #[.slice (some ⟨b, off, none⟩) len cap] w fun e w' => e = .returned (.tuple #[inV Inn.zero, .bool false]) ∧ Below w.heap.size w w' := by
  have h' : ¬ (len : Int) < 20 := by omega
  have l0 : 0 < len := by omega
  have c0 : (w.alloc (.cells zeroIC 35)).cell? ⟨b, off, none⟩ = some (.int .u8 (b1 l 0)) := cell_later (below_alloc _ _) (hA.sees 0 (by rw [hA.len]; omega))
  have hv : (b1 l 0 / 16 != 4) = false := by rw [g3]; rfl
  obtain ⟨x0, y0⟩ := b1_bd l hA.bytes 0
  have hd : ¬ b1 l 0 % 16 < 5 := by unfold hdOf at g4; omega
  unfold hdOf at h
  clear hA g4
  go_enter Try.func16, Try.ntmps16
  go_wp2
  refine bodyPost_ret (v := .tuple #[inV Inn.zero, .bool false]) ?_ rfl ?_
  · simp [results, Try.results16, go_sem, Inn.zero]
  exact ⟨rfl, below_alloc _ _⟩

theorem off_bytes (l : List Int) (hb : isBytes l) : w2 l 6 % 8192 = b1 l 6 % 32 * 256 + b1 l 7 := by
  have h1 := getD_byte l hb 6
  have h2 := getD_byte l hb 7
  unfold w2 b1
  show (l.getD 6 0 * 256 + l.getD 7 0) % 8192 = _
  omega

theorem mask5b (x : Int) (h0 : 0 ≤ x) (h1 : x < 256) : bits .and .u8 x 31 = x % 32 := mask_u8 5 (by decide) x h0 (by omega)

set_option maxHeartbeats 1000000 in
theorem rquote_off (b off len cap : Nat) (l : List Int) (w : World) (hA : At w b off len cap l) (g : Head l) (h : ¬ w2 l 6 % 8192 = 0) :
    Calls Try.prog 16 #[.slice (some ⟨b, off, none⟩) len cap] w fun e w' => e = .returned (.tuple #[inV Inn.zero, .bool false]) ∧ Below w.heap.size w w' := by
  have hL := hA.len
  rw [off_bytes l hA.bytes] at h
  obtain ⟨g1, g2, g3, g4⟩ := g
  rw [hL] at g1 g4
  unfold hdOf at g3 g4
  have h' : ¬ (len : Int) < 20 := by omega
  have l0 : 0 < len := by omega
  have l6 : (6 : Int) < (len : Int) := by omega
  have l7 : (7 : Int) < (len : Int) := by omega
  have c0 : (w.alloc (.cells zeroIC 35)).cell? ⟨b, off, none⟩ = some (.int .u8 (b1 l 0)) := cell_later (below_alloc _ _) (hA.sees 0 (by rw [hA.len]; omega))
  have c6 : (w.alloc (.cells zeroIC 35)).cell? ⟨b, off + 6, none⟩ = some (.int .u8 (b1 l 6)) := cell_later (below_alloc _ _) (hA.sees 6 (by rw [hA.len]; omega))
  have c7 : (w.alloc (.cells zeroIC 35)).cell? ⟨b, off + 7, none⟩ = some (.int .u8 (b1 l 7)) := cell_later (below_alloc _ _) (hA.sees 7 (by rw [hA.len]; omega))
  have hv : (b1 l 0 / 16 != 4) = false := by rw [g2]; rfl
  obtain ⟨x0, y0⟩ := b1_bd l hA.bytes 0
  obtain ⟨x6, y6⟩ := b1_bd l hA.bytes 6
  obtain ⟨x7, y7⟩ := b1_bd l hA.bytes 7
  have hd : ¬ b1 l 0 % 16 < 5 := by omega
  have he : ¬ (len : Int) < b1 l 0 % 16 * 4 + 8 := by omega
  by_cases h6 : b1 l 6 % 32 = 0
  · have h6' : (b1 l 6 % 32 != 0) = false := by rw [h6]; rfl
    have h7' : (b1 l 7 != 0) = true := by rw [bne_iff_ne]; omega
    clear hA g1 g2 g3 g4 h h6 hL
    go_enter Try.func16, Try.ntmps16
    go_wp2
    refine bodyPost_ret (v := .tuple #[inV Inn.zero, .bool false]) ?_ rfl ?_
    · simp [results, Try.results16, go_sem, Inn.zero]
    exact ⟨rfl, below_alloc _ _⟩
  · have h6' : (b1 l 6 % 32 != 0) = true := by rw [bne_iff_ne]; exact h6
    clear hA g1 g2 g3 g4 h h6 hL
    go_enter Try.func16, Try.ntmps16
    go_wp2
    refine bodyPost_ret (v := .tuple #[inV Inn.zero, .bool false]) ?_ rfl ?_
    · simp [results, Try.results16, go_sem, Inn.zero]
    exact ⟨rfl, below_alloc _ _⟩
end Go.Proofs.Ytdejjokgchbgnaa
