/- The contract of Parse in the document's own answer. -/
import Derived.Test.YtdejjokgchbgnaaRword
import Derived.Test.YtdejjokgchbgnaaPart
import Derived.Test.YtdejjokgchbgnaaParse
set_option maxRecDepth 100000
namespace Go.Proofs.Ytdejjokgchbgnaa
open Go.RowKit
attribute [local go_sem ↓] Go.wp_at_zero Go.wp_at_succ

/-- Behind draws a store is a store. -/
theorem set_drewN (W : World) (j : Nat) (x : Addr) (v : Value) : (W.drewN j).setCell x v = (W.setCell x v).drewN j := rfl
theorem alloc_drewN (W : World) (j : Nat) (ob : Obj) : (W.drewN j).alloc ob = (W.alloc ob).drewN j := rfl

set_option maxHeartbeats 1000000 in
theorem rparse_long (a : Option Addr) (len cap : Nat) (w : World) (h : 2048 < len) :
    Calls Try.prog 10 #[.slice a len cap] w fun e w' => e = .returned (.tuple #[ipV Dg.zero (.slice none 0 0) (.slice none 0 0), .int .i64 3]) ∧ Below w.heap.size w w' := by
  have h' : (2048 : Int) < len := by omega
  go_enter Try.func10, Try.ntmps10
  go_wp2
  refine bodyPost_ret (v := .tuple #[ipV Dg.zero (.slice none 0 0) (.slice none 0 0), .int .i64 3]) ?_ rfl ?_
  · simp [results, Try.results10, go_sem, Dg.zero]
  exact ⟨rfl, below_alloc _ _⟩

set_option maxHeartbeats 1000000 in
theorem rparse_short (a : Option Addr) (len cap : Nat) (w : World) (h : len < 20) :
    Calls Try.prog 10 #[.slice a len cap] w fun e w' => e = .returned (.tuple #[ipV Dg.zero (.slice none 0 0) (.slice none 0 0), .int .i64 2]) ∧ Below w.heap.size w w' := by
  have h0 : ¬ (2048 : Int) < len := by omega
  have h' : (len : Int) < 20 := by omega
  go_enter Try.func10, Try.ntmps10
  go_wp2
  refine bodyPost_ret (v := .tuple #[ipV Dg.zero (.slice none 0 0) (.slice none 0 0), .int .i64 2]) ?_ rfl ?_
  · simp [results, Try.results10, go_sem, Dg.zero]
  exact ⟨rfl, below_alloc _ _⟩

set_option maxHeartbeats 1000000 in
theorem rparse_ver (b off len cap : Nat) (l : List Int) (w : World) (hA : At w b off len cap l) (g1 : len ≤ 2048) (g2 : 20 ≤ len) (h : b1 l 0 / 16 ≠ 4) :
    Calls Try.prog 10 #[.slice (some ⟨b, off, none⟩) len cap] w fun e w' => e = .returned (.tuple #[ipV Dg.zero (.slice none 0 0) (.slice none 0 0), .int .i64 4]) ∧ Below w.heap.size w w' := by
  have sd := set_drewN
  have x0 := b1_bd l hA.bytes 0
  have x2 := w2_bd l hA.bytes 2
  have x6 := w2_bd l hA.bytes 6
  have HL := hA.len
  have c0 : w.cell? ⟨b, off, none⟩ = some (.int .u8 (b1 l 0)) := by have := hA.sees 0 (by omega); rwa [Nat.add_zero] at this
  have hA0 := hA.later (below_alloc w (.cells zeroC 29))
  have c0 := cell_later (below_alloc w (.cells zeroC 29)) c0
  have hm4 := mask4b (b1 l 0) x0.1 x0.2
  have hc := hA.cap1
  have i0 : (0 : Int) < (len : Int) := by omega
  unfold hdOf at *
  have k1 : ¬ (2048 : Int) < len := by omega
  have k2 : ¬ (len : Int) < 20 := by omega
  have hv : (b1 l 0 / 16 != 4) = true := by rw [bne_iff_ne]; exact h
  clear h
  clear HL
  go_enter Try.func10, Try.ntmps10
  go_wp2
  refine bodyPost_ret (v := .tuple #[ipV Dg.zero (.slice none 0 0) (.slice none 0 0), .int .i64 4]) ?_ rfl ?_
  · simp [results, Try.results10, go_sem, Dg.zero]
  exact ⟨rfl, below_alloc _ _⟩

set_option maxHeartbeats 1000000 in
theorem rparse_few (b off len cap : Nat) (l : List Int) (w : World) (hA : At w b off len cap l) (g1 : len ≤ 2048) (g2 : 20 ≤ len) (g3 : b1 l 0 / 16 = 4) (h : hdOf l < 20) :
    Calls Try.prog 10 #[.slice (some ⟨b, off, none⟩) len cap] w fun e w' => e = .returned (.tuple #[ipV Dg.zero (.slice none 0 0) (.slice none 0 0), .int .i64 4]) ∧ Below w.heap.size w w' := by
  have sd := set_drewN
  have x0 := b1_bd l hA.bytes 0
  have x2 := w2_bd l hA.bytes 2
  have x6 := w2_bd l hA.bytes 6
  have HL := hA.len
  have c0 : w.cell? ⟨b, off, none⟩ = some (.int .u8 (b1 l 0)) := by have := hA.sees 0 (by omega); rwa [Nat.add_zero] at this
  have hA0 := hA.later (below_alloc w (.cells zeroC 29))
  have c0 := cell_later (below_alloc w (.cells zeroC 29)) c0
  have hm4 := mask4b (b1 l 0) x0.1 x0.2
  have hc := hA.cap1
  have i0 : (0 : Int) < (len : Int) := by omega
  unfold hdOf at *
  have k1 : ¬ (2048 : Int) < len := by omega
  have k2 : ¬ (len : Int) < 20 := by omega
  have k3 : (b1 l 0 / 16 != 4) = false := by simp [g3]
  clear HL
  go_enter Try.func10, Try.ntmps10
  go_wp2
  refine bodyPost_ret (v := .tuple #[ipV Dg.zero (.slice none 0 0) (.slice none 0 0), .int .i64 4]) ?_ rfl ?_
  · simp [results, Try.results10, go_sem, Dg.zero]
  exact ⟨rfl, below_alloc _ _⟩

set_option maxHeartbeats 1000000 in
theorem rparse_head (b off len cap : Nat) (l : List Int) (w : World) (hA : At w b off len cap l) (g1 : len ≤ 2048) (g2 : 20 ≤ len) (g3 : b1 l 0 / 16 = 4) (g4 : 20 ≤ hdOf l) (h : (len : Int) < hdOf l) :
    Calls Try.prog 10 #[.slice (some ⟨b, off, none⟩) len cap] w fun e w' => e = .returned (.tuple #[ipV Dg.zero (.slice none 0 0) (.slice none 0 0), .int .i64 2]) ∧ Below w.heap.size w w' := by
  have sd := set_drewN
  have x0 := b1_bd l hA.bytes 0
  have x2 := w2_bd l hA.bytes 2
  have x6 := w2_bd l hA.bytes 6
  have HL := hA.len
  have c0 : w.cell? ⟨b, off, none⟩ = some (.int .u8 (b1 l 0)) := by have := hA.sees 0 (by omega); rwa [Nat.add_zero] at this
  have hA0 := hA.later (below_alloc w (.cells zeroC 29))
  have c0 := cell_later (below_alloc w (.cells zeroC 29)) c0
  have hm4 := mask4b (b1 l 0) x0.1 x0.2
  have hc := hA.cap1
  have i0 : (0 : Int) < (len : Int) := by omega
  unfold hdOf at *
  have k1 : ¬ (2048 : Int) < len := by omega
  have k2 : ¬ (len : Int) < 20 := by omega
  have k3 : (b1 l 0 / 16 != 4) = false := by simp [g3]
  have k4 : ¬ b1 l 0 % 16 * 4 < 20 := by omega
  clear HL
  go_enter Try.func10, Try.ntmps10
  go_wp2
  refine bodyPost_ret (v := .tuple #[ipV Dg.zero (.slice none 0 0) (.slice none 0 0), .int .i64 2]) ?_ rfl ?_
  · simp [results, Try.results10, go_sem, Dg.zero]
  exact ⟨rfl, below_alloc _ _⟩

set_option maxHeartbeats 1000000 in
theorem rparse_less (b off len cap : Nat) (l : List Int) (w : World) (hA : At w b off len cap l) (g1 : len ≤ 2048) (g2 : 20 ≤ len) (g3 : b1 l 0 / 16 = 4) (g4 : 20 ≤ hdOf l) (g5 : hdOf l ≤ len) (h : w2 l 2 < hdOf l) :
    Calls Try.prog 10 #[.slice (some ⟨b, off, none⟩) len cap] w fun e w' => e = .returned (.tuple #[ipV Dg.zero (.slice none 0 0) (.slice none 0 0), .int .i64 4]) ∧ Below w.heap.size w w' := by
  have sd := set_drewN
  have x0 := b1_bd l hA.bytes 0
  have x2 := w2_bd l hA.bytes 2
  have x6 := w2_bd l hA.bytes 6
  have HL := hA.len
  have c0 : w.cell? ⟨b, off, none⟩ = some (.int .u8 (b1 l 0)) := by have := hA.sees 0 (by omega); rwa [Nat.add_zero] at this
  have hA0 := hA.later (below_alloc w (.cells zeroC 29))
  have c0 := cell_later (below_alloc w (.cells zeroC 29)) c0
  have hm4 := mask4b (b1 l 0) x0.1 x0.2
  have hc := hA.cap1
  have i0 : (0 : Int) < (len : Int) := by omega
  unfold hdOf at *
  have k1 : ¬ (2048 : Int) < len := by omega
  have k2 : ¬ (len : Int) < 20 := by omega
  have k3 : (b1 l 0 / 16 != 4) = false := by simp [g3]
  have k4 : ¬ b1 l 0 % 16 * 4 < 20 := by omega
  have k5 : ¬ (len : Int) < b1 l 0 % 16 * 4 := by omega
  clear HL
  go_enter Try.func10, Try.ntmps10
  go_wp2_with fail
  refine (word_any b off len cap l 2 2 _ (by exact hA0) rfl (by omega) (by omega)).mono ?_
  rintro e w' ⟨rfl, nq2, rfl⟩
  go_wp2_with fail
  refine (word_any b off len cap l 6 6 _ (by exact hA0.later (below_drewN (Below.refl _ _) _)) rfl (by omega) (by omega)).mono ?_
  rintro e w' ⟨rfl, nq6, rfl⟩
  go_wp2
  refine bodyPost_ret (v := .tuple #[ipV Dg.zero (.slice none 0 0) (.slice none 0 0), .int .i64 4]) ?_ rfl ?_
  · simp [results, Try.results10, go_sem, Dg.zero]
  exact ⟨rfl, below_drewN (below_alloc _ _) _⟩

set_option maxHeartbeats 1000000 in
theorem rparse_flag (b off len cap : Nat) (l : List Int) (w : World) (hA : At w b off len cap l) (g1 : len ≤ 2048) (g2 : 20 ≤ len) (g3 : b1 l 0 / 16 = 4) (g4 : 20 ≤ hdOf l) (g5 : hdOf l ≤ len) (g6 : hdOf l ≤ w2 l 2) (h : 32768 ≤ w2 l 6) :
    Calls Try.prog 10 #[.slice (some ⟨b, off, none⟩) len cap] w fun e w' => e = .returned (.tuple #[ipV Dg.zero (.slice none 0 0) (.slice none 0 0), .int .i64 4]) ∧ Below w.heap.size w w' := by
  have sd := set_drewN
  have x0 := b1_bd l hA.bytes 0
  have x2 := w2_bd l hA.bytes 2
  have x6 := w2_bd l hA.bytes 6
  have HL := hA.len
  have c0 : w.cell? ⟨b, off, none⟩ = some (.int .u8 (b1 l 0)) := by have := hA.sees 0 (by omega); rwa [Nat.add_zero] at this
  have hA0 := hA.later (below_alloc w (.cells zeroC 29))
  have c0 := cell_later (below_alloc w (.cells zeroC 29)) c0
  have hm4 := mask4b (b1 l 0) x0.1 x0.2
  have hc := hA.cap1
  have i0 : (0 : Int) < (len : Int) := by omega
  unfold hdOf at *
  have k1 : ¬ (2048 : Int) < len := by omega
  have k2 : ¬ (len : Int) < 20 := by omega
  have k3 : (b1 l 0 / 16 != 4) = false := by simp [g3]
  have k4 : ¬ b1 l 0 % 16 * 4 < 20 := by omega
  have k5 : ¬ (len : Int) < b1 l 0 % 16 * 4 := by omega
  have k6 : ¬ w2 l 2 < b1 l 0 % 16 * 4 := by omega
  have hb15 : (bits .and .i64 (w2 l 6) 32768 != 0) = true := by rw [bit15 _ x6.1 x6.2]; simp; omega
  clear HL
  go_enter Try.func10, Try.ntmps10
  go_wp2_with fail
  refine (word_any b off len cap l 2 2 _ (by exact hA0) rfl (by omega) (by omega)).mono ?_
  rintro e w' ⟨rfl, nq2, rfl⟩
  go_wp2_with fail
  refine (word_any b off len cap l 6 6 _ (by exact hA0.later (below_drewN (Below.refl _ _) _)) rfl (by omega) (by omega)).mono ?_
  rintro e w' ⟨rfl, nq6, rfl⟩
  go_wp2
  refine bodyPost_ret (v := .tuple #[ipV Dg.zero (.slice none 0 0) (.slice none 0 0), .int .i64 4]) ?_ rfl ?_
  · simp [results, Try.results10, go_sem, Dg.zero]
  exact ⟨rfl, below_drewN (below_alloc _ _) _⟩

set_option maxHeartbeats 1000000 in
theorem rparse_total (b off len cap : Nat) (l : List Int) (w : World) (hA : At w b off len cap l) (g1 : len ≤ 2048) (g2 : 20 ≤ len) (g3 : b1 l 0 / 16 = 4) (g4 : 20 ≤ hdOf l) (g5 : hdOf l ≤ len) (g6 : hdOf l ≤ w2 l 2) (g7 : w2 l 6 < 32768) (h : (len : Int) < w2 l 2) :
    Calls Try.prog 10 #[.slice (some ⟨b, off, none⟩) len cap] w fun e w' => e = .returned (.tuple #[ipV Dg.zero (.slice none 0 0) (.slice none 0 0), .int .i64 2]) ∧ Below w.heap.size w w' := by
  have sd := set_drewN
  have x0 := b1_bd l hA.bytes 0
  have x2 := w2_bd l hA.bytes 2
  have x6 := w2_bd l hA.bytes 6
  have HL := hA.len
  have c0 : w.cell? ⟨b, off, none⟩ = some (.int .u8 (b1 l 0)) := by have := hA.sees 0 (by omega); rwa [Nat.add_zero] at this
  have hA0 := hA.later (below_alloc w (.cells zeroC 29))
  have c0 := cell_later (below_alloc w (.cells zeroC 29)) c0
  have hm4 := mask4b (b1 l 0) x0.1 x0.2
  have hc := hA.cap1
  have i0 : (0 : Int) < (len : Int) := by omega
  unfold hdOf at *
  have k1 : ¬ (2048 : Int) < len := by omega
  have k2 : ¬ (len : Int) < 20 := by omega
  have k3 : (b1 l 0 / 16 != 4) = false := by simp [g3]
  have k4 : ¬ b1 l 0 % 16 * 4 < 20 := by omega
  have k5 : ¬ (len : Int) < b1 l 0 % 16 * 4 := by omega
  have k6 : ¬ w2 l 2 < b1 l 0 % 16 * 4 := by omega
  have hb15 : (bits .and .i64 (w2 l 6) 32768 != 0) = false := by rw [bit15 _ x6.1 x6.2]; simp; omega
  clear HL
  go_enter Try.func10, Try.ntmps10
  go_wp2_with fail
  refine (word_any b off len cap l 2 2 _ (by exact hA0) rfl (by omega) (by omega)).mono ?_
  rintro e w' ⟨rfl, nq2, rfl⟩
  go_wp2_with fail
  refine (word_any b off len cap l 6 6 _ (by exact hA0.later (below_drewN (Below.refl _ _) _)) rfl (by omega) (by omega)).mono ?_
  rintro e w' ⟨rfl, nq6, rfl⟩
  go_wp2
  refine bodyPost_ret (v := .tuple #[ipV Dg.zero (.slice none 0 0) (.slice none 0 0), .int .i64 2]) ?_ rfl ?_
  · simp [results, Try.results10, go_sem, Dg.zero]
  exact ⟨rfl, below_drewN (below_alloc _ _) _⟩

theorem head_part {w : World} {b off len cap n : Nat} {q : Int} {l : List Int} (hA : At w b off len cap l) (hq : q.toNat = n) (hn : n ≤ len) : Bts w (.slice (some ⟨b, off, none⟩) q.toNat cap) (l.take n) := by
  subst hq
  have hlen : (l.take q.toNat).length = q.toNat := by rw [List.length_take, hA.len]; omega
  have c1 := hA.cap1
  refine ⟨_, cap, b, off, by rw [hlen], by omega, hA.cap2, isBytes_take hA.bytes _, .inl rfl, ?_⟩
  intro i hi
  rw [hlen] at hi
  have : (l.take q.toNat).getD i 0 = l.getD i 0 := by simp [List.getD, hi]
  rw [this]
  exact hA.sees i (by rw [hA.len]; omega)

set_option maxHeartbeats 1000000 in
theorem rparse_sum (b off len cap : Nat) (l : List Int) (w : World) (hA : At w b off len cap l) (g1 : len ≤ 2048) (g2 : 20 ≤ len) (g3 : b1 l 0 / 16 = 4) (g4 : 20 ≤ hdOf l) (g5 : hdOf l ≤ len) (g6 : hdOf l ≤ w2 l 2) (g7 : w2 l 6 < 32768) (g8 : w2 l 2 ≤ len) (h : fold16 (ws (l.take (hdOf l).toNat)) ≠ 65535) :
    Calls Try.prog 10 #[.slice (some ⟨b, off, none⟩) len cap] w fun e w' => e = .returned (.tuple #[ipV Dg.zero (.slice none 0 0) (.slice none 0 0), .int .i64 5]) ∧ Below w.heap.size w w' := by
  have sd := set_drewN
  have H : Hid (fold16 (ws (l.take (hdOf l).toNat)) ≠ 65535) := h
  clear h
  have x0 := b1_bd l hA.bytes 0
  have x2 := w2_bd l hA.bytes 2
  have x6 := w2_bd l hA.bytes 6
  have HL := hA.len
  have c0 : w.cell? ⟨b, off, none⟩ = some (.int .u8 (b1 l 0)) := by have := hA.sees 0 (by omega); rwa [Nat.add_zero] at this
  have hA0 := hA.later (below_alloc w (.cells zeroC 29))
  have c0 := cell_later (below_alloc w (.cells zeroC 29)) c0
  have hm4 := mask4b (b1 l 0) x0.1 x0.2
  have hc := hA.cap1
  have i0 : (0 : Int) < (len : Int) := by omega
  unfold hdOf at *
  have k1 : ¬ (2048 : Int) < len := by omega
  have k2 : ¬ (len : Int) < 20 := by omega
  have k3 : (b1 l 0 / 16 != 4) = false := by simp [g3]
  have k4 : ¬ b1 l 0 % 16 * 4 < 20 := by omega
  have k5 : ¬ (len : Int) < b1 l 0 % 16 * 4 := by omega
  have k6 : ¬ w2 l 2 < b1 l 0 % 16 * 4 := by omega
  have hb15 : (bits .and .i64 (w2 l 6) 32768 != 0) = false := by rw [bit15 _ x6.1 x6.2]; simp; omega
  have k7 : ¬ (len : Int) < w2 l 2 := by omega
  clear HL
  go_enter Try.func10, Try.ntmps10
  go_wp2_with fail
  refine (word_any b off len cap l 2 2 _ (by exact hA0) rfl (by omega) (by omega)).mono ?_
  rintro e w' ⟨rfl, nq2, rfl⟩
  go_wp2_with fail
  refine (word_any b off len cap l 6 6 _ (by exact hA0.later (below_drewN (Below.refl _ _) _)) rfl (by omega) (by omega)).mono ?_
  rintro e w' ⟨rfl, nq6, rfl⟩
  go_wp2_with fail
  refine (one_any _ (l.take (b1 l 0 % 16 * 4).toNat) _ (head_part (hA0.later (below_drewN (Below.refl _ _) _)) (by omega) (by omega)) (by rw [List.length_take]; omega)).mono ?_
  rintro e w3 ⟨rfl, hb3⟩
  have hne : (fold16 (ws (l.take (b1 l 0 % 16 * 4).toNat)) != 65535) = true := by rw [bne_iff_ne]; exact H.out
  have hb3' := below_trans (below_drewN (Below.refl _ (w.alloc (.cells zeroC 29))) _) hb3
  obtain ⟨⟨z0, z1, z2, z3, z4, z5, z6, z7, z8, z9, z10⟩, hfz⟩ := zero_cells rfl hb3'
  go_wp2
  refine bodyPost_ret (v := .tuple #[ipV Dg.zero (.slice none 0 0) (.slice none 0 0), .int .i64 5]) ?_ rfl ?_
  · simp [results, Try.results10, go_sem, Dg.zero, z0, z1, z2, z3, z4, z5, z6, z7, z8, z9, z10]
  refine ⟨rfl, ?_⟩
  iterate 11 refine Below.setCell ?_ (by exact Nat.le_refl _) _
  exact below_trans (below_alloc _ _) hb3'

end Go.Proofs.Ytdejjokgchbgnaa
