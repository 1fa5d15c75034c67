/- The contracts of number at the header's places, and of measured. -/
import Derived.Test.YtdejjokgchbgnaaRow
import Derived.Test.YtdejjokgchbgnaaRefuse
import Derived.Test.YtdejjokgchbgnaaIpBits
set_option maxRecDepth 100000
namespace Go.Proofs.Ytdejjokgchbgnaa
open Go.RowKit

theorem number1 (b off len cap : Nat) (l : List Int) (q : Int) (k : Nat) (w : World) (hA : At w b off len cap l) (hq : q = (k : Int)) (hk : k + 1 ≤ len) :
    Calls Try.prog 56 #[.slice (some ⟨b, off, none⟩) len cap, .int .i64 q, .int .i64 1] w fun e w' => e = .returned (.int .i64 (b1 l k)) ∧ w' = w := by
  subst hq
  have := number_yes b off len cap l k 1 w hA.cap1 hA.cap2 hA.len hA.bytes hA.sees (by decide) (by unfold holdsB; simp; omega)
  rwa [getV1 l k (by rw [hA.len]; omega)] at this

theorem number2 (b off len cap : Nat) (l : List Int) (q : Int) (k : Nat) (w : World) (hA : At w b off len cap l) (hq : q = (k : Int)) (hk : k + 2 ≤ len) :
    Calls Try.prog 56 #[.slice (some ⟨b, off, none⟩) len cap, .int .i64 q, .int .i64 2] w fun e w' => e = .returned (.int .i64 (w2 l k)) ∧ w' = w := by
  subst hq
  have := number_yes b off len cap l k 2 w hA.cap1 hA.cap2 hA.len hA.bytes hA.sees (by decide) (by unfold holdsB; simp; omega)
  rwa [getV2 l k (by rw [hA.len]; omega)] at this

theorem number4 (b off len cap : Nat) (l : List Int) (q : Int) (k : Nat) (w : World) (hA : At w b off len cap l) (hq : q = (k : Int)) (hk : k + 4 ≤ len) :
    Calls Try.prog 56 #[.slice (some ⟨b, off, none⟩) len cap, .int .i64 q, .int .i64 4] w fun e w' => e = .returned (.int .i64 (w4 l k)) ∧ w' = w := by
  subst hq
  have := number_yes b off len cap l k 4 w hA.cap1 hA.cap2 hA.len hA.bytes hA.sees (by decide) (by unfold holdsB; simp; omega)
  rwa [getV4 l k (by rw [hA.len]; omega)] at this

theorem measured_long (a : Option Addr) (len cap : Nat) (w : World) (h : 2048 < len) :
    Calls Try.prog 41 #[.slice a len cap] w fun e w' => e = .panicked (chainOf 3) ∧ Below w.heap.size w w' := by
  have h' : (2048 : Int) < len := by omega
  go_enter Try.func41, Try.ntmps41
  go_wp2_with fail
  refine (refuse_yes _ _).mono ?_
  rintro e w' ⟨rfl, rfl⟩
  go_wp2
  exact ⟨rfl, rfl, Below.refl _ _⟩

theorem measured_short (a : Option Addr) (len cap : Nat) (w : World) (h : len < 20) :
    Calls Try.prog 41 #[.slice a len cap] w fun e w' => e = .panicked (chainOf 2) ∧ Below w.heap.size w w' := by
  have h0 : ¬ (2048 : Int) < len := by omega
  have h' : (len : Int) < 20 := by omega
  go_enter Try.func41, Try.ntmps41
  go_wp2_with fail
  refine (refuse_no _ _).mono ?_
  rintro e w' ⟨rfl, rfl⟩
  go_wp2_with fail
  refine (refuse_yes _ _).mono ?_
  rintro e w' ⟨rfl, rfl⟩
  go_wp2
  exact ⟨rfl, rfl, Below.refl _ _⟩

/-- The sum of the first bytes, as measured asks for it. -/
theorem sum_part (b off len cap n : Nat) (q : Int) (l : List Int) (w : World) (t : TypeId) (hA : At w b off len cap l) (hq : q = (n : Int)) (hn : n ≤ len) (hl : len ≤ 2048) :
    Calls Try.prog 57 #[.slice (some ⟨w.heap.size, 0, none⟩) 1 1] (w.alloc (.cells #[.slice (some ⟨b, off, none⟩) q.toNat cap] t)) fun e w' => e = .returned (.int .i64 (fold16 (ws (l.take n)))) ∧ w' = w.alloc (.cells #[.slice (some ⟨b, off, none⟩) q.toNat cap] t) := by
  subst hq
  have hlen : (l.take n).length = n := by rw [List.length_take, hA.len]; omega
  have c1 := hA.cap1
  refine sum_one w _ _ (l.take n) t rfl ⟨_, cap, b, off, by rw [hlen, Int.toNat_natCast], by omega, hA.cap2, isBytes_take hA.bytes n, .inl rfl, ?_⟩ (by omega)
  intro i hi
  rw [hlen] at hi
  have : (l.take n).getD i 0 = l.getD i 0 := by simp [List.getD, hi]
  rw [this]
  exact hA.sees i (by rw [hA.len]; omega)

set_option maxHeartbeats 2000000 in
theorem measured_ver (b off len cap : Nat) (l : List Int) (w : World) (hA : At w b off len cap l) (g1 : len ≤ 2048) (g2 : 20 ≤ len) (h : b1 l 0 / 16 ≠ 4) :
    Calls Try.prog 41 #[.slice (some ⟨b, off, none⟩) len cap] w fun e w' => e = .panicked (chainOf 4) ∧ Below w.heap.size w w' := by
  have x0 := b1_bd l hA.bytes 0
  have x2 := w2_bd l hA.bytes 2
  have x6 := w2_bd l hA.bytes 6
  unfold hdOf at *
  have hm4 := mask4 (b1 l 0) x0.1 (by omega)
  have hc := hA.cap1
  have hv : (b1 l 0 / 16 != 4) = true := by rw [bne_iff_ne]; exact h
  clear h
  go_enter Try.func41, Try.ntmps41
  go_wp2_with fail
  refine (refuse_no' _ _ _ (by simp <;> omega)).mono ?_
  rintro e w' ⟨rfl, rfl⟩
  go_wp2_with fail
  refine (refuse_no' _ _ _ (by simp <;> omega)).mono ?_
  rintro e w' ⟨rfl, rfl⟩
  go_wp2_with fail
  refine (number1 b off len cap l 0 0 _ hA rfl (by omega)).mono ?_
  rintro e w' ⟨rfl, rfl⟩
  go_wp2_with fail
  refine (refuse_yes' _ _ _ (by simp <;> omega)).mono ?_
  rintro e w' ⟨rfl, rfl⟩
  go_wp2
  exact ⟨rfl, rfl, Below.refl _ _⟩

set_option maxHeartbeats 2000000 in
theorem measured_few (b off len cap : Nat) (l : List Int) (w : World) (hA : At w b off len cap l) (g1 : len ≤ 2048) (g2 : 20 ≤ len) (g3 : b1 l 0 / 16 = 4) (h : hdOf l < 20) :
    Calls Try.prog 41 #[.slice (some ⟨b, off, none⟩) len cap] w fun e w' => e = .panicked (chainOf 4) ∧ Below w.heap.size w w' := by
  have x0 := b1_bd l hA.bytes 0
  have x2 := w2_bd l hA.bytes 2
  have x6 := w2_bd l hA.bytes 6
  unfold hdOf at *
  have hm4 := mask4 (b1 l 0) x0.1 (by omega)
  have hc := hA.cap1
  go_enter Try.func41, Try.ntmps41
  go_wp2_with fail
  refine (refuse_no' _ _ _ (by simp <;> omega)).mono ?_
  rintro e w' ⟨rfl, rfl⟩
  go_wp2_with fail
  refine (refuse_no' _ _ _ (by simp <;> omega)).mono ?_
  rintro e w' ⟨rfl, rfl⟩
  go_wp2_with fail
  refine (number1 b off len cap l 0 0 _ hA rfl (by omega)).mono ?_
  rintro e w' ⟨rfl, rfl⟩
  go_wp2_with fail
  refine (refuse_yes' _ _ _ (by simp <;> omega)).mono ?_
  rintro e w' ⟨rfl, rfl⟩
  go_wp2
  exact ⟨rfl, rfl, Below.refl _ _⟩

set_option maxHeartbeats 2000000 in
theorem measured_head (b off len cap : Nat) (l : List Int) (w : World) (hA : At w b off len cap l) (g1 : len ≤ 2048) (g2 : 20 ≤ len) (g3 : b1 l 0 / 16 = 4) (g4 : 20 ≤ hdOf l) (h : (len : Int) < hdOf l) :
    Calls Try.prog 41 #[.slice (some ⟨b, off, none⟩) len cap] w fun e w' => e = .panicked (chainOf 2) ∧ Below w.heap.size w w' := by
  have x0 := b1_bd l hA.bytes 0
  have x2 := w2_bd l hA.bytes 2
  have x6 := w2_bd l hA.bytes 6
  unfold hdOf at *
  have hm4 := mask4 (b1 l 0) x0.1 (by omega)
  have hc := hA.cap1
  go_enter Try.func41, Try.ntmps41
  go_wp2_with fail
  refine (refuse_no' _ _ _ (by simp <;> omega)).mono ?_
  rintro e w' ⟨rfl, rfl⟩
  go_wp2_with fail
  refine (refuse_no' _ _ _ (by simp <;> omega)).mono ?_
  rintro e w' ⟨rfl, rfl⟩
  go_wp2_with fail
  refine (number1 b off len cap l 0 0 _ hA rfl (by omega)).mono ?_
  rintro e w' ⟨rfl, rfl⟩
  go_wp2_with fail
  refine (refuse_no' _ _ _ (by simp <;> omega)).mono ?_
  rintro e w' ⟨rfl, rfl⟩
  go_wp2_with fail
  refine (refuse_yes' _ _ _ (by simp <;> omega)).mono ?_
  rintro e w' ⟨rfl, rfl⟩
  go_wp2
  exact ⟨rfl, rfl, Below.refl _ _⟩

set_option maxHeartbeats 2000000 in
theorem measured_less (b off len cap : Nat) (l : List Int) (w : World) (hA : At w b off len cap l) (g1 : len ≤ 2048) (g2 : 20 ≤ len) (g3 : b1 l 0 / 16 = 4) (g4 : 20 ≤ hdOf l) (g5 : hdOf l ≤ len) (h : w2 l 2 < hdOf l) :
    Calls Try.prog 41 #[.slice (some ⟨b, off, none⟩) len cap] w fun e w' => e = .panicked (chainOf 4) ∧ Below w.heap.size w w' := by
  have x0 := b1_bd l hA.bytes 0
  have x2 := w2_bd l hA.bytes 2
  have x6 := w2_bd l hA.bytes 6
  unfold hdOf at *
  have hm4 := mask4 (b1 l 0) x0.1 (by omega)
  have hc := hA.cap1
  go_enter Try.func41, Try.ntmps41
  go_wp2_with fail
  refine (refuse_no' _ _ _ (by simp <;> omega)).mono ?_
  rintro e w' ⟨rfl, rfl⟩
  go_wp2_with fail
  refine (refuse_no' _ _ _ (by simp <;> omega)).mono ?_
  rintro e w' ⟨rfl, rfl⟩
  go_wp2_with fail
  refine (number1 b off len cap l 0 0 _ hA rfl (by omega)).mono ?_
  rintro e w' ⟨rfl, rfl⟩
  go_wp2_with fail
  refine (refuse_no' _ _ _ (by simp <;> omega)).mono ?_
  rintro e w' ⟨rfl, rfl⟩
  go_wp2_with fail
  refine (refuse_no' _ _ _ (by simp <;> omega)).mono ?_
  rintro e w' ⟨rfl, rfl⟩
  go_wp2_with fail
  refine (number2 b off len cap l 2 2 _ hA rfl (by omega)).mono ?_
  rintro e w' ⟨rfl, rfl⟩
  go_wp2_with fail
  refine (refuse_yes' _ _ _ (by simp <;> omega)).mono ?_
  rintro e w' ⟨rfl, rfl⟩
  go_wp2
  exact ⟨rfl, rfl, Below.refl _ _⟩

set_option maxHeartbeats 2000000 in
theorem measured_flag (b off len cap : Nat) (l : List Int) (w : World) (hA : At w b off len cap l) (g1 : len ≤ 2048) (g2 : 20 ≤ len) (g3 : b1 l 0 / 16 = 4) (g4 : 20 ≤ hdOf l) (g5 : hdOf l ≤ len) (g6 : hdOf l ≤ w2 l 2) (h : 32768 ≤ w2 l 6) :
    Calls Try.prog 41 #[.slice (some ⟨b, off, none⟩) len cap] w fun e w' => e = .panicked (chainOf 4) ∧ Below w.heap.size w w' := by
  have x0 := b1_bd l hA.bytes 0
  have x2 := w2_bd l hA.bytes 2
  have x6 := w2_bd l hA.bytes 6
  unfold hdOf at *
  have hm4 := mask4 (b1 l 0) x0.1 (by omega)
  have hc := hA.cap1
  have hb15 : (bits .and .i64 (w2 l 6) 32768 != 0) = true := by rw [bit15 _ x6.1 x6.2]; simp; omega
  go_enter Try.func41, Try.ntmps41
  go_wp2_with fail
  refine (refuse_no' _ _ _ (by simp <;> omega)).mono ?_
  rintro e w' ⟨rfl, rfl⟩
  go_wp2_with fail
  refine (refuse_no' _ _ _ (by simp <;> omega)).mono ?_
  rintro e w' ⟨rfl, rfl⟩
  go_wp2_with fail
  refine (number1 b off len cap l 0 0 _ hA rfl (by omega)).mono ?_
  rintro e w' ⟨rfl, rfl⟩
  go_wp2_with fail
  refine (refuse_no' _ _ _ (by simp <;> omega)).mono ?_
  rintro e w' ⟨rfl, rfl⟩
  go_wp2_with fail
  refine (refuse_no' _ _ _ (by simp <;> omega)).mono ?_
  rintro e w' ⟨rfl, rfl⟩
  go_wp2_with fail
  refine (number2 b off len cap l 2 2 _ hA rfl (by omega)).mono ?_
  rintro e w' ⟨rfl, rfl⟩
  go_wp2_with fail
  refine (number2 b off len cap l 6 6 _ hA rfl (by omega)).mono ?_
  rintro e w' ⟨rfl, rfl⟩
  go_wp2_with fail
  refine (refuse_yes' _ _ _ (by simp <;> omega)).mono ?_
  rintro e w' ⟨rfl, rfl⟩
  go_wp2
  exact ⟨rfl, rfl, Below.refl _ _⟩

set_option maxHeartbeats 2000000 in
theorem measured_total (b off len cap : Nat) (l : List Int) (w : World) (hA : At w b off len cap l) (g1 : len ≤ 2048) (g2 : 20 ≤ len) (g3 : b1 l 0 / 16 = 4) (g4 : 20 ≤ hdOf l) (g5 : hdOf l ≤ len) (g6 : hdOf l ≤ w2 l 2) (g7 : w2 l 6 < 32768) (h : (len : Int) < w2 l 2) :
    Calls Try.prog 41 #[.slice (some ⟨b, off, none⟩) len cap] w fun e w' => e = .panicked (chainOf 2) ∧ Below w.heap.size w w' := by
  have x0 := b1_bd l hA.bytes 0
  have x2 := w2_bd l hA.bytes 2
  have x6 := w2_bd l hA.bytes 6
  unfold hdOf at *
  have hm4 := mask4 (b1 l 0) x0.1 (by omega)
  have hc := hA.cap1
  have hb15 : (bits .and .i64 (w2 l 6) 32768 != 0) = false := by rw [bit15 _ x6.1 x6.2]; simp; omega
  go_enter Try.func41, Try.ntmps41
  go_wp2_with fail
  refine (refuse_no' _ _ _ (by simp <;> omega)).mono ?_
  rintro e w' ⟨rfl, rfl⟩
  go_wp2_with fail
  refine (refuse_no' _ _ _ (by simp <;> omega)).mono ?_
  rintro e w' ⟨rfl, rfl⟩
  go_wp2_with fail
  refine (number1 b off len cap l 0 0 _ hA rfl (by omega)).mono ?_
  rintro e w' ⟨rfl, rfl⟩
  go_wp2_with fail
  refine (refuse_no' _ _ _ (by simp <;> omega)).mono ?_
  rintro e w' ⟨rfl, rfl⟩
  go_wp2_with fail
  refine (refuse_no' _ _ _ (by simp <;> omega)).mono ?_
  rintro e w' ⟨rfl, rfl⟩
  go_wp2_with fail
  refine (number2 b off len cap l 2 2 _ hA rfl (by omega)).mono ?_
  rintro e w' ⟨rfl, rfl⟩
  go_wp2_with fail
  refine (number2 b off len cap l 6 6 _ hA rfl (by omega)).mono ?_
  rintro e w' ⟨rfl, rfl⟩
  go_wp2_with fail
  refine (refuse_no' _ _ _ (by simp <;> omega)).mono ?_
  rintro e w' ⟨rfl, rfl⟩
  go_wp2_with fail
  refine (refuse_yes' _ _ _ (by simp <;> omega)).mono ?_
  rintro e w' ⟨rfl, rfl⟩
  go_wp2
  exact ⟨rfl, rfl, Below.refl _ _⟩

set_option maxHeartbeats 2000000 in
theorem measured_sum (b off len cap : Nat) (l : List Int) (w : World) (hA : At w b off len cap l) (g1 : len ≤ 2048) (g2 : 20 ≤ len) (g3 : b1 l 0 / 16 = 4) (g4 : 20 ≤ hdOf l) (g5 : hdOf l ≤ len) (g6 : hdOf l ≤ w2 l 2) (g7 : w2 l 6 < 32768) (g8 : w2 l 2 ≤ len) (h : fold16 (ws (l.take (hdOf l).toNat)) ≠ 65535) :
    Calls Try.prog 41 #[.slice (some ⟨b, off, none⟩) len cap] w fun e w' => e = .panicked (chainOf 5) ∧ Below w.heap.size w w' := by
  have x0 := b1_bd l hA.bytes 0
  have x2 := w2_bd l hA.bytes 2
  have x6 := w2_bd l hA.bytes 6
  unfold hdOf at *
  have hm4 := mask4 (b1 l 0) x0.1 (by omega)
  have hc := hA.cap1
  have hb15 : (bits .and .i64 (w2 l 6) 32768 != 0) = false := by rw [bit15 _ x6.1 x6.2]; simp; omega
  have H : Hid (fold16 (ws (l.take (b1 l 0 % 16 * 4).toNat)) ≠ 65535) := h
  clear h
  go_enter Try.func41, Try.ntmps41
  go_wp2_with fail
  refine (refuse_no' _ _ _ (by simp <;> omega)).mono ?_
  rintro e w' ⟨rfl, rfl⟩
  go_wp2_with fail
  refine (refuse_no' _ _ _ (by simp <;> omega)).mono ?_
  rintro e w' ⟨rfl, rfl⟩
  go_wp2_with fail
  refine (number1 b off len cap l 0 0 _ hA rfl (by omega)).mono ?_
  rintro e w' ⟨rfl, rfl⟩
  go_wp2_with fail
  refine (refuse_no' _ _ _ (by simp <;> omega)).mono ?_
  rintro e w' ⟨rfl, rfl⟩
  go_wp2_with fail
  refine (refuse_no' _ _ _ (by simp <;> omega)).mono ?_
  rintro e w' ⟨rfl, rfl⟩
  go_wp2_with fail
  refine (number2 b off len cap l 2 2 _ hA rfl (by omega)).mono ?_
  rintro e w' ⟨rfl, rfl⟩
  go_wp2_with fail
  refine (number2 b off len cap l 6 6 _ hA rfl (by omega)).mono ?_
  rintro e w' ⟨rfl, rfl⟩
  go_wp2_with fail
  refine (refuse_no' _ _ _ (by simp <;> omega)).mono ?_
  rintro e w' ⟨rfl, rfl⟩
  go_wp2_with fail
  refine (refuse_no' _ _ _ (by simp <;> omega)).mono ?_
  rintro e w' ⟨rfl, rfl⟩
  go_wp2_with fail
  refine (sum_part b off len cap (b1 l 0 % 16 * 4).toNat (b1 l 0 % 16 * 4) l _ _ hA (by omega) (by omega) (by omega)).mono ?_
  rintro e w' ⟨rfl, rfl⟩
  go_wp2_with fail
  refine (refuse_yes' _ _ _ (by rw [bne_iff_ne]; exact H.out)).mono ?_
  rintro e w' ⟨rfl, rfl⟩
  go_wp2
  exact ⟨rfl, rfl, below_alloc _ _⟩

set_option maxHeartbeats 2000000 in
theorem measured_good (b off len cap : Nat) (l : List Int) (w : World) (hA : At w b off len cap l) (g1 : len ≤ 2048) (g2 : 20 ≤ len) (g3 : b1 l 0 / 16 = 4) (g4 : 20 ≤ hdOf l) (g5 : hdOf l ≤ len) (g6 : hdOf l ≤ w2 l 2) (g7 : w2 l 6 < 32768) (g8 : w2 l 2 ≤ len) (h : fold16 (ws (l.take (hdOf l).toNat)) = 65535) :
    Calls Try.prog 41 #[.slice (some ⟨b, off, none⟩) len cap] w fun e w' => e = .returned (.tuple #[.int .i64 (hdOf l), .int .i64 (w2 l 2)]) ∧ Below w.heap.size w w' := by
  have x0 := b1_bd l hA.bytes 0
  have x2 := w2_bd l hA.bytes 2
  have x6 := w2_bd l hA.bytes 6
  unfold hdOf at *
  have hm4 := mask4 (b1 l 0) x0.1 (by omega)
  have hc := hA.cap1
  have hb15 : (bits .and .i64 (w2 l 6) 32768 != 0) = false := by rw [bit15 _ x6.1 x6.2]; simp; omega
  have H : Hid (fold16 (ws (l.take (b1 l 0 % 16 * 4).toNat)) = 65535) := h
  clear h
  go_enter Try.func41, Try.ntmps41
  go_wp2_with fail
  refine (refuse_no' _ _ _ (by simp <;> omega)).mono ?_
  rintro e w' ⟨rfl, rfl⟩
  go_wp2_with fail
  refine (refuse_no' _ _ _ (by simp <;> omega)).mono ?_
  rintro e w' ⟨rfl, rfl⟩
  go_wp2_with fail
  refine (number1 b off len cap l 0 0 _ hA rfl (by omega)).mono ?_
  rintro e w' ⟨rfl, rfl⟩
  go_wp2_with fail
  refine (refuse_no' _ _ _ (by simp <;> omega)).mono ?_
  rintro e w' ⟨rfl, rfl⟩
  go_wp2_with fail
  refine (refuse_no' _ _ _ (by simp <;> omega)).mono ?_
  rintro e w' ⟨rfl, rfl⟩
  go_wp2_with fail
  refine (number2 b off len cap l 2 2 _ hA rfl (by omega)).mono ?_
  rintro e w' ⟨rfl, rfl⟩
  go_wp2_with fail
  refine (number2 b off len cap l 6 6 _ hA rfl (by omega)).mono ?_
  rintro e w' ⟨rfl, rfl⟩
  go_wp2_with fail
  refine (refuse_no' _ _ _ (by simp <;> omega)).mono ?_
  rintro e w' ⟨rfl, rfl⟩
  go_wp2_with fail
  refine (refuse_no' _ _ _ (by simp <;> omega)).mono ?_
  rintro e w' ⟨rfl, rfl⟩
  go_wp2_with fail
  refine (sum_part b off len cap (b1 l 0 % 16 * 4).toNat (b1 l 0 % 16 * 4) l _ _ hA (by omega) (by omega) (by omega)).mono ?_
  rintro e w' ⟨rfl, rfl⟩
  rw [H.out]
  go_wp2_with fail
  refine (refuse_no' _ _ _ (by simp)).mono ?_
  rintro e w' ⟨rfl, rfl⟩
  go_wp2
  go_ret2
  exact ⟨rfl, below_alloc _ _⟩

theorem measured_ok (b off len cap : Nat) (l : List Int) (w : World) (hA : At w b off len cap l) (g : Good l) :
    Calls Try.prog 41 #[.slice (some ⟨b, off, none⟩) len cap] w fun e w' => e = .returned (.tuple #[.int .i64 (hdOf l), .int .i64 (w2 l 2)]) ∧ Below w.heap.size w w' := by
  obtain ⟨g1, g2, g3, g4, g5, g6, g7, g8, g9⟩ := g
  rw [hA.len] at g1 g2 g5 g8
  exact measured_good b off len cap l w hA g1 g2 g3 g4 g5 g6 g7 g8 g9

theorem measured_no (a : Option Addr) (b off len cap : Nat) (l : List Int) (w : World) (ha : a = some ⟨b, off, none⟩ ∨ l = []) (hA : At w b off len cap l) (h : ¬ parseE l = 0) :
    Calls Try.prog 41 #[.slice a len cap] w fun e w' => e = .panicked (chainOf (parseE l)) ∧ Below w.heap.size w w' := by
  have hl := hA.len
  obtain ⟨E, hE⟩ : ∃ E, E = parseE l := ⟨_, rfl⟩
  rw [← hE] at h ⊢
  unfold parseE at hE
  rw [hl] at hE
  by_cases h1 : 2048 < len
  · rw [if_pos h1] at hE; subst hE; exact measured_long a len cap w h1
  rw [if_neg h1] at hE
  by_cases h2 : len < 20
  · rw [if_pos h2] at hE; subst hE; exact measured_short a len cap w h2
  rw [if_neg h2] at hE
  rcases ha with rfl | hnil
  case inr => rw [hnil] at hl; simp at hl; omega
  by_cases h3 : b1 l 0 / 16 ≠ 4 ∨ hdOf l < 20
  · rw [if_pos h3] at hE; subst hE; exact (by by_cases h3' : b1 l 0 / 16 = 4; exact measured_few b off len cap l w hA (by omega) (by omega) h3' (by omega); exact measured_ver b off len cap l w hA (by omega) (by omega) h3')
  rw [if_neg h3] at hE
  by_cases h4 : (len : Int) < hdOf l
  · rw [if_pos h4] at hE; subst hE; exact measured_head b off len cap l w hA (by omega) (by omega) (by omega) (by omega) h4
  rw [if_neg h4] at hE
  by_cases h5 : w2 l 2 < hdOf l ∨ 32768 ≤ w2 l 6
  · rw [if_pos h5] at hE; subst hE
    by_cases h6 : w2 l 2 < hdOf l
    · exact measured_less b off len cap l w hA (by omega) (by omega) (by omega) (by omega) (by omega) h6
    · exact measured_flag b off len cap l w hA (by omega) (by omega) (by omega) (by omega) (by omega) (by omega) (by omega)
  rw [if_neg h5] at hE
  by_cases h6 : (len : Int) < w2 l 2
  · rw [if_pos h6] at hE; subst hE; exact measured_total b off len cap l w hA (by omega) (by omega) (by omega) (by omega) (by omega) (by omega) (by omega) h6
  rw [if_neg h6] at hE
  by_cases h7 : fold16 (ws (l.take (hdOf l).toNat)) ≠ 65535
  · rw [if_pos h7] at hE; subst hE; exact measured_sum b off len cap l w hA (by omega) (by omega) (by omega) (by omega) (by omega) (by omega) (by omega) (by omega) h7
  rw [if_neg h7] at hE
  exact absurd hE h
end Go.Proofs.Ytdejjokgchbgnaa
