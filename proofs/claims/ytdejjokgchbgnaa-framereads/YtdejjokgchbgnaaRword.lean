/- The contracts of word, Long and One in the document's own answer. -/
import Derived.Test.YtdejjokgchbgnaaRow
import Derived.Test.YtdejjokgchbgnaaMeasured
import Derived.Test.YtdejjokgchbgnaaRsum
import Derived.Test.YtdejjokgchbgnaaCopy
set_option maxRecDepth 100000
namespace Go.Proofs.Ytdejjokgchbgnaa
open Go.RowKit

set_option maxHeartbeats 1000000 in
theorem word_any (b off len cap : Nat) (l : List Int) (q : Int) (k : Nat) (w : World) (hA : At w b off len cap l) (hq : q = (k : Int)) (hk : k + 2 ≤ len) (hl : len ≤ 5000) :
    Calls Try.prog 20 #[.slice (some ⟨b, off, none⟩) len cap, .int .i64 q] w fun e w' => e = .returned (.int .i64 (w2 l k)) ∧ ∃ nq, w' = w.drewN nq := by
  subst hq
  have hL := hA.len
  have c0 := hA.sees k (by omega)
  obtain ⟨k1, hk1⟩ : ∃ k1, k + 1 = k1 := ⟨_, rfl⟩
  have c1 := hA.sees k1 (by omega)
  have b0 := getD_byte l hA.bytes k
  have b1 := getD_byte l hA.bytes k1
  have HW : Hid (w2 l k = l.getD k 0 * 256 + l.getD k1 0) := by show _ = _; rw [← hk1]; rfl
  generalize l.getD k 0 = x at *
  generalize l.getD k1 0 = y at *
  obtain ⟨x0, x1⟩ := b0
  obtain ⟨y0, y1⟩ := b1
  have hor : bits .or .i64 (x * 256) y = x * 256 + y := or_i64 8 (x * 256) y (by omega) (by omega) (by omega) y0 (by omega) (by omega)
  have i0 : (k : Int) < (len : Int) := by omega
  have i1 : (k1 : Int) < (len : Int) := by omega
  have u1 : IntKind.i64.wrap ((k : Int) + 1) = (k1 : Int) := by rw [i64_id _ (by omega) (by omega)]; omega
  have u2 : IntKind.i64.wrap x = x := i64_id _ (by omega) (by omega)
  have u3 : IntKind.i64.wrap (x * 256) = x * 256 := i64_id _ (by omega) (by omega)
  have u4 : IntKind.i64.wrap y = y := i64_id _ (by omega) (by omega)
  clear hA hL hk1
  go_enter Try.func20, Try.ntmps20
  go_wp2
  go_quiet (fail)
  go_wp2
  go_ret
  exact ⟨by rw [HW.out]; rfl, _, rfl⟩

set_option maxHeartbeats 1000000 in
theorem long_any (b off len cap : Nat) (l : List Int) (q : Int) (k : Nat) (w : World) (hA : At w b off len cap l) (hq : q = (k : Int)) (hk : k + 4 ≤ len) (hl : len ≤ 5000) :
    Calls Try.prog 22 #[.slice (some ⟨b, off, none⟩) len cap, .int .i64 q] w fun e w' => e = .returned (.int .u32 (w4 l k)) ∧ ∃ nq, w' = w.drewN nq := by
  subst hq
  have hL := hA.len
  have c0 := hA.sees k (by omega)
  obtain ⟨k1, hk1⟩ : ∃ k1, k + 1 = k1 := ⟨_, rfl⟩
  obtain ⟨k2, hk2⟩ : ∃ k2, k + 2 = k2 := ⟨_, rfl⟩
  obtain ⟨k3, hk3⟩ : ∃ k3, k + 3 = k3 := ⟨_, rfl⟩
  have c1 := hA.sees k1 (by omega)
  have c2 := hA.sees k2 (by omega)
  have c3 := hA.sees k3 (by omega)
  have b0 := getD_byte l hA.bytes k
  have b1 := getD_byte l hA.bytes k1
  have b2 := getD_byte l hA.bytes k2
  have b3 := getD_byte l hA.bytes k3
  have HW : Hid (w4 l k = ((l.getD k 0 * 256 + l.getD k1 0) * 256 + l.getD k2 0) * 256 + l.getD k3 0) := by show _ = _; rw [← hk1, ← hk2, ← hk3]; rfl
  generalize l.getD k 0 = x at *
  generalize l.getD k1 0 = y at *
  generalize l.getD k2 0 = z at *
  generalize l.getD k3 0 = t at *
  obtain ⟨x0, x1⟩ := b0
  obtain ⟨y0, y1⟩ := b1
  obtain ⟨z0, z1⟩ := b2
  obtain ⟨t0, t1⟩ := b3
  have hor1 : bits .or .u32 (x * 16777216) (y * 65536) = x * 16777216 + y * 65536 := or_u32 24 _ _ (by omega) (by omega) (by omega) (by omega) (by omega) (by omega)
  have hor2 : bits .or .u32 (x * 16777216 + y * 65536) (z * 256) = x * 16777216 + y * 65536 + z * 256 := or_u32 16 _ _ (by omega) (by omega) (by omega) (by omega) (by omega) (by omega)
  have hor3 : bits .or .u32 (x * 16777216 + y * 65536 + z * 256) t = x * 16777216 + y * 65536 + z * 256 + t := or_u32 8 _ _ (by omega) (by omega) (by omega) (by omega) (by omega) (by omega)
  have i0 : (k : Int) < (len : Int) := by omega
  have i1 : (k1 : Int) < (len : Int) := by omega
  have i2 : (k2 : Int) < (len : Int) := by omega
  have i3 : (k3 : Int) < (len : Int) := by omega
  have u1 : IntKind.i64.wrap ((k : Int) + 1) = (k1 : Int) := by rw [i64_id _ (by omega) (by omega)]; omega
  have u2 : IntKind.i64.wrap ((k : Int) + 2) = (k2 : Int) := by rw [i64_id _ (by omega) (by omega)]; omega
  have u3 : IntKind.i64.wrap ((k : Int) + 3) = (k3 : Int) := by rw [i64_id _ (by omega) (by omega)]; omega
  have v1 : IntKind.u32.wrap x = x := u32_id _ (by omega) (by omega)
  have v2 : IntKind.u32.wrap y = y := u32_id _ (by omega) (by omega)
  have v3 : IntKind.u32.wrap z = z := u32_id _ (by omega) (by omega)
  have v4 : IntKind.u32.wrap t = t := u32_id _ (by omega) (by omega)
  have v5 : IntKind.u32.wrap (x * 16777216) = x * 16777216 := u32_id _ (by omega) (by omega)
  have v6 : IntKind.u32.wrap (y * 65536) = y * 65536 := u32_id _ (by omega) (by omega)
  have v7 : IntKind.u32.wrap (z * 256) = z * 256 := u32_id _ (by omega) (by omega)
  clear hA hL hk1 hk2 hk3
  go_enter Try.func22, Try.ntmps22
  go_wp2
  go_quiet (fail)
  go_wp2
  go_ret
  exact ⟨ret_int (by rw [HW.out]; omega), _, rfl⟩

/-- Sum of one part, in the document's own answer. -/
theorem one_any (v : Value) (l : List Int) (w : World) (h : Bts w v l) (hbig : l.length ≤ 1099511627776) :
    Calls Try.prog 21 #[v] w fun e w' => e = .returned (.int .i64 (fold16 (ws l))) ∧ Below w.heap.size w w' := by
  have hb : isBytes l := by obtain ⟨a, cap, b, off, h1, h2, h3, h4, h5, h6⟩ := h; exact h4
  have := rsum_any (some ⟨w.heap.size, 0, none⟩) w.heap.size 0 1 [l] (w.alloc (.cells #[v] 23)) (by simp) (by decide) (.inl rfl) (pts_one 23 h) (by simpa using hbig) (by simpa using hb)
  have hc : Calls Try.prog 38 #[.slice (some ⟨w.heap.size, 0, none⟩) 1 1] (w.alloc (.cells #[v] 23)) fun e w' => e = .returned (.int .i64 (fold16 (ws l))) ∧ w' = w.alloc (.cells #[v] 23) := by simpa using this
  obtain ⟨a, n, c, rfl⟩ := h.shape
  clear this
  go_enter Try.func21, Try.ntmps21
  go_wp2_with fail
  refine hc.mono ?_
  rintro e w' ⟨rfl, rfl⟩
  go_wp2
  go_ret
  exact ⟨rfl, below_alloc _ _⟩
end Go.Proofs.Ytdejjokgchbgnaa
