/- The contracts of lay, isByte, number, Kind and Number, and of One and Kind in the document's own answer. -/
import Derived.Test.YtdejjokgchbgnaaUdpBuild
import Derived.Test.YtdejjokgchbgnaaIcmpMath
import Derived.Test.YtdejjokgchbgnaaRin3
set_option maxRecDepth 100000
namespace Go.Proofs.Ytdejjokgchbgnaa
open Go.RowKit

/-- A message as a value. -/
@[reducible] def wdV (m : Wd) (vd : Value) : Value := .agg #[.int .i64 m.type, .int .i64 m.code, .int .u32 m.rest, vd]

@[reducible] def wdC (m : Wd) (vd : Value) : Array Value := #[.int .i64 m.type, .int .i64 m.code, .int .u32 m.rest, vd]

theorem wnumber_any (b off len cap : Nat) (l : List Int) (q m : Int) (k n : Nat) (w : World) (hA : At w b off len cap l) (hq : q = (k : Int)) (hm : m = (n : Int)) (h1 : 1 ≤ n) (h2 : n ≤ 8) (hk : k + n ≤ len) :
    Calls Try.prog 72 #[.slice (some ⟨b, off, none⟩) len cap, .int .i64 q, .int .i64 m] w fun e w' => e = .returned (.int .u64 (num ((l.drop k).take n))) ∧ w' = w := by
  subst hq hm
  have hc1 := hA.cap1
  have hc2 := hA.cap2
  have hg := get_yes b off len cap l k n w (Nat.le_trans hc1 hc2) hc1 hc2 hA.len hA.bytes hA.sees h1 h2 hk
  clear hA
  go_enter Try.func72, Try.ntmps72
  go_wp2_with fail
  refine hg.mono ?_
  rintro e w' ⟨rfl, rfl⟩
  go_wp2
  go_ret
  exact ⟨rfl, rfl⟩

theorem wnum1 (l : List Int) (k : Nat) (h : k + 1 ≤ l.length) : num ((l.drop k).take 1) = b1 l k := by
  have := getV1 l k h
  unfold getV at this
  rwa [if_pos (by unfold holdsB; simp; omega), Int.toNat_natCast] at this

theorem wnum4 (l : List Int) (k : Nat) (h : k + 4 ≤ l.length) : num ((l.drop k).take 4) = w4 l k := by
  have := getV4 l k h
  unfold getV at this
  rwa [if_pos (by unfold holdsB; simp; omega), Int.toNat_natCast] at this

theorem wnumber1 (b off len cap : Nat) (l : List Int) (q : Int) (k : Nat) (w : World) (hA : At w b off len cap l) (hq : q = (k : Int)) (hk : k + 1 ≤ len) :
    Calls Try.prog 72 #[.slice (some ⟨b, off, none⟩) len cap, .int .i64 q, .int .i64 1] w fun e w' => e = .returned (.int .u64 (b1 l k)) ∧ w' = w := by
  have := wnumber_any b off len cap l q 1 k 1 w hA hq rfl (by decide) (by decide) hk
  rwa [wnum1 l k (by rw [hA.len]; exact hk)] at this

theorem wnumber4 (b off len cap : Nat) (l : List Int) (q : Int) (k : Nat) (w : World) (hA : At w b off len cap l) (hq : q = (k : Int)) (hk : k + 4 ≤ len) :
    Calls Try.prog 72 #[.slice (some ⟨b, off, none⟩) len cap, .int .i64 q, .int .i64 4] w fun e w' => e = .returned (.int .u64 (w4 l k)) ∧ w' = w := by
  have := wnumber_any b off len cap l q 4 k 4 w hA hq rfl (by decide) (by decide) hk
  rwa [wnum4 l k (by rw [hA.len]; exact hk)] at this

theorem wone_any (v : Value) (l : List Int) (w : World) (h : Bts w v l) (hbig : l.length ≤ 1099511627776) :
    Calls Try.prog 21 #[v] w fun e w' => e = .returned (.int .i64 (fold16 (ws l))) ∧ Below w.heap.size w w' := by
  have hb : isBytes l := h.bytes
  have := rsum_any (some ⟨w.heap.size, 0, none⟩) w.heap.size 0 1 [l] (w.alloc (.cells #[v] 23)) (by simp) (by decide) (.inl rfl) (pts_one 23 h) (by simpa using hbig) (by simpa using hb)
  have hc : Calls Try.prog 38 #[.slice (some ⟨w.heap.size, 0, none⟩) 1 1] (w.alloc (.cells #[v] 23)) fun e w' => e = .returned (.int .i64 (fold16 (ws l))) ∧ w' = w.alloc (.cells #[v] 23) := by simpa using this
  obtain ⟨a, n, c, rfl⟩ := h.shape
  clear this
  go_enter Try.func21, Try.ntmps21
  go_wp2_with fail
  refine hc.mono ?_
  rintro e w' ⟨rfl, rfl⟩
  go_wp2
  go_ret
  exact ⟨rfl, below_alloc _ _⟩
end Go.Proofs.Ytdejjokgchbgnaa
