/- The contracts of lay, isByte, number, Kind and Number, and of One and Kind in the document's own answer. -/
import Derived.Test.YtejknbkleinjbaaUdpBuild
import Derived.Test.YtejknbkleinjbaaIcmpMath
import Derived.Test.YtejknbkleinjbaaRin3
namespace Go.Proofs.Ytejknbkleinjbaa
open Go.RowKit

/-- A message as a value. -/
@[reducible] def wdV (m : Wd) (vd : Value) : Value := .agg #[.int .i64 m.type, .int .i64 m.code, .int .u32 m.rest, vd]

@[reducible] def wdC (m : Wd) (vd : Value) : Array Value := #[.int .i64 m.type, .int .i64 m.code, .int .u32 m.rest, vd]

set_option maxHeartbeats 400000 in
theorem wlay_yes (b off len cap : Nat) (l : List Int) (q m : Int) (p n : Nat) (x : Int) (w : World) (hq : q = (p : Int)) (hm : m = (n : Int)) (hL : l.length = len)
    (hs : Sees w b off l) (h1 : 1 ≤ n) (h2 : n ≤ 8) (h3 : p + n ≤ len) (hx0 : 0 ≤ x) (hx1 : x < 18446744073709551616) (hreach : len ≤ 140737488351232) :
    Calls Try.prog 26 #[.slice (some ⟨b, off, none⟩) len cap, .int .i64 q, .int .i64 m, .int .u64 x] w fun e w' =>
      ∃ G, e = .returned (.slice (some ⟨G, 0, none⟩) len len) ∧ Holds8 w' w.heap.size G len len (lay l p n x) ∧ Below w.heap.size w w' := by
  subst hq hm
  go_enter Try.func26, Try.ntmps26
  go_wp2_with fail
  refine (put_yes b off len cap l p n x _ hL hs h1 h2 h3 hx0 hx1 hreach).mono ?_
  rintro e w1 ⟨G, rfl, hH, hb⟩
  go_wp2
  go_ret
  exact ⟨G, rfl, hH, hb⟩

theorem wlay_step (b off len cap : Nat) (l : List Int) (q m : Int) (p n : Nat) (x : Int) (w w0 : World) (hb0 : Below w0.heap.size w0 w) (hq : q = (p : Int)) (hm : m = (n : Int)) (hL : l.length = len)
    (hs : Sees w b off l) (h1 : 1 ≤ n) (h2 : n ≤ 8) (h3 : p + n ≤ len) (hx0 : 0 ≤ x) (hx1 : x < 18446744073709551616) (hreach : len ≤ 140737488351232) :
    Calls Try.prog 26 #[.slice (some ⟨b, off, none⟩) len cap, .int .i64 q, .int .i64 m, .int .u64 x] w fun e w' =>
      ∃ G L', e = .returned (.slice (some ⟨G, 0, none⟩) len len) ∧ Hid (L' = lay l p n x) ∧ Hid (L'.length = len) ∧ Sees w' G 0 L' ∧ Below w0.heap.size w0 w' := by
  refine (wlay_yes b off len cap l q m p n x w hq hm hL hs h1 h2 h3 hx0 hx1 hreach).mono ?_
  rintro e w' ⟨G, rfl, hH, hb⟩
  refine ⟨G, _, rfl, (rfl : lay l p n x = lay l p n x), (by show (lay l p n x).length = len; rw [lay_length]; exact hL), ?_, below_trans hb0 hb⟩
  intro i hi
  rw [Nat.zero_add]
  exact hH.cell i (by rw [lay_length, hL] at hi; exact hi)

theorem isByte_any (x : Int) (w : World) : Calls Try.prog 25 #[.int .i64 x] w fun e w' => e = .returned (.bool (inBb x 255)) ∧ w' = w := by
  by_cases h0 : 0 ≤ x
  · by_cases h1 : x ≤ 255
    · have E : Hid (inBb x 255 = true) := decide_eq_true (show inB x 255 from ⟨h0, h1⟩)
      go_enter Try.func25, Try.ntmps25
      go_wp2
      go_ret
      exact ⟨ret_bool E.out.symm, rfl⟩
    · have E : Hid (inBb x 255 = false) := decide_eq_false (fun h : inB x 255 => h1 h.2)
      go_enter Try.func25, Try.ntmps25
      go_wp2
      go_ret
      exact ⟨ret_bool E.out.symm, rfl⟩
  · have E : Hid (inBb x 255 = false) := decide_eq_false (fun h : inB x 255 => h0 h.1)
    go_enter Try.func25, Try.ntmps25
    go_wp2
    go_ret
    exact ⟨ret_bool E.out.symm, rfl⟩

theorem wnumber_any (b off len cap : Nat) (l : List Int) (q m : Int) (k n : Nat) (w : World) (hA : At w b off len cap l) (hq : q = (k : Int)) (hm : m = (n : Int)) (h1 : 1 ≤ n) (h2 : n ≤ 8) (hk : k + n ≤ len) :
    Calls Try.prog 20 #[.slice (some ⟨b, off, none⟩) len cap, .int .i64 q, .int .i64 m] w fun e w' => e = .returned (.int .u64 (num ((l.drop k).take n))) ∧ w' = w := by
  subst hq hm
  have hc1 := hA.cap1
  have hc2 := hA.cap2
  have hg := get_yes b off len cap l k n w (Nat.le_trans hc1 hc2) hc1 hc2 hA.len hA.bytes hA.sees h1 h2 hk
  clear hA
  go_enter Try.func20, Try.ntmps20
  go_wp2_with fail
  refine hg.mono ?_
  rintro e w' ⟨rfl, rfl⟩
  go_wp2
  go_ret
  exact ⟨rfl, rfl⟩

theorem wnum1 (l : List Int) (k : Nat) (h : k + 1 ≤ l.length) : num ((l.drop k).take 1) = b1 l k := by
  have := getV1 l k h
  unfold getV at this
  rwa [if_pos (by unfold holdsB; simp; omega), Int.toNat_natCast] at this

theorem wnum4 (l : List Int) (k : Nat) (h : k + 4 ≤ l.length) : num ((l.drop k).take 4) = w4 l k := by
  have := getV4 l k h
  unfold getV at this
  rwa [if_pos (by unfold holdsB; simp; omega), Int.toNat_natCast] at this

theorem wnumber1 (b off len cap : Nat) (l : List Int) (q : Int) (k : Nat) (w : World) (hA : At w b off len cap l) (hq : q = (k : Int)) (hk : k + 1 ≤ len) :
    Calls Try.prog 20 #[.slice (some ⟨b, off, none⟩) len cap, .int .i64 q, .int .i64 1] w fun e w' => e = .returned (.int .u64 (b1 l k)) ∧ w' = w := by
  have := wnumber_any b off len cap l q 1 k 1 w hA hq rfl (by decide) (by decide) hk
  rwa [wnum1 l k (by rw [hA.len]; exact hk)] at this

theorem wnumber4 (b off len cap : Nat) (l : List Int) (q : Int) (k : Nat) (w : World) (hA : At w b off len cap l) (hq : q = (k : Int)) (hk : k + 4 ≤ len) :
    Calls Try.prog 20 #[.slice (some ⟨b, off, none⟩) len cap, .int .i64 q, .int .i64 4] w fun e w' => e = .returned (.int .u64 (w4 l k)) ∧ w' = w := by
  have := wnumber_any b off len cap l q 4 k 4 w hA hq rfl (by decide) (by decide) hk
  rwa [wnum4 l k (by rw [hA.len]; exact hk)] at this

theorem check2 (w : World) (N : Nat) (v1 v2 : Value) (l1 l2 : List Int) (t : TypeId) (hN : N = w.heap.size) (h1 : Bts w v1 l1) (h2 : Bts w v2 l2) (hbig : l1.length + l2.length ≤ 1099511627776) :
    Calls Try.prog 27 #[.slice (some ⟨N, 0, none⟩) 2 2] (w.alloc (.cells #[v1, v2] t)) fun e w' => e = .returned (.int .i64 (turn16 (fold16 (ws (l1 ++ l2))))) ∧ w' = w.alloc (.cells #[v1, v2] t) := by
  subst hN
  have := check_any (some ⟨w.heap.size, 0, none⟩) w.heap.size 0 2 [l1, l2] (w.alloc (.cells #[v1, v2] t)) (by simp) (by decide) (.inl rfl) (pts2 t h1 h2) (by simpa using hbig) (by simpa using isBytes_append h1.bytes h2.bytes)
  simpa using this

theorem wone_any (v : Value) (l : List Int) (w : World) (h : Bts w v l) (hbig : l.length ≤ 1099511627776) :
    Calls Try.prog 22 #[v] w fun e w' => e = .returned (.int .i64 (fold16 (ws l))) ∧ Below w.heap.size w w' := by
  have hb : isBytes l := h.bytes
  have := rsum_any (some ⟨w.heap.size, 0, none⟩) w.heap.size 0 1 [l] (w.alloc (.cells #[v] 24)) (by simp) (by decide) (.inl rfl) (pts_one 24 h) (by simpa using hbig) (by simpa using hb)
  have hc : Calls Try.prog 33 #[.slice (some ⟨w.heap.size, 0, none⟩) 1 1] (w.alloc (.cells #[v] 24)) fun e w' => e = .returned (.int .i64 (fold16 (ws l))) ∧ w' = w.alloc (.cells #[v] 24) := by simpa using this
  obtain ⟨a, n, c, rfl⟩ := h.shape
  clear this
  go_enter Try.func22, Try.ntmps22
  go_wp2_with fail
  refine hc.mono ?_
  rintro e w' ⟨rfl, rfl⟩
  go_wp2
  go_ret
  exact ⟨rfl, below_alloc _ _⟩
end Go.Proofs.Ytejknbkleinjbaa
