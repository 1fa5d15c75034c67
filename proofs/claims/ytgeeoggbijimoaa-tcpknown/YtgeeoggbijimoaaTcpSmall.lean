/- The contracts of lay, number, isField, tester and the closure that it makes. -/
import Derived.Test.YtgeeoggbijimoaaUdpBuild
import Derived.Test.YtgeeoggbijimoaaTcpMath
namespace Go.Proofs.Ytgeeoggbijimoaa
open Go.RowKit

set_option maxHeartbeats 400000 in
theorem tlay_yes (b off len cap : Nat) (l : List Int) (q m : Int) (p n : Nat) (x : Int) (w : World) (hq : q = (p : Int)) (hm : m = (n : Int)) (hL : l.length = len)
    (hs : Sees w b off l) (h1 : 1 ≤ n) (h2 : n ≤ 8) (h3 : p + n ≤ len) (hx0 : 0 ≤ x) (hx1 : x < 18446744073709551616) (hreach : len ≤ 140737488351232) :
    Calls Try.prog 21 #[.slice (some ⟨b, off, none⟩) len cap, .int .i64 q, .int .i64 m, .int .u64 x] w fun e w' =>
      ∃ G, e = .returned (.slice (some ⟨G, 0, none⟩) len len) ∧ Holds8 w' w.heap.size G len len (lay l p n x) ∧ Below w.heap.size w w' := by
  subst hq hm
  go_enter Try.func21, Try.ntmps21
  go_wp2_with fail
  refine (put_yes b off len cap l p n x _ hL hs h1 h2 h3 hx0 hx1 hreach).mono ?_
  rintro e w1 ⟨G, rfl, hH, hb⟩
  go_wp2
  go_ret
  exact ⟨G, rfl, hH, hb⟩

theorem tlay_step (b off len cap : Nat) (l : List Int) (q m : Int) (p n : Nat) (x : Int) (w w0 : World) (hb0 : Below w0.heap.size w0 w) (hq : q = (p : Int)) (hm : m = (n : Int)) (hL : l.length = len)
    (hs : Sees w b off l) (h1 : 1 ≤ n) (h2 : n ≤ 8) (h3 : p + n ≤ len) (hx0 : 0 ≤ x) (hx1 : x < 18446744073709551616) (hreach : len ≤ 140737488351232) :
    Calls Try.prog 21 #[.slice (some ⟨b, off, none⟩) len cap, .int .i64 q, .int .i64 m, .int .u64 x] w fun e w' =>
      ∃ G L', e = .returned (.slice (some ⟨G, 0, none⟩) len len) ∧ Hid (L' = lay l p n x) ∧ Hid (L'.length = len) ∧ Sees w' G 0 L' ∧ Below w0.heap.size w0 w' := by
  refine (tlay_yes b off len cap l q m p n x w hq hm hL hs h1 h2 h3 hx0 hx1 hreach).mono ?_
  rintro e w' ⟨G, rfl, hH, hb⟩
  refine ⟨G, _, rfl, (rfl : lay l p n x = lay l p n x), (by show (lay l p n x).length = len; rw [lay_length]; exact hL), ?_, below_trans hb0 hb⟩
  intro i hi
  rw [Nat.zero_add]
  exact hH.cell i (by rw [lay_length, hL] at hi; exact hi)

theorem isField_any (x : Int) (w : World) : Calls Try.prog 34 #[.int .i64 x] w fun e w' => e = .returned (.bool (inBb x 65535)) ∧ w' = w := by
  by_cases h0 : 0 ≤ x
  · by_cases h1 : x ≤ 65535
    · have E : Hid (inBb x 65535 = true) := decide_eq_true (show inB x 65535 from ⟨h0, h1⟩)
      go_enter Try.func34, Try.ntmps34
      go_wp2
      go_ret
      exact ⟨ret_bool E.out.symm, rfl⟩
    · have E : Hid (inBb x 65535 = false) := decide_eq_false (fun h : inB x 65535 => h1 h.2)
      go_enter Try.func34, Try.ntmps34
      go_wp2
      go_ret
      exact ⟨ret_bool E.out.symm, rfl⟩
  · have E : Hid (inBb x 65535 = false) := decide_eq_false (fun h : inB x 65535 => h0 h.1)
    go_enter Try.func34, Try.ntmps34
    go_wp2
    go_ret
    exact ⟨ret_bool E.out.symm, rfl⟩

set_option maxHeartbeats 400000 in
theorem number_any (b off len cap : Nat) (l : List Int) (q m : Int) (k n : Nat) (w : World) (hA : At w b off len cap l) (hq : q = (k : Int)) (hm : m = (n : Int)) (h1 : 1 ≤ n) (h2 : n ≤ 8) (hk : k + n ≤ len) :
    Calls Try.prog 24 #[.slice (some ⟨b, off, none⟩) len cap, .int .i64 q, .int .i64 m] w fun e w' => e = .returned (.int .u64 (num ((l.drop k).take n))) ∧ w' = w := by
  subst hq hm
  have hc1 := hA.cap1
  have hc2 := hA.cap2
  have hg := get_yes b off len cap l k n w (Nat.le_trans hc1 hc2) hc1 hc2 hA.len hA.bytes hA.sees h1 h2 hk
  clear hA
  go_enter Try.func24, Try.ntmps24
  go_wp2_with fail
  refine hg.mono ?_
  rintro e w' ⟨rfl, rfl⟩
  go_wp2
  go_ret
  exact ⟨rfl, rfl⟩

theorem num2 (l : List Int) (k : Nat) (h : k + 2 ≤ l.length) : num ((l.drop k).take 2) = w2 l k := by
  have := getV2 l k h
  unfold getV at this
  rwa [if_pos (by unfold holdsB; simp; omega), Int.toNat_natCast] at this

theorem num4 (l : List Int) (k : Nat) (h : k + 4 ≤ l.length) : num ((l.drop k).take 4) = w4 l k := by
  have := getV4 l k h
  unfold getV at this
  rwa [if_pos (by unfold holdsB; simp; omega), Int.toNat_natCast] at this

theorem number2 (b off len cap : Nat) (l : List Int) (q : Int) (k : Nat) (w : World) (hA : At w b off len cap l) (hq : q = (k : Int)) (hk : k + 2 ≤ len) :
    Calls Try.prog 24 #[.slice (some ⟨b, off, none⟩) len cap, .int .i64 q, .int .i64 2] w fun e w' => e = .returned (.int .u64 (w2 l k)) ∧ w' = w := by
  have := number_any b off len cap l q 2 k 2 w hA hq rfl (by decide) (by decide) hk
  rwa [num2 l k (by rw [hA.len]; exact hk)] at this

theorem number4 (b off len cap : Nat) (l : List Int) (q : Int) (k : Nat) (w : World) (hA : At w b off len cap l) (hq : q = (k : Int)) (hk : k + 4 ≤ len) :
    Calls Try.prog 24 #[.slice (some ⟨b, off, none⟩) len cap, .int .i64 q, .int .i64 4] w fun e w' => e = .returned (.int .u64 (w4 l k)) ∧ w' = w := by
  have := number_any b off len cap l q 4 k 4 w hA hq rfl (by decide) (by decide) hk
  rwa [num4 l k (by rw [hA.len]; exact hk)] at this

/-- The closure over the flags that lie in the block B. -/
@[reducible] def testV (B : Nat) : Value := .func (.func 42) #[] #[.pointer (some ⟨B, 0, none⟩)]

theorem tester_any (f : Int) (w : World) : Calls Try.prog 33 #[.int .i64 f] w fun e w' => e = .returned (testV w.heap.size) ∧ w' = w.alloc (.cells #[.int .i64 f] 3) := by
  have hmf : ∀ (fn : Fn) (first cap : Array Value) (w : World), (Instr.makeFunc fn first cap).run Try.prog w = .ok (.func fn first cap) w := fun _ _ _ _ => rfl
  go_enter Try.func33, Try.ntmps33
  go_wp2
  go_ret
  exact ⟨rfl, rfl⟩

theorem tests_any (f m : Int) (B : Nat) (w : World) (hc : w.cell? ⟨B, 0, none⟩ = some (.int .i64 f)) :
    Calls Try.prog 42 #[.int .i64 m, .pointer (some ⟨B, 0, none⟩)] w fun e w' => e = .returned (.bool (bits .and .i64 f m != 0)) ∧ w' = w := by
  go_enter Try.func42, Try.ntmps42
  go_wp2
  go_ret
  exact ⟨rfl, rfl⟩
end Go.Proofs.Ytgeeoggbijimoaa
