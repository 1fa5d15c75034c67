/- The contracts of lay, number, isField, tester and the closure that it makes. -/
import Derived.Test.YtdejjokgchbgnaaUdpBuild
import Derived.Test.YtdejjokgchbgnaaTcpMath
set_option maxRecDepth 100000
namespace Go.Proofs.Ytdejjokgchbgnaa
open Go.RowKit

set_option maxHeartbeats 400000 in
theorem number_any (b off len cap : Nat) (l : List Int) (q m : Int) (k n : Nat) (w : World) (hA : At w b off len cap l) (hq : q = (k : Int)) (hm : m = (n : Int)) (h1 : 1 ≤ n) (h2 : n ≤ 8) (hk : k + n ≤ len) :
    Calls Try.prog 71 #[.slice (some ⟨b, off, none⟩) len cap, .int .i64 q, .int .i64 m] w fun e w' => e = .returned (.int .u64 (num ((l.drop k).take n))) ∧ w' = w := by
  subst hq hm
  have hc1 := hA.cap1
  have hc2 := hA.cap2
  have hg := get_yes b off len cap l k n w (Nat.le_trans hc1 hc2) hc1 hc2 hA.len hA.bytes hA.sees h1 h2 hk
  clear hA
  go_enter Try.func71, Try.ntmps71
  go_wp2_with fail
  refine hg.mono ?_
  rintro e w' ⟨rfl, rfl⟩
  go_wp2
  go_ret
  exact ⟨rfl, rfl⟩

theorem num2 (l : List Int) (k : Nat) (h : k + 2 ≤ l.length) : num ((l.drop k).take 2) = w2 l k := by
  have := getV2 l k h
  unfold getV at this
  rwa [if_pos (by unfold holdsB; simp; omega), Int.toNat_natCast] at this

theorem num4 (l : List Int) (k : Nat) (h : k + 4 ≤ l.length) : num ((l.drop k).take 4) = w4 l k := by
  have := getV4 l k h
  unfold getV at this
  rwa [if_pos (by unfold holdsB; simp; omega), Int.toNat_natCast] at this

theorem tnumber2 (b off len cap : Nat) (l : List Int) (q : Int) (k : Nat) (w : World) (hA : At w b off len cap l) (hq : q = (k : Int)) (hk : k + 2 ≤ len) :
    Calls Try.prog 71 #[.slice (some ⟨b, off, none⟩) len cap, .int .i64 q, .int .i64 2] w fun e w' => e = .returned (.int .u64 (w2 l k)) ∧ w' = w := by
  have := number_any b off len cap l q 2 k 2 w hA hq rfl (by decide) (by decide) hk
  rwa [num2 l k (by rw [hA.len]; exact hk)] at this

theorem tnumber4 (b off len cap : Nat) (l : List Int) (q : Int) (k : Nat) (w : World) (hA : At w b off len cap l) (hq : q = (k : Int)) (hk : k + 4 ≤ len) :
    Calls Try.prog 71 #[.slice (some ⟨b, off, none⟩) len cap, .int .i64 q, .int .i64 4] w fun e w' => e = .returned (.int .u64 (w4 l k)) ∧ w' = w := by
  have := number_any b off len cap l q 4 k 4 w hA hq rfl (by decide) (by decide) hk
  rwa [num4 l k (by rw [hA.len]; exact hk)] at this

/-- The closure over the flags that lie in the block B. -/
@[reducible] def testV (B : Nat) : Value := .func (.func 77) #[] #[.pointer (some ⟨B, 0, none⟩)]

theorem tester_any (f : Int) (w : World) : Calls Try.prog 75 #[.int .i64 f] w fun e w' => e = .returned (testV w.heap.size) ∧ w' = w.alloc (.cells #[.int .i64 f] 3) := by
  have hmf : ∀ (fn : Fn) (first cap : Array Value) (w : World), (Instr.makeFunc fn first cap).run Try.prog w = .ok (.func fn first cap) w := fun _ _ _ _ => rfl
  go_enter Try.func75, Try.ntmps75
  go_wp2
  go_ret
  exact ⟨rfl, rfl⟩

theorem tests_any (f m : Int) (B : Nat) (w : World) (hc : w.cell? ⟨B, 0, none⟩ = some (.int .i64 f)) :
    Calls Try.prog 77 #[.int .i64 m, .pointer (some ⟨B, 0, none⟩)] w fun e w' => e = .returned (.bool (bits .and .i64 f m != 0)) ∧ w' = w := by
  go_enter Try.func77, Try.ntmps77
  go_wp2
  go_ret
  exact ⟨rfl, rfl⟩
end Go.Proofs.Ytdejjokgchbgnaa
