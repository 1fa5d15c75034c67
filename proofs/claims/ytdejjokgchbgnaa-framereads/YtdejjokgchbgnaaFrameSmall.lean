/- The contracts of number, whyOf, Proto, behind, echoNumber, ports; and of why and Proto in the document's own answer. -/
import Derived.Test.YtdejjokgchbgnaaFrameMath
import Derived.Test.YtdejjokgchbgnaaIcmpParse
import Derived.Test.YtdejjokgchbgnaaIcmpKind
import Derived.Test.YtdejjokgchbgnaaIpBits
set_option maxRecDepth 100000
namespace Go.Proofs.Ytdejjokgchbgnaa
open Go.RowKit
attribute [local go_sem ↓] Go.wp_at_zero Go.wp_at_succ

theorem fnumber_any (b off len cap : Nat) (l : List Int) (q m : Int) (k n : Nat) (w : World) (hA : At w b off len cap l) (hq : q = (k : Int)) (hm : m = (n : Int)) (h1 : 1 ≤ n) (h2 : n ≤ 8) (hk : k + n ≤ len) :
    Calls Try.prog 35 #[.slice (some ⟨b, off, none⟩) len cap, .int .i64 q, .int .i64 m] w fun e w' => e = .returned (.int .u64 (num ((l.drop k).take n))) ∧ w' = w := by
  subst hq hm
  have hc1 := hA.cap1
  have hc2 := hA.cap2
  have hg := get_yes b off len cap l k n w (Nat.le_trans hc1 hc2) hc1 hc2 hA.len hA.bytes hA.sees h1 h2 hk
  clear hA
  go_enter Try.func35, Try.ntmps35
  go_wp2_with fail
  refine hg.mono ?_
  rintro e w' ⟨rfl, rfl⟩
  go_wp2
  go_ret
  exact ⟨rfl, rfl⟩

theorem num_1 (l : List Int) (k : Nat) (h : k + 1 ≤ l.length) : num ((l.drop k).take 1) = b1 l k := by
  rw [take_next l k 0 (by omega), num_snoc]; simp [num, b1]

theorem num_2 (l : List Int) (k : Nat) (h : k + 2 ≤ l.length) : num ((l.drop k).take 2) = w2 l k := by
  rw [take_next l k 1 (by omega), num_snoc, take_next l k 0 (by omega), num_snoc]; simp [num, w2]

theorem num_4 (l : List Int) (k : Nat) (h : k + 4 ≤ l.length) : num ((l.drop k).take 4) = w4 l k := by
  rw [take_next l k 3 (by omega), num_snoc, take_next l k 2 (by omega), num_snoc, take_next l k 1 (by omega), num_snoc, take_next l k 0 (by omega), num_snoc]; simp [num, w4]

theorem fnumber1 (b off len cap : Nat) (l : List Int) (q : Int) (k : Nat) (w : World) (hA : At w b off len cap l) (hq : q = (k : Int)) (hk : k + 1 ≤ len) :
    Calls Try.prog 35 #[.slice (some ⟨b, off, none⟩) len cap, .int .i64 q, .int .i64 1] w fun e w' => e = .returned (.int .u64 (b1 l k)) ∧ w' = w := by
  have := fnumber_any b off len cap l q 1 k 1 w hA hq rfl (by decide) (by decide) hk
  rwa [num_1 l k (by rw [hA.len]; exact hk)] at this

theorem fnumber2 (b off len cap : Nat) (l : List Int) (q : Int) (k : Nat) (w : World) (hA : At w b off len cap l) (hq : q = (k : Int)) (hk : k + 2 ≤ len) :
    Calls Try.prog 35 #[.slice (some ⟨b, off, none⟩) len cap, .int .i64 q, .int .i64 2] w fun e w' => e = .returned (.int .u64 (w2 l k)) ∧ w' = w := by
  have := fnumber_any b off len cap l q 2 k 2 w hA hq rfl (by decide) (by decide) hk
  rwa [num_2 l k (by rw [hA.len]; exact hk)] at this

theorem fnumber4 (b off len cap : Nat) (l : List Int) (q : Int) (k : Nat) (w : World) (hA : At w b off len cap l) (hq : q = (k : Int)) (hk : k + 4 ≤ len) :
    Calls Try.prog 35 #[.slice (some ⟨b, off, none⟩) len cap, .int .i64 q, .int .i64 4] w fun e w' => e = .returned (.int .u64 (w4 l k)) ∧ w' = w := by
  have := fnumber_any b off len cap l q 4 k 4 w hA hq rfl (by decide) (by decide) hk
  rwa [num_4 l k (by rw [hA.len]; exact hk)] at this

theorem whyOf_any (e0 : Int) (w : World) : Calls Try.prog 27 #[.int .i64 e0] w fun e w' => e = .returned (.int .i64 (whyI e0)) ∧ w' = w := by
  by_cases h : e0 = 5
  · have E : Hid (whyI e0 = 2) := if_pos h
    go_enter Try.func27, Try.ntmps27
    go_wp2
    go_ret
    exact ⟨ret_int E.out.symm, rfl⟩
  · have E : Hid (whyI e0 = 1) := if_neg h
    go_enter Try.func27, Try.ntmps27
    go_wp2
    go_ret
    exact ⟨ret_int E.out.symm, rfl⟩

theorem rwhy_any (e0 : Int) (w : World) : Calls Try.prog 29 #[.int .i64 e0] w fun e w' => e = .returned (.int .i64 (whyI e0)) ∧ w' = w := by
  by_cases h : e0 = 5
  · have E : Hid (whyI e0 = 2) := if_pos h
    go_enter Try.func29, Try.ntmps29
    go_wp2
    go_ret
    exact ⟨ret_int E.out.symm, rfl⟩
  · have E : Hid (whyI e0 = 1) := if_neg h
    go_enter Try.func29, Try.ntmps29
    go_wp2
    go_ret
    exact ⟨ret_int E.out.symm, rfl⟩

theorem proto_any (k : Int) (w : World) : Calls Try.prog 17 #[.int .i64 k] w fun e w' => e = .returned (.int .i64 (protoK k)) ∧ w' = w := by
  by_cases h1 : k = 1
  · subst h1
    go_enter Try.func17, Try.ntmps17
    go_wp2
    go_ret
    exact ⟨rfl, rfl⟩
  by_cases h2 : k = 2
  · subst h2
    go_enter Try.func17, Try.ntmps17
    go_wp2
    go_ret
    exact ⟨rfl, rfl⟩
  by_cases h3 : k = 3
  · subst h3
    go_enter Try.func17, Try.ntmps17
    go_wp2
    go_ret
    exact ⟨rfl, rfl⟩
  by_cases h4 : k = 4
  · subst h4
    go_enter Try.func17, Try.ntmps17
    go_wp2
    go_ret
    exact ⟨rfl, rfl⟩
  have E : Hid (protoK k = 0) := by show protoK k = 0; unfold protoK; simp [h1, h2, h3, h4]
  have g1 : (k == 1) = false := by simpa using h1
  have g2 : (k == 2) = false := by simpa using h2
  have g3 : (k == 3) = false := by simpa using h3
  have g4 : (k == 4) = false := by simpa using h4
  clear h1 h2 h3 h4
  go_enter Try.func17, Try.ntmps17
  go_wp2
  go_ret
  exact ⟨ret_int E.out.symm, rfl⟩

theorem rproto_any (k : Int) (w : World) : Calls Try.prog 18 #[.int .i64 k] w fun e w' => e = .returned (.int .i64 (protoK k)) ∧ w' = w := by
  by_cases h1 : k = 1
  · subst h1
    go_enter Try.func18, Try.ntmps18
    go_wp2
    go_ret
    exact ⟨rfl, rfl⟩
  by_cases h2 : k = 2
  · subst h2
    go_enter Try.func18, Try.ntmps18
    go_wp2
    go_ret
    exact ⟨rfl, rfl⟩
  by_cases h3 : k = 3
  · subst h3
    go_enter Try.func18, Try.ntmps18
    go_wp2
    go_ret
    exact ⟨rfl, rfl⟩
  by_cases h4 : k = 4
  · subst h4
    go_enter Try.func18, Try.ntmps18
    go_wp2
    go_ret
    exact ⟨rfl, rfl⟩
  have E : Hid (protoK k = 0) := by show protoK k = 0; unfold protoK; simp [h1, h2, h3, h4]
  have g1 : (k == 1) = false := by simpa using h1
  have g2 : (k == 2) = false := by simpa using h2
  have g3 : (k == 3) = false := by simpa using h3
  have g4 : (k == 4) = false := by simpa using h4
  clear h1 h2 h3 h4
  go_enter Try.func18, Try.ntmps18
  go_wp2
  go_ret
  exact ⟨ret_int E.out.symm, rfl⟩
end Go.Proofs.Ytdejjokgchbgnaa
