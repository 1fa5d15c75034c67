/- blank: slices.ContainsFunc with a test of its own. -/
import Derived.Test.YtafkkehcacdodaaGreatStrMath
set_option maxRecDepth 100000
namespace Go.Proofs.YtafkkehcacdodaaGreat
open Go.RowKit

set_option maxHeartbeats 400000 in
theorem test_any (w : World) (c : Int) : Calls Tryz.prog 100 #[.int .u8 c] w fun e w' => e = .returned (.bool (c != 0)) ∧ w' = w := by
  go_enter Tryz.func100, Tryz.ntmps100
  go_wp2
  go_ret
  exact ⟨rfl, rfl⟩

theorem allz_take {l : List Int} {k : Nat} (h : k < l.length) (h1 : allz (l.take k) = true) : allz (l.take (k + 1)) = (l.getD k 0 == 0) := by
  rw [take_snoc l k h, allz_snoc, h1, Bool.true_and]

theorem allz_no {l : List Int} {k : Nat} (h : k < l.length) (h1 : l.getD k 0 ≠ 0) : allz l = false := by
  unfold allz
  rw [List.all_eq_false]
  refine ⟨l[k], List.getElem_mem h, ?_⟩
  have : l.getD k 0 = l[k] := by simp [List.getD, List.getElem?_eq_getElem h]
  rw [this] at h1
  simpa using h1

set_option maxHeartbeats 1000000 in
theorem indexf_any (w : World) (v : Value) (l : List Int) (h : Bts w v l) :
    Calls Tryz.prog 118 #[v, .func (.func 100) #[] #[]] w fun e w' => ∃ i : Int, e = .returned (.int .i64 i) ∧ decide (0 ≤ i) = !allz l ∧ w' = w := by
  obtain ⟨a, cap, b, off, rfl, hl, hm, hbb, ha, hs⟩ := h
  unfold maxLen at hm
  go_enter Tryz.func118, Tryz.ntmps118
  go_wp2
  go_loop [8] (fun i => ∃ k : Nat, k ≤ l.length ∧ i = .int .i64 k ∧ allz (l.take k) = true) (fun i => l.length - (intOf i).toNat)
  case atStart => exact ⟨0, Nat.zero_le _, rfl, rfl⟩
  case round =>
    obtain ⟨k, hk, rfl, hz⟩ := hrel
    by_cases hlt : k < l.length
    · have hltI : (k : Int) < (l.length : Int) := by omega
      rcases ha with rfl | hnil
      case inr => rw [hnil] at hlt; simp at hlt
      have hc := hs k hlt
      have HZ := allz_take hlt hz
      have HNo := allz_no hlt
      by_cases h0 : l.getD k 0 = 0
      · have HT : Hid (allz (l.take (k + 1)) = true) := by show _ = _; rw [HZ, h0]; rfl
        rw [h0] at hc
        clear HZ HNo hz h0
        go_wp2_with (go_at_call 100; refine (test_any _ _).mono ?_; rintro e w' ⟨rfl, rfl⟩)
        go_round
        case rel => exact ⟨k + 1, by omega, by go_num, HT.out⟩
        case measure => simp [intOf]; omega
      · have HT : Hid (allz l = false) := HNo h0
        have h0' : (l.getD k 0 != 0) = true := by simpa using h0
        clear HZ HNo hz h0
        generalize l.getD k 0 = c at *
        go_wp2_with (go_at_call 100; refine (test_any _ _).mono ?_; rintro e w' ⟨rfl, rfl⟩)
        go_ret
        exact ⟨k, rfl, by rw [HT.out]; simp, rfl⟩
    · have hke : k = l.length := by omega
      subst hke
      rw [List.take_length] at hz
      have HT : Hid (allz l = true) := hz
      clear hz
      go_wp2
      go_ret
      exact ⟨-1, rfl, by rw [HT.out]; rfl, rfl⟩

set_option maxHeartbeats 400000 in
theorem containsf_any (w : World) (v : Value) (l : List Int) (h : Bts w v l) :
    Calls Tryz.prog 99 #[v, .func (.func 100) #[] #[]] w fun e w' => e = .returned (.bool (!allz l)) ∧ w' = w := by
  have HI := indexf_any w v l h
  go_enter Tryz.func99, Tryz.ntmps99
  go_wp2_with (go_at_call 118; refine HI.mono ?_; rintro e w' ⟨i, rfl, hi, rfl⟩; have HH : Hid (decide (0 ≤ i) = !allz l) := hi; clear hi)
  go_ret
  exact ⟨ret_bool HH.out, rfl⟩

set_option maxHeartbeats 400000 in
theorem blank_any (w : World) (v : Value) (l : List Int) (h : Bts w v l) :
    Calls Tryz.prog 70 #[v] w fun e w' => e = .returned (.bool (allz l)) ∧ w' = w := by
  have HI := containsf_any w v l h
  generalize hz : allz l = z at *
  go_enter Tryz.func70, Tryz.ntmps70
  go_wp2_with (go_at_call 99; refine HI.mono ?_; rintro e w' ⟨rfl, rfl⟩)
  go_ret
  exact ⟨ret_bool (by simp), rfl⟩

end Go.Proofs.YtafkkehcacdodaaGreat
