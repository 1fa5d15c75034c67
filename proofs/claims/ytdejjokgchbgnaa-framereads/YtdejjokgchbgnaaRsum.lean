/- The contract of Sum in the document's own answer. -/
import Derived.Test.YtdejjokgchbgnaaSum
set_option maxRecDepth 100000
namespace Go.Proofs.Ytdejjokgchbgnaa
open Go.RowKit

def evenB (n : Nat) : Bool := decide (n % 2 = 0)

set_option maxHeartbeats 1000000 in
theorem rsum_any (A : Option Addr) (B O cap : Nat) (ls : List (List Int)) (w : World) (hc : ls.length ≤ cap) (hm : cap ≤ maxLen) (hA : A = some ⟨B, O, none⟩ ∨ ls = []) (hp : Pts w B O ls)
    (hbig : ls.flatten.length ≤ 1099511627776) (hbs : isBytes ls.flatten) :
    Calls Try.prog 38 #[.slice A ls.length cap] w fun e w' => e = .returned (.int .i64 (fold16 (ws ls.flatten))) ∧ w' = w := by
  unfold maxLen at hm
  go_enter Try.func38, Try.ntmps38
  go_wp2
  go_loop [3, 4, 5] (fun t s i => ∃ k : Nat, k ≤ ls.length ∧ i = .int .i64 k ∧ t = .int .u64 (ws (ls.take k).flatten) ∧ s = .bool (evenB (ls.take k).flatten.length)) (fun _ _ i => ls.length - (intOf i).toNat)
  case atStart => exact ⟨0, Nat.zero_le _, rfl, by simp [ws, wsAux], by simp [evenB]⟩
  case round =>
    obtain ⟨k, hk, rfl, rfl, rfl⟩ := hrel
    by_cases hlt : k < ls.length
    · obtain ⟨v, hcell, a, c1, b, off, rfl, q1, q2, q3, q4, q5⟩ := hp k hlt
      rcases hA with rfl | hnil
      case inr => rw [hnil] at hlt; simp at hlt
      have hfl := flatten_take_snoc ls k hlt
      have hle := flatten_take_le ls (k + 1)
      have HB : Hid (isBytes (ls.take k).flatten) := fun z hz => by
        apply hbs; rw [← List.take_append_drop k ls, List.flatten_append]; exact List.mem_append_left _ hz
      have HF : Hid ((ls.take (k + 1)).flatten = (ls.take k).flatten ++ ls.getD k []) := hfl
      have hfl2 : (ls.take k).flatten.length + (ls.getD k []).length ≤ 1099511627776 := by
        rw [hfl] at hle; simp only [List.length_append] at hle; omega
      clear hfl hle
      generalize hG : ls.getD k [] = g at *
      clear hG
      generalize hT : (ls.take k).flatten = F at *
      clear hT
      unfold maxLen at q2
      go_wp2
      go_loop [3, 4, 6] (fun t s i => ∃ j : Nat, j ≤ g.length ∧ i = .int .i64 j ∧ t = .int .u64 (ws (F ++ g.take j)) ∧ s = .bool (evenB (F.length + j))) (fun _ _ i => g.length - (intOf i).toNat)
      case atStart => exact ⟨0, Nat.zero_le _, rfl, by simp, by simp⟩
      case round =>
        obtain ⟨j, hj, rfl, rfl, rfl⟩ := hrel
        by_cases hlj : j < g.length
        · rcases q4 with rfl | hnil
          case inr => rw [hnil] at hlj; simp at hlj
          have hc2 := q5 j hlj
          have hbyte := getD_byte g q3 j
          have hwb := ws_bd (F ++ g.take j) (isBytes_append HB.out (isBytes_take q3 j))
          have hln : (F ++ g.take j).length = F.length + j := by simp; omega
          rw [hln] at hwb
          have hsn := ws_snoc (F ++ g.take j) (g.getD j 0)
          rw [List.append_assoc, ← take_snoc g j hlj, hln] at hsn
          have HS : Hid (ws (F ++ g.take (j + 1)) = ws (F ++ g.take j) + (if (F.length + j) % 2 = 0 then g.getD j 0 * 256 else g.getD j 0)) := hsn
          clear hsn hln
          generalize hX : ws (F ++ g.take j) = X at *
          generalize hC : g.getD j 0 = c at *
          clear hX hC
          obtain ⟨hb0, hb1⟩ := hbyte
          obtain ⟨hx0, hx1⟩ := hwb
          by_cases hpar : (F.length + j) % 2 = 0
          · have e1 : evenB (F.length + j) = true := by simp [evenB, hpar]
            have E2 : Hid (evenB (F.length + (j + 1)) = false) := by show evenB _ = false; unfold evenB; simp; omega
            rw [e1]
            rw [if_pos hpar] at HS
            clear e1 hpar
            go_wp2
            go_round
            case rel => exact ⟨j + 1, by omega, by go_num, by rw [HS.out], by rw [E2.out]⟩
            case measure => simp [intOf]; omega
          · have e1 : evenB (F.length + j) = false := by simp [evenB, hpar]
            have E2 : Hid (evenB (F.length + (j + 1)) = true) := by show evenB _ = true; unfold evenB; simp; omega
            rw [e1]
            rw [if_neg hpar] at HS
            clear e1 hpar
            go_wp2
            go_round
            case rel => exact ⟨j + 1, by omega, by go_num, by rw [HS.out], by rw [E2.out]⟩
            case measure => simp [intOf]; omega
        · have hje : j = g.length := by omega
          subst hje
          go_wp2
          go_round
          case rel => exact ⟨k + 1, by omega, by go_num, by rw [HF.out]; simp, by rw [HF.out]; simp⟩
          case measure => simp [intOf]; omega
    · have hke : k = ls.length := by omega
      subst hke
      have hwb := ws_bd ls.flatten hbs
      have e0 : (List.take ls.length ls) = ls := List.take_length
      rw [e0]
      clear e0
      go_wp2_with (go_at_call 54; refine (rfold_any _ _ (by omega) (by omega)).mono ?_; rintro e w' ⟨rfl, rfl⟩)
      go_ret
      exact ⟨rfl, rfl⟩
end Go.Proofs.Ytdejjokgchbgnaa
