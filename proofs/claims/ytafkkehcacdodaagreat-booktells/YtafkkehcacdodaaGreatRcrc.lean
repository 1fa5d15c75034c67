/- The contract of Crc in the document's own answer, and that a byte that is changed turns what Crc answers. -/
import Derived.Test.YtafkkehcacdodaaGreatCrc
set_option maxRecDepth 100000
namespace Go.Proofs.YtafkkehcacdodaaGreat
open Go.RowKit

theorem crcV_inj (l m : List Int) (hl : isBytes l) (hm : isBytes m) (h : crcV l = crcV m) : crcL 4294967295 l = crcL 4294967295 m := by
  have h1 := crcL_lt 4294967295 l (by decide) hl
  have h2 := crcL_lt 4294967295 m (by decide) hm
  have e : IntKind.u32.max = ((4294967295 : Nat) : Int) := by decide
  unfold crcV at h
  rw [e, u32_xor_nat' _ _ (by decide) h1, u32_xor_nat' _ _ (by decide) h2] at h
  exact xor_cancel_left _ _ _ (Int.ofNat_inj.1 h)

theorem u32_xorP' (a : Nat) (ha : a < 4294967296) : bits .xor .u32 ((a : Int) / 2) 3988292384 = ((a / 2 ^^^ 3988292384 : Nat) : Int) := u32_xorP a ha

set_option maxHeartbeats 1000000 in
theorem rcrc_any (a : Option Addr) (b off len cap : Nat) (l : List Int) (w : World) (hc : len ≤ cap) (hcm : cap ≤ maxLen) (hL : l.length = len) (hb : isBytes l)
    (ha : a = some ⟨b, off, none⟩ ∨ l = []) (hs : Sees w b off l) :
    Calls Tryz.prog 120 #[.slice a len cap] w fun e w' => e = .returned (.int .u32 (crcV l)) ∧ w' = w := by
  unfold maxLen at hcm
  have HL : Hid (l.length = len) := hL
  clear hL
  go_enter Tryz.func120, Tryz.ntmps120
  go_wp2
  go_loop [3, 4] (fun x i => ∃ k : Nat, k ≤ len ∧ i = .int .i64 k ∧ x = .int .u32 (crcL 4294967295 (l.take k) : Nat)) (fun _ i => len - (intOf i).toNat)
  case atStart => exact ⟨0, Nat.zero_le _, rfl, by simp [crcL]⟩
  case round =>
    obtain ⟨k, hk, rfl, rfl⟩ := hrel
    by_cases hlt : k < len
    · rcases ha with rfl | hnil
      case inr => exact absurd HL.out (by rw [hnil]; simp; omega)
      have hc2 := hs k (by rw [HL.out]; omega)
      have hbyte := getD_byte l hb k
      have hsn := crcL_snoc 4294967295 (l.take k) (l.getD k 0)
      rw [← take_snoc l k (by rw [HL.out]; omega)] at hsn
      have hrl := crcL_lt 4294967295 (l.take k) (by decide) (isBytes_take hb k)
      generalize hZ : l.getD k 0 = z at *
      clear hZ
      obtain ⟨c, rfl⟩ := Int.eq_ofNat_of_zero_le hbyte.1
      rw [Int.toNat_natCast] at hsn
      have HS : Hid (crcL 4294967295 (l.take (k + 1)) = crcByte (crcL 4294967295 (l.take k)) c) := hsn
      clear hsn
      generalize hR : crcL 4294967295 (l.take k) = r at *
      clear hR
      have hx := u32_xor_nat' r c hrl (by omega)
      have hlt2 : r ^^^ c < 4294967296 := Nat.xor_lt_two_pow (n := 32) hrl (by omega)
      have HB : Hid (crcByte r c = crcSteps 8 (r ^^^ c)) := rfl
      generalize hX0 : r ^^^ c = X0 at *
      clear hX0
      go_wp2
      go_loop [3, 5] (fun x i => ∃ j : Nat, j ≤ 8 ∧ i = .int .i64 j ∧ x = .int .u32 (crcSteps j X0 : Nat)) (fun _ i => 8 - (intOf i).toNat)
      case atStart => exact ⟨0, by decide, rfl, rfl⟩
      case round =>
        obtain ⟨j, hj, rfl, rfl⟩ := hrel
        by_cases hk8 : j < 8
        · have hlt' := crcSteps_lt j X0 hlt2
          have HT : Hid (crcSteps (j + 1) X0 = crcStep (crcSteps j X0)) := crcSteps_snoc j X0
          generalize hY : crcSteps j X0 = Y at *
          clear hY
          have hand := u32_and1 Y hlt'
          by_cases hodd : Y % 2 = 1
          · have HE : Hid (crcStep Y = Y / 2 ^^^ 3988292384) := by show crcStep Y = _; unfold crcStep; rw [if_pos hodd]
            rw [hodd] at hand
            have hxp := u32_xorP Y hlt'
            go_wp2
            go_round
            case rel => exact ⟨j + 1, by omega, by go_num, by rw [HT.out, HE.out]⟩
            case measure => simp [intOf]; omega
          · have h0 : Y % 2 = 0 := by omega
            have HE : Hid (crcStep Y = Y / 2) := by show crcStep Y = _; unfold crcStep; rw [if_neg hodd]
            rw [h0] at hand
            go_wp2
            go_round
            case rel => exact ⟨j + 1, by omega, by go_num, by rw [HT.out, HE.out]; simp⟩
            case measure => simp [intOf]; omega
        · have hje : j = 8 := by omega
          subst hje
          go_wp2
          go_round
          case rel => exact ⟨k + 1, by omega, by go_num, by rw [HS.out, HB.out]⟩
          case measure => simp [intOf]; omega
    · have hke : k = len := by omega
      subst hke
      have hte : l.take k = l := by rw [List.take_of_length_le]; rw [HL.out]; exact Nat.le_refl _
      rw [hte]
      clear hte
      go_wp2
      go_ret
      exact ⟨rfl, rfl⟩

end Go.Proofs.YtafkkehcacdodaaGreat
