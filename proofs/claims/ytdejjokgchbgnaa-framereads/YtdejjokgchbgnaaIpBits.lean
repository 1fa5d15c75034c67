/- Plain mathematics: the bits of small numbers. -/
import Derived.Test.YtdejjokgchbgnaaIpMath
set_option maxRecDepth 100000
namespace Go.Proofs.Ytdejjokgchbgnaa
open Go.RowKit

theorem or64 (x : Int) (h0 : 0 ≤ x) (h1 : x < 64) : bits .or .i64 64 x = 64 + x := or_i64 6 64 x (by decide) (by decide) (by decide) h0 (by omega) (by omega)

theorem orF1 (a b : Bool) : bits .or .i64 (flagI a 16384) (flagI b 8192) = flagI a 16384 + flagI b 8192 := by
  cases a <;> cases b <;> decide

theorem orF2 (a b : Bool) (x : Int) (h0 : 0 ≤ x) (h1 : x < 8192) : bits .or .i64 (flagI a 16384 + flagI b 8192) x = (flagI a 16384 + flagI b 8192) + x :=
  or_i64 13 _ x (by cases a <;> cases b <;> decide) (by cases a <;> cases b <;> decide) (by cases a <;> cases b <;> decide) h0 (by omega) (by omega)

theorem and_two (a i : Nat) : a &&& 2 ^ i = a / 2 ^ i % 2 * 2 ^ i := by
  have h : a.testBit i = decide (a / 2 ^ i % 2 = 1) := Nat.testBit_eq_decide_div_mod_eq
  apply Nat.eq_of_testBit_eq
  intro j
  rw [Nat.testBit_and, Nat.testBit_two_pow]
  by_cases hb : a / 2 ^ i % 2 = 1
  · rw [hb, Nat.one_mul, Nat.testBit_two_pow]
    by_cases hj : i = j
    · subst hj; simp [h, hb]
    · simp [hj]
  · have h0 : a / 2 ^ i % 2 = 0 := by omega
    rw [h0, Nat.zero_mul]
    by_cases hj : i = j
    · subst hj; simp [h, h0]
    · simp [hj]

theorem bit_i64 (i : Nat) (hi : i < 62) (x : Int) (h0 : 0 ≤ x) (h1 : x < 2 ^ 62) : bits .and .i64 x (2 ^ i) = x / 2 ^ i % 2 * 2 ^ i := by
  obtain ⟨a, rfl⟩ := Int.eq_ofNat_of_zero_le h0
  have ha : a < 2 ^ 62 := by exact_mod_cast h1
  have hp : 2 ^ i < 2 ^ 62 := Nat.pow_lt_pow_right (by decide) hi
  have e1 : (BitVec.ofInt 64 (a : Int)).toNat = a := by
    rw [BitVec.ofInt_natCast, BitVec.toNat_ofNat]; exact Nat.mod_eq_of_lt (by omega)
  have e2 : (BitVec.ofInt 64 ((2 : Int) ^ i)).toNat = 2 ^ i := by
    rw [show ((2 : Int) ^ i) = ((2 ^ i : Nat) : Int) by simp, BitVec.ofInt_natCast, BitVec.toNat_ofNat]; exact Nat.mod_eq_of_lt (by omega)
  show IntKind.i64.wrap ((BitVec.ofInt 64 (a : Int) &&& BitVec.ofInt 64 ((2 : Int) ^ i)).toNat : Int) = _
  rw [BitVec.toNat_and, e1, e2, and_two]
  have hle : a / 2 ^ i % 2 * 2 ^ i < 2 ^ 62 := by
    have : a / 2 ^ i % 2 < 2 := Nat.mod_lt _ (by decide)
    rcases (show a / 2 ^ i % 2 = 0 ∨ a / 2 ^ i % 2 = 1 by omega) with h | h <;> rw [h] <;> omega
  rw [i64_id _ (by omega) (by omega)]
  simp

theorem bit15 (x : Int) (h0 : 0 ≤ x) (h1 : x < 65536) : (bits .and .i64 x 32768 != 0) = decide (32768 ≤ x) := by
  rw [show (32768 : Int) = 2 ^ 15 by decide, bit_i64 15 (by decide) x h0 (by omega)]
  by_cases h : 32768 ≤ x
  · have e : x / 2 ^ 15 % 2 * 2 ^ 15 ≠ 0 := by omega
    have e' : (x / 2 ^ 15 % 2 * 2 ^ 15 != 0) = true := by rw [bne_iff_ne]; exact e
    rw [e']; symm; simpa using h
  · have e : x / 2 ^ 15 % 2 * 2 ^ 15 = 0 := by omega
    rw [e]; symm; simpa using h

theorem bit14 (x : Int) (h0 : 0 ≤ x) (h1 : x < 65536) : (bits .and .i64 x 16384 != 0) = bit x 16384 := by
  rw [show (bits .and .i64 x 16384) = x / 2 ^ 14 % 2 * 2 ^ 14 from bit_i64 14 (by decide) x h0 (by omega)]
  unfold bit
  by_cases h : x / 16384 % 2 = 1
  · have e' : (x / 2 ^ 14 % 2 * 2 ^ 14 != 0) = true := by rw [bne_iff_ne]; omega
    rw [e']; symm; simpa using h
  · have e : x / 2 ^ 14 % 2 * 2 ^ 14 = 0 := by omega
    rw [e]; symm; simpa using h

theorem bit13 (x : Int) (h0 : 0 ≤ x) (h1 : x < 65536) : (bits .and .i64 x 8192 != 0) = bit x 8192 := by
  rw [show (bits .and .i64 x 8192) = x / 2 ^ 13 % 2 * 2 ^ 13 from bit_i64 13 (by decide) x h0 (by omega)]
  unfold bit
  by_cases h : x / 8192 % 2 = 1
  · have e' : (x / 2 ^ 13 % 2 * 2 ^ 13 != 0) = true := by rw [bne_iff_ne]; omega
    rw [e']; symm; simpa using h
  · have e : x / 2 ^ 13 % 2 * 2 ^ 13 = 0 := by omega
    rw [e]; symm; simpa using h

theorem mask13 (x : Int) (h0 : 0 ≤ x) (h1 : x < 65536) : bits .and .i64 x 8191 = x % 8192 := mask_i64 13 (by decide) x h0 (by omega)
theorem mask4 (x : Int) (h0 : 0 ≤ x) (h1 : x < 65536) : bits .and .i64 x 15 = x % 16 := mask_i64 4 (by decide) x h0 (by omega)
theorem mask4b (x : Int) (h0 : 0 ≤ x) (h1 : x < 256) : bits .and .u8 x 15 = x % 16 := mask_u8 4 (by decide) x h0 (by omega)
end Go.Proofs.Ytdejjokgchbgnaa
