/- The contracts of the functions that only reckon: fold, turned, Plus, Update, in octet and in the document's own answer. -/
import Derived.Test.YtdejjokgchbgnaaRows
import Derived.Test.YtdejjokgchbgnaaMath
import Derived.WalkKit
import Derived.WalkSpells
import Derived.WalkLawsBesides
namespace Go.Proofs.Ytdejjokgchbgnaa
open Go.RowKit

theorem ret_int {k : IntKind} {a b : Int} (h : a = b) : Ending.returned (.int k a) = .returned (.int k b) := by rw [h]

theorem u64_and16 (x : Int) : bits .and .u64 x 65535 = x % 65536 := by
  have h1 : (BitVec.ofInt 64 65535).toNat = 2 ^ 16 - 1 := by decide
  have key : (BitVec.ofInt 64 x &&& BitVec.ofInt 64 65535).toNat = (x % ((2 ^ 64 : Nat) : Int)).toNat % 2 ^ 16 := by
    rw [BitVec.toNat_and, BitVec.toNat_ofInt, h1, Nat.and_two_pow_sub_one_eq_mod]
  show IntKind.u64.wrap ((BitVec.ofInt 64 x &&& BitVec.ofInt 64 65535).toNat : Nat) = _
  rw [key, IntKind.wrap_u64]
  omega
theorem i64_and16 (x : Int) : bits .and .i64 x 65535 = x % 65536 := by
  have h1 : (BitVec.ofInt 64 65535).toNat = 2 ^ 16 - 1 := by decide
  have key : (BitVec.ofInt 64 x &&& BitVec.ofInt 64 65535).toNat = (x % ((2 ^ 64 : Nat) : Int)).toNat % 2 ^ 16 := by
    rw [BitVec.toNat_and, BitVec.toNat_ofInt, h1, Nat.and_two_pow_sub_one_eq_mod]
  show IntKind.i64.wrap ((BitVec.ofInt 64 x &&& BitVec.ofInt 64 65535).toNat : Nat) = _
  rw [key, IntKind.wrap_i64]
  omega
attribute [local go_sem] u64_and16 i64_and16

theorem u64_id (x : Int) (h0 : 0 ≤ x) (h1 : x < 18446744073709551616) : IntKind.u64.wrap x = x := by rw [IntKind.wrap_u64]; omega

set_option maxHeartbeats 400000 in
theorem fold_any (x : Int) (w : World) (h0 : 0 ≤ x) (h1 : x < 18446744073709551616) :
    Calls Try.prog 67 #[.int .u64 x] w fun e w' => e = .returned (.int .i64 (fold16 x)) ∧ w' = w := by
  go_enter Try.func67, Try.ntmps67
  go_wp2
  go_loop [0] (fun t => ∃ y : Int, 0 ≤ y ∧ y < 18446744073709551616 ∧ fold16 y = fold16 x ∧ t = .int .u64 y) (fun t => (intOf t).toNat)
  case atStart => exact ⟨x, h0, h1, rfl, rfl⟩
  case round =>
    obtain ⟨y, hy0, hy1, hy, rfl⟩ := hrel
    have HY : Hid (fold16 y = fold16 x) := hy
    clear hy
    by_cases hlt : 65535 < y
    · have hl := fold16_less y hlt
      go_wp2
      go_round
      case rel => exact ⟨y / 65536 + y % 65536, hl.2, by omega, (fold16_step y hlt).trans HY.out, rfl⟩
      case measure => simp [intOf]; omega
    · go_wp2
      go_ret
      exact ⟨ret_int (by rw [← HY.out, fold16_small y hy0 (by omega)]), rfl⟩

set_option maxHeartbeats 400000 in
theorem rfold_any (x : Int) (w : World) (h0 : 0 ≤ x) (h1 : x < 18446744073709551616) :
    Calls Try.prog 54 #[.int .u64 x] w fun e w' => e = .returned (.int .i64 (fold16 x)) ∧ w' = w := by
  go_enter Try.func54, Try.ntmps54
  go_wp2
  go_loop [0] (fun t => ∃ y : Int, 0 ≤ y ∧ y < 18446744073709551616 ∧ fold16 y = fold16 x ∧ t = .int .u64 y) (fun t => (intOf t).toNat)
  case atStart => exact ⟨x, h0, h1, rfl, rfl⟩
  case round =>
    obtain ⟨y, hy0, hy1, hy, rfl⟩ := hrel
    have HY : Hid (fold16 y = fold16 x) := hy
    clear hy
    by_cases hlt : 65535 < y
    · have hl := fold16_less y hlt
      have hl' : y % 65536 + y / 65536 = y / 65536 + y % 65536 := Int.add_comm _ _
      have HL : Hid (y % 65536 + y / 65536 = y / 65536 + y % 65536) := hl'
      clear hl'
      go_wp2
      go_round
      case rel => exact ⟨y % 65536 + y / 65536, by omega, by omega, by rw [HL.out]; exact (fold16_step y hlt).trans HY.out, rfl⟩
      case measure => simp [intOf]; omega
    · go_wp2
      go_ret
      exact ⟨ret_int (by rw [← HY.out, fold16_small y hy0 (by omega)]), rfl⟩
