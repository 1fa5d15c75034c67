/- Plain mathematics: the header as the document lays it; flags one by one. -/
import Derived.Test.YtdejjokgchbgnaaIpBits
set_option maxRecDepth 100000
namespace Go.Proofs.Ytdejjokgchbgnaa
open Go.RowKit

theorem or_i64_nat (a b : Nat) (ha : a < 2 ^ 62) (hb : b < 2 ^ 62) : bits .or .i64 (a : Int) (b : Int) = ((a ||| b : Nat) : Int) := by
  have hx : a ||| b < 2 ^ 62 := Nat.or_lt_two_pow ha hb
  have h1 : (BitVec.ofInt 64 (a : Int)).toNat = a := by
    rw [BitVec.ofInt_natCast, BitVec.toNat_ofNat]; exact Nat.mod_eq_of_lt (by omega)
  have h2 : (BitVec.ofInt 64 (b : Int)).toNat = b := by
    rw [BitVec.ofInt_natCast, BitVec.toNat_ofNat]; exact Nat.mod_eq_of_lt (by omega)
  show IntKind.i64.wrap ((BitVec.ofInt 64 (a : Int) ||| BitVec.ofInt 64 (b : Int)).toNat : Int) = _
  rw [BitVec.toNat_or, h1, h2, i64_id _ (by omega) (by omega)]

theorem or_a (o : Nat) (h : o < 2 ^ 13) : o ||| 16384 = o + 16384 := by
  have := Nat.two_pow_add_eq_or_of_lt h 2
  rw [show (2 : Nat) ^ 13 * 2 = 16384 by decide] at this
  rw [Nat.or_comm]; omega

theorem or_b (o : Nat) (h : o < 2 ^ 13) : o ||| 8192 = o + 8192 := by
  have := Nat.two_pow_add_eq_or_of_lt h 1
  rw [show (2 : Nat) ^ 13 * 1 = 8192 by decide] at this
  rw [Nat.or_comm]; omega

theorem or_c (o : Nat) (h : o < 2 ^ 13) : (o + 16384) ||| 8192 = o + 24576 := by
  have h3 := Nat.two_pow_add_eq_or_of_lt h 3
  rw [← or_a o h, Nat.or_assoc, show (16384 : Nat) ||| 8192 = 2 ^ 13 * 3 by decide, Nat.or_comm]
  omega

theorem orA (x : Int) (h0 : 0 ≤ x) (h1 : x ≤ 8191) : bits .or .i64 x 16384 = x + 16384 := by
  obtain ⟨o, rfl⟩ := Int.eq_ofNat_of_zero_le h0
  have := or_i64_nat o 16384 (by omega) (by omega)
  rw [or_a o (by omega)] at this
  simpa using this

theorem orB (x : Int) (h0 : 0 ≤ x) (h1 : x ≤ 8191) : bits .or .i64 x 8192 = x + 8192 := by
  obtain ⟨o, rfl⟩ := Int.eq_ofNat_of_zero_le h0
  have := or_i64_nat o 8192 (by omega) (by omega)
  rw [or_b o (by omega)] at this
  simpa using this

theorem orC (x : Int) (h0 : 0 ≤ x) (h1 : x ≤ 8191) : bits .or .i64 (x + 16384) 8192 = x + 24576 := by
  obtain ⟨o, rfl⟩ := Int.eq_ofNat_of_zero_le h0
  have := or_i64_nat (o + 16384) 8192 (by omega) (by omega)
  rw [or_c o (by omega)] at this
  simpa using this

/-- The header as the document lays it, the check not yet there. -/
def rhead (p : Dg) : List Int :=
  [64 + (20 + (p.opts.length : Int)) / 4, p.tos, totalI p / 256 % 256, totalI p % 256, p.id / 256 % 256, p.id % 256, flagsI p / 256 % 256, flagsI p % 256, p.ttl, p.proto, 0, 0,
   p.src / 16777216, p.src / 65536 % 256, p.src / 256 % 256, p.src % 256, p.dst / 16777216, p.dst / 65536 % 256, p.dst / 256 % 256, p.dst % 256]

theorem rhead_eq (p : Dg) (k : p.Ok) (f : Fits p) : rhead p ++ p.opts = headB p 0 := by
  obtain ⟨⟨a1, a2⟩, ⟨b1, b2⟩, ⟨c1, c2⟩, ⟨d1, d2⟩, ⟨e1, e2⟩, o40, o4, _⟩ := f
  have k1 := k.src0
  have k2 := k.src1
  have k3 := k.dst0
  have k4 := k.dst1
  have z0 : (64 + (20 + (p.opts.length : Int)) / 4) % 256 = 64 + (20 + (p.opts.length : Int)) / 4 := by omega
  have z1 : p.tos % 256 = p.tos := by omega
  have z2 : p.ttl % 256 = p.ttl := by omega
  have z3 : p.proto % 256 = p.proto := by omega
  have z4 : p.src / 256 / 256 / 256 % 256 = p.src / 16777216 := by omega
  have z5 : p.src / 256 / 256 % 256 = p.src / 65536 % 256 := by omega
  have z6 : p.dst / 256 / 256 / 256 % 256 = p.dst / 16777216 := by omega
  have z7 : p.dst / 256 / 256 % 256 = p.dst / 65536 % 256 := by omega
  unfold headB
  rw [z0, z1, z2, z3, z4, z5, z6, z7]
  rfl

theorem rcheck (p : Dg) : ((headB p 0).set 10 (checkI p / 256)).set 11 (checkI p % 256) = headB p (checkI p) := by
  have := check_bd p
  have z : checkI p / 256 % 256 = checkI p / 256 := by omega
  show _ = _ :: _ :: _ :: _ :: _ :: _ :: _ :: _ :: _ :: _ :: checkI p / 256 % 256 :: _
  rw [z]
  rfl
end Go.Proofs.Ytdejjokgchbgnaa
