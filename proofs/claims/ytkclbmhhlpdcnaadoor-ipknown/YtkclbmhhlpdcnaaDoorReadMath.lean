/- How the document reads an address's text, in plain numbers. -/
import Derived.Test.YtkclbmhhlpdcnaaDoorShowMath
set_option maxRecDepth 100000
namespace Go.Proofs.YtkclbmhhlpdcnaaDoor

/-- The document's loop, byte by byte: what was read, the part under way, how many dots. -/
def rd : List UInt8 → Nat → Nat → Nat → Option (Nat × Nat × Nat)
  | [], A, p, n => some (A, p, n)
  | c :: r, A, p, n =>
    if c.toNat = 46 then rd r (A % 16777216 * 256 + p) 0 (n + 1)
    else if c.toNat < 48 ∨ 57 < c.toNat then none
    else if 255 < p * 10 + (c.toNat - 48) then none else rd r A (p * 10 + (c.toNat - 48)) n

theorem rd_digit (d : Nat) (hd : d < 10) (r : List UInt8) (A p n : Nat) (h : p * 10 + d ≤ 255) : rd (UInt8.ofNat (48 + d) :: r) A p n = rd r A (p * 10 + d) n := by
  have hc : (UInt8.ofNat (48 + d)).toNat = 48 + d := by rw [UInt8.toNat_ofNat']; omega
  have e : 48 + d - 48 = d := by omega
  rw [rd, hc, if_neg (by omega), if_neg (by omega), e, if_neg (by omega)]

theorem rd_dig (b : Nat) (hb : b < 256) (r : List UInt8) (A n : Nat) : rd (dig b ++ r) A 0 n = rd r A b n := by
  unfold dig
  split
  · show rd (UInt8.ofNat (48 + b) :: r) A 0 n = _
    rw [rd_digit b (by omega) r A 0 n (by omega)]; simp
  · split
    · show rd (UInt8.ofNat (48 + b / 10) :: UInt8.ofNat (48 + b % 10) :: r) A 0 n = _
      rw [rd_digit _ (by omega) _ A 0 n (by omega), rd_digit _ (by omega) _ A _ n (by omega)]
      congr 1; omega
    · show rd (UInt8.ofNat (48 + b / 100) :: UInt8.ofNat (48 + b / 10 % 10) :: UInt8.ofNat (48 + b % 10) :: r) A 0 n = _
      rw [rd_digit _ (by omega) _ A 0 n (by omega), rd_digit _ (by omega) _ A _ n (by omega), rd_digit _ (by omega) _ A _ n (by omega)]
      congr 1; omega

theorem rd_dot (r : List UInt8) (A p n : Nat) : rd (46 :: r) A p n = rd r (A % 16777216 * 256 + p) 0 (n + 1) := by
  rw [rd, if_pos (by decide)]

theorem rd_show (a : Nat) (ha : a < 4294967296) : rd (showL a) 0 0 0 = some (a / 256, a % 256, 3) := by
  have e : showL a = dig (a / 16777216) ++ 46 :: (dig (a / 65536 % 256) ++ 46 :: (dig (a / 256 % 256) ++ 46 :: (dig (a % 256) ++ []))) := by unfold showL; simp
  rw [e, rd_dig _ (by omega), rd_dot, rd_dig _ (by omega), rd_dot, rd_dig _ (by omega), rd_dot, rd_dig _ (by omega), rd]
  congr 2
  omega

theorem str_eq {x y : ByteArray} (h : x.data.toList = y.data.toList) : x = y := by
  cases x; cases y; simp at h; simpa using h

/-- Is it the text of an address? -/
def IsShow (s : ByteArray) : Prop := ∃ a, a < 4294967296 ∧ s = str (showL a)

theorem not_none {s : ByteArray} (h : rd s.data.toList 0 0 0 = none) : ¬ IsShow s := by
  rintro ⟨a, ha, rfl⟩
  rw [str_data, rd_show a ha] at h
  cases h

theorem not_long {s : ByteArray} (h : 15 < s.size) : ¬ IsShow s := by
  rintro ⟨a, ha, rfl⟩
  have := showL_len a ha
  simp [str, ByteArray.size] at h
  omega

theorem not_other {s : ByteArray} {A p n : Nat} (h : rd s.data.toList 0 0 0 = some (A, p, n)) (hne : ¬ (n = 3 ∧ str (showL (A % 16777216 * 256 + p)) = s)) : ¬ IsShow s := by
  rintro ⟨a, ha, rfl⟩
  rw [str_data, rd_show a ha] at h
  simp only [Option.some.injEq, Prod.mk.injEq] at h
  obtain ⟨rfl, rfl, rfl⟩ := h
  apply hne
  refine ⟨rfl, ?_⟩
  have : a / 256 % 16777216 * 256 + a % 256 = a := by omega
  rw [this]
end Go.Proofs.YtkclbmhhlpdcnaaDoor
