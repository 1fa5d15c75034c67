/- Plain mathematics: addresses as texts. -/
import Derived.Test.YtkclbmhhlpdcnaaDoorShelf
import Derived.Test.YtkclbmhhlpdcnaaDoorIpBits
set_option maxRecDepth 100000
namespace Go.Proofs.YtkclbmhhlpdcnaaDoor
open Go.RowKit

/-- The decimal digits of a number below 1000. -/
def dig (b : Nat) : List UInt8 :=
  if b < 10 then [UInt8.ofNat (48 + b)] else if b < 100 then [UInt8.ofNat (48 + b / 10), UInt8.ofNat (48 + b % 10)] else [UInt8.ofNat (48 + b / 100), UInt8.ofNat (48 + b / 10 % 10), UInt8.ofNat (48 + b % 10)]

theorem dec_dig (b : Nat) (h : b < 1000) : Lib.decDigits b = dig b := by
  unfold dig
  split
  · rename_i h1; exact Lib.decDigits_one h1
  · rename_i h1
    split
    · rename_i h2; exact Lib.decDigits_two h1 h2
    · rename_i h2
      rw [Lib.decDigits, dif_neg h1, Lib.decDigits_two (by omega) (by omega)]
      have e : b / 10 / 10 = b / 100 := by omega
      simp [e]

theorem dig_plain : ∀ b : Fin 256, (46 : UInt8) ∉ dig b.val ∧ 1 ≤ (dig b.val).length ∧ (dig b.val).length ≤ 3 := by decide +kernel

/-- The text of an address. -/
def showL (a : Nat) : List UInt8 := dig (a / 16777216) ++ 46 :: (dig (a / 65536 % 256) ++ 46 :: (dig (a / 256 % 256) ++ 46 :: dig (a % 256)))

theorem index_dot (d r : List UInt8) (h : (46 : UInt8) ∉ d) : Lib.index (d ++ 46 :: r) [46] = d.length := by
  induction d with
  | nil => simp [Lib.index, List.isPrefixOf]
  | cons c d ih =>
    have hc : ¬ (46 : UInt8) = c := fun e => h (by simp [e])
    have ih := ih (fun e => h (by simp [e]))
    show (if [46].isPrefixOf (c :: (d ++ 46 :: r)) then (0 : Int) else if Lib.index (d ++ 46 :: r) [46] == -1 then -1 else Lib.index (d ++ 46 :: r) [46] + 1) = _
    have hp : [46].isPrefixOf (c :: (d ++ 46 :: r)) = false := by simp [List.isPrefixOf]; exact hc
    rw [hp, ih]
    have : ¬ ((d.length : Int) == -1) = true := by simp
    simp only [Bool.false_eq_true, if_false, if_neg this, List.length_cons]
    omega

theorem index_none (d : List UInt8) (h : (46 : UInt8) ∉ d) : Lib.index d [46] = -1 := by
  induction d with
  | nil => simp [Lib.index]
  | cons c d ih =>
    have hc : ¬ (46 : UInt8) = c := fun e => h (by simp [e])
    have ih := ih (fun e => h (by simp [e]))
    show (if [46].isPrefixOf (c :: d) then (0 : Int) else if Lib.index d [46] == -1 then -1 else Lib.index d [46] + 1) = _
    have hp : [46].isPrefixOf (c :: d) = false := by simp [List.isPrefixOf]; exact hc
    rw [hp, ih]
    simp

theorem split_dot (d r : List UInt8) (k : Nat) (h : (46 : UInt8) ∉ d) : Lib.splitK [46] 0 (k + 1) (d ++ 46 :: r) = d :: Lib.splitK [46] 0 k r := by
  show (if Lib.index (d ++ 46 :: r) [46] == -1 then _ else _) = _
  rw [index_dot d r h]
  have : ¬ ((d.length : Int) == -1) = true := by simp
  rw [if_neg this]
  have e : ((d.length : Int)).toNat = d.length := by omega
  rw [e, Nat.add_zero, List.take_left]
  congr 1
  show Lib.splitK [46] 0 k ((d ++ 46 :: r).drop (d.length + 1)) = _
  rw [← List.drop_drop, List.drop_left]
  rfl

theorem count_dot (d r : List UInt8) (n : Nat) (h : (46 : UInt8) ∉ d) : Lib.countFrom [46] (n + 1) (d ++ 46 :: r) = 1 + Lib.countFrom [46] n r := by
  show (if Lib.index (d ++ 46 :: r) [46] == -1 then 0 else 1 + Lib.countFrom [46] n ((d ++ 46 :: r).drop ((Lib.index (d ++ 46 :: r) [46]).toNat + 1))) = _
  rw [index_dot d r h]
  have : ¬ ((d.length : Int) == -1) = true := by simp
  rw [if_neg this]
  have e : ((d.length : Int)).toNat = d.length := by omega
  rw [e, ← List.drop_drop, List.drop_left]
  rfl

theorem count_none (d : List UInt8) (n : Nat) (h : (46 : UInt8) ∉ d) : Lib.countFrom [46] n d = 0 := by
  cases n with
  | zero => rfl
  | succ n =>
    show (if Lib.index d [46] == -1 then 0 else _) = _
    rw [index_none d h]
    rfl

theorem plain_of (b : Nat) (h : b < 256) : (46 : UInt8) ∉ dig b := (dig_plain ⟨b, h⟩).1
theorem len_of (b : Nat) (h : b < 256) : 1 ≤ (dig b).length ∧ (dig b).length ≤ 3 := (dig_plain ⟨b, h⟩).2

theorem parse_all : ∀ b : Fin 256, Lib.parseUintB 8 (dig b.val) = .ok b.val := by decide +kernel
theorem parse_dig (b : Nat) (h : b < 256) : Lib.parseUintB 8 (dig b) = .ok b := parse_all ⟨b, h⟩

theorem showL_len (a : Nat) (h : a < 4294967296) : 7 ≤ (showL a).length ∧ (showL a).length ≤ 15 := by
  have h3 := len_of (a / 16777216) (by omega)
  have h2 := len_of (a / 65536 % 256) (by omega)
  have h1 := len_of (a / 256 % 256) (by omega)
  have h0 := len_of (a % 256) (by omega)
  unfold showL
  simp only [List.length_append, List.length_cons]
  omega

theorem count_show (a : Nat) (h : a < 4294967296) : Lib.count (showL a) [46] = 3 := by
  have hl := showL_len a h
  obtain ⟨n, hn⟩ : ∃ n, (showL a).length + 1 = n + 1 + 1 + 1 + 1 := ⟨(showL a).length - 3, by omega⟩
  unfold Lib.count
  rw [hn]
  unfold showL
  rw [count_dot _ _ _ (plain_of _ (by omega)), count_dot _ _ _ (plain_of _ (by omega)), count_dot _ _ _ (plain_of _ (by omega)), count_none _ _ (plain_of _ (by omega))]

theorem split_show (a : Nat) (h : a < 4294967296) : Lib.splitK [46] 0 3 (showL a) = [dig (a / 16777216), dig (a / 65536 % 256), dig (a / 256 % 256), dig (a % 256)] := by
  unfold showL
  rw [split_dot _ _ 2 (plain_of _ (by omega)), split_dot _ _ 1 (plain_of _ (by omega)), split_dot _ _ 0 (plain_of _ (by omega))]
  rfl

def str (l : List UInt8) : ByteArray := ⟨l.toArray⟩

theorem str_data (l : List UInt8) : (str l).data.toList = l := by simp [str]

theorem join_show (a : Nat) : Lib.join [dig (a / 16777216), dig (a / 65536 % 256), dig (a / 256 % 256), dig (a % 256)] [46] = showL a := by
  simp [Lib.join, List.intercalate, showL]

theorem itoa_dig (b : Nat) (h : b < 256) : Lib.itoa (b : Int) = dig b := by rw [Lib.itoa_nonneg, dec_dig b (by omega)]
end Go.Proofs.YtkclbmhhlpdcnaaDoor
