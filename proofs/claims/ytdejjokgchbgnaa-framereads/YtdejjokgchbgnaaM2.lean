/- The contracts of the functions that only reckon: fold, turned, Plus, Update, in octet and in the document's own answer. -/
import Derived.Test.YtdejjokgchbgnaaRows
import Derived.Test.YtdejjokgchbgnaaM1
import Derived.WalkKit
import Derived.WalkSpells
import Derived.WalkLawsBesides
import Derived.Defers
import Derived.Recover
import Derived.Laws.Pointers
import Derived.Laws.IdiomStrings
import Derived.RegionTactic
import Derived.ChangeAlike
import Derived.BigRegion
namespace Go.Proofs.Ytdejjokgchbgnaa
open Go.RowKit

theorem ret_int {k : IntKind} {a b : Int} (h : a = b) : Ending.returned (.int k a) = .returned (.int k b) := by rw [h]

theorem u64_and16 (x : Int) : bits .and .u64 x 65535 = x % 65536 := by
  have h1 : (BitVec.ofInt 64 65535).toNat = 2 ^ 16 - 1 := by decide
  have key : (BitVec.ofInt 64 x &&& BitVec.ofInt 64 65535).toNat = (x % ((2 ^ 64 : Nat) : Int)).toNat % 2 ^ 16 := by
    rw [BitVec.toNat_and, BitVec.toNat_ofInt, h1, Nat.and_two_pow_sub_one_eq_mod]
  show IntKind.u64.wrap ((BitVec.ofInt 64 x &&& BitVec.ofInt 64 65535).toNat : Nat) = _
  rw [key, IntKind.wrap_u64]
  omega
theorem i64_and16 (x : Int) : bits .and .i64 x 65535 = x % 65536 := by
  have h1 : (BitVec.ofInt 64 65535).toNat = 2 ^ 16 - 1 := by decide
  have key : (BitVec.ofInt 64 x &&& BitVec.ofInt 64 65535).toNat = (x % ((2 ^ 64 : Nat) : Int)).toNat % 2 ^ 16 := by
    rw [BitVec.toNat_and, BitVec.toNat_ofInt, h1, Nat.and_two_pow_sub_one_eq_mod]
  show IntKind.i64.wrap ((BitVec.ofInt 64 x &&& BitVec.ofInt 64 65535).toNat : Nat) = _
  rw [key, IntKind.wrap_i64]
  omega
attribute [local go_sem] u64_and16 i64_and16

theorem u64_id (x : Int) (h0 : 0 ≤ x) (h1 : x < 18446744073709551616) : IntKind.u64.wrap x = x := by rw [IntKind.wrap_u64]; omega

set_option maxHeartbeats 400000 in
theorem fold_any (x : Int) (w : World) (h0 : 0 ≤ x) (h1 : x < 18446744073709551616) :
    Calls Try.prog 67 #[.int .u64 x] w fun e w' => e = .returned (.int .i64 (fold16 x)) ∧ w' = w := by
  go_enter Try.func67, Try.ntmps67
  go_wp2
  go_loop [0] (fun t => ∃ y : Int, 0 ≤ y ∧ y < 18446744073709551616 ∧ fold16 y = fold16 x ∧ t = .int .u64 y) (fun t => (intOf t).toNat)
  case atStart => exact ⟨x, h0, h1, rfl, rfl⟩
  case round =>
    obtain ⟨y, hy0, hy1, hy, rfl⟩ := hrel
    have HY : Hid (fold16 y = fold16 x) := hy
    clear hy
    by_cases hlt : 65535 < y
    · have hl := fold16_less y hlt
      go_wp2
      go_round
      case rel => exact ⟨y / 65536 + y % 65536, hl.2, by omega, (fold16_step y hlt).trans HY.out, rfl⟩
      case measure => simp [intOf]; omega
    · go_wp2
      go_ret
      exact ⟨ret_int (by rw [← HY.out, fold16_small y hy0 (by omega)]), rfl⟩

set_option maxHeartbeats 400000 in
theorem rfold_any (x : Int) (w : World) (h0 : 0 ≤ x) (h1 : x < 18446744073709551616) :
    Calls Try.prog 54 #[.int .u64 x] w fun e w' => e = .returned (.int .i64 (fold16 x)) ∧ w' = w := by
  go_enter Try.func54, Try.ntmps54
  go_wp2
  go_loop [0] (fun t => ∃ y : Int, 0 ≤ y ∧ y < 18446744073709551616 ∧ fold16 y = fold16 x ∧ t = .int .u64 y) (fun t => (intOf t).toNat)
  case atStart => exact ⟨x, h0, h1, rfl, rfl⟩
  case round =>
    obtain ⟨y, hy0, hy1, hy, rfl⟩ := hrel
    have HY : Hid (fold16 y = fold16 x) := hy
    clear hy
    by_cases hlt : 65535 < y
    · have hl := fold16_less y hlt
      have hl' : y % 65536 + y / 65536 = y / 65536 + y % 65536 := Int.add_comm _ _
      have HL : Hid (y % 65536 + y / 65536 = y / 65536 + y % 65536) := hl'
      clear hl'
      go_wp2
      go_round
      case rel => exact ⟨y % 65536 + y / 65536, by omega, by omega, by rw [HL.out]; exact (fold16_step y hlt).trans HY.out, rfl⟩
      case measure => simp [intOf]; omega
    · go_wp2
      go_ret
      exact ⟨ret_int (by rw [← HY.out, fold16_small y hy0 (by omega)]), rfl⟩

end Go.Proofs.Ytdejjokgchbgnaa

namespace Go.Proofs.Ytdejjokgchbgnaa
open Go.RowKit

def holdsB (len : Nat) (at_ n : Int) : Bool := decide (1 ≤ n ∧ n ≤ 8 ∧ 0 ≤ at_ ∧ at_ ≤ len - n)

theorem ret_bool {a b : Bool} (h : a = b) : Ending.returned (.bool a) = .returned (.bool b) := by rw [h]

set_option maxHeartbeats 400000 in
theorem holds_any (a : Option Addr) (len cap : Nat) (p n : Int) (w : World) (hl : len ≤ maxLen) :
    Calls Try.prog 66 #[.slice a len cap, .int .i64 p, .int .i64 n] w fun e w' => e = .returned (.bool (holdsB len p n)) ∧ w' = w := by
  unfold maxLen at hl
  by_cases h1 : 1 ≤ n
  · by_cases h2 : n ≤ 8
    · by_cases h3 : 0 ≤ p
      · go_enter Try.func66, Try.ntmps66
        go_wp2
        go_ret
        exact ⟨ret_bool (by unfold holdsB; simp [h1, h2, h3]), rfl⟩
      · go_enter Try.func66, Try.ntmps66
        go_wp2
        go_ret
        exact ⟨ret_bool (by unfold holdsB; simp; omega), rfl⟩
    · go_enter Try.func66, Try.ntmps66
      go_wp2
      go_ret
      exact ⟨ret_bool (by unfold holdsB; simp; omega), rfl⟩
  · go_enter Try.func66, Try.ntmps66
    go_wp2
    go_ret
    exact ⟨ret_bool (by unfold holdsB; simp; omega), rfl⟩

/-- The number of bytes, the highest first. -/
def num (l : List Int) : Int := l.foldl (fun x c => x * 256 + c) 0

theorem num_snoc (l : List Int) (c : Int) : num (l ++ [c]) = num l * 256 + c := by unfold num; simp

theorem num_bd (l : List Int) (h : isBytes l) : 0 ≤ num l ∧ num l < 256 ^ l.length := by
  suffices H : ∀ (l : List Int) (x : Int) (m : Nat), isBytes l → 0 ≤ x → x < 256 ^ m → 0 ≤ l.foldl (fun x c => x * 256 + c) x ∧ l.foldl (fun x c => x * 256 + c) x < 256 ^ (m + l.length) by
    have := H l 0 0 h (by omega) (by simp)
    simpa [num] using this
  intro l
  induction l with
  | nil => intro x m _ h0 h1; simpa using ⟨h0, h1⟩
  | cons c l ih =>
    intro x m hb h0 h1
    have hc := hb c (by simp)
    have := ih (x * 256 + c) (m + 1) (fun z hz => hb z (by simp [hz])) (by omega) (by rw [Int.pow_succ]; omega)
    simpa [Nat.add_comm, Nat.add_left_comm, Nat.add_assoc] using this

/-- The bytes that a slice shows: it leads to a row of cells. -/
def Sees (w : World) (b off : Nat) (l : List Int) : Prop := ∀ i, i < l.length → w.cell? ⟨b, off + i, none⟩ = some (.int .u8 (l.getD i 0))

set_option maxHeartbeats 400000 in
theorem get_no (a : Option Addr) (len cap : Nat) (p n : Int) (w : World) (hl : len ≤ maxLen) (h : holdsB len p n = false) :
    Calls Try.prog 52 #[.slice a len cap, .int .i64 p, .int .i64 n] w fun e w' => e = .returned (.tuple #[.int .u64 0, .bool false]) ∧ w' = w := by
  go_enter Try.func52, Try.ntmps52
  go_wp2_with (go_at_call 66; refine (holds_any _ _ _ _ _ _ hl).mono ?_; rintro e w' ⟨rfl, rfl⟩)
  go_ret2
  exact ⟨rfl, rfl⟩

theorem or_low (x c : Int) (h0 : 0 ≤ x) (h1 : x < 72057594037927936) (h2 : 0 ≤ c) (h3 : c < 256) : bits .or .u64 (x * 256) c = x * 256 + c :=
  bits_join .u64 64 (by decide) (fun n a b => u64_id n a b) 8 (x * 256) c (by omega) (by omega) (by omega) h2 (by omega) (by omega)

theorem take_next (l : List Int) (p k : Nat) (h : p + k < l.length) : (l.drop p).take (k + 1) = (l.drop p).take k ++ [l.getD (p + k) 0] := by
  rw [List.take_succ_eq_append_getElem (by simp; omega)]
  simp [List.getElem_drop, List.getElem?_eq_getElem h]

theorem isBytes_part (l : List Int) (hb : isBytes l) (p n : Nat) : isBytes ((l.drop p).take n) :=
  fun z hz => hb z (List.mem_of_mem_drop (List.mem_of_mem_take hz))

theorem num_small (l : List Int) (hb : isBytes l) (p k : Nat) (hk : k ≤ 7) : 0 ≤ num ((l.drop p).take k) ∧ num ((l.drop p).take k) < 72057594037927936 := by
  have h := num_bd _ (isBytes_part l hb p k)
  have hle : ((l.drop p).take k).length ≤ 7 := by simp; omega
  have : (256 : Int) ^ ((l.drop p).take k).length ≤ 256 ^ 7 := by
    have h := Int.ofNat_le.2 (Nat.pow_le_pow_right (n := 256) (by decide) hle)
    rw [Int.natCast_pow, Int.natCast_pow] at h
    exact h
  exact ⟨h.1, by have e : (256 : Int) ^ 7 = 72057594037927936 := by decide
                 omega⟩

set_option maxHeartbeats 400000 in
theorem get_yes (b off len cap : Nat) (l : List Int) (p n : Nat) (w : World) (hl : len ≤ maxLen) (hc : len ≤ cap) (hcm : cap ≤ maxLen) (hL : l.length = len) (hb : isBytes l)
    (hs : Sees w b off l) (h1 : 1 ≤ n) (h2 : n ≤ 8) (h3 : p + n ≤ len) :
    Calls Try.prog 52 #[.slice (some ⟨b, off, none⟩) len cap, .int .i64 p, .int .i64 n] w fun e w' => e = .returned (.tuple #[.int .u64 (num ((l.drop p).take n)), .bool true]) ∧ w' = w := by
  have hh : holdsB len p n = true := by unfold holdsB; simp; omega
  unfold maxLen at hl hcm
  have HL : Hid (l.length = len) := hL
  clear hL
  go_enter Try.func52, Try.ntmps52
  go_wp2_with (go_at_call 66; refine (holds_any _ _ _ _ _ _ (by unfold maxLen; exact hl)).mono ?_; rintro e w' ⟨rfl, rfl⟩)
  go_loop [8, 23] (fun x i => ∃ k : Nat, k ≤ n ∧ i = .int .i64 k ∧ x = .int .u64 (num ((l.drop p).take k))) (fun _ i => n - (intOf i).toNat)
  case atStart => exact ⟨0, Nat.zero_le _, rfl, by simp [num]⟩
  case round =>
    obtain ⟨k, hk, rfl, rfl⟩ := hrel
    by_cases hlt : k < n
    · have hcell := hs (p + k) (by rw [HL.out]; omega)
      have hbyte := getD_byte l hb (p + k)
      have hnb := num_small l hb p k (by omega)
      have hnext := num_snoc ((l.drop p).take k) (l.getD (p + k) 0)
      rw [← take_next l p k (by rw [HL.out]; omega)] at hnext
      have HN : Hid (num ((l.drop p).take (k + 1)) = num ((l.drop p).take k) * 256 + l.getD (p + k) 0) := hnext
      clear hnext
      generalize hX : num ((l.drop p).take k) = X at *
      generalize hC : l.getD (p + k) 0 = c at *
      clear hX hC
      rw [← Nat.add_assoc] at hcell
      obtain ⟨hc0, hc1⟩ := hbyte
      obtain ⟨hx0, hx1⟩ := hnb
      have hor := or_low X c hx0 hx1 hc0 hc1
      go_wp2
      go_round
      case rel => exact ⟨k + 1, by omega, by go_num, by rw [HN.out]⟩
      case measure => simp [intOf]; omega
    · have hkn : k = n := by omega
      subst hkn
      go_wp2
      go_ret2
      exact ⟨rfl, rfl⟩

/-- What Get answers. -/
def getV (l : List Int) (p n : Int) : Int := if holdsB l.length p n then num ((l.drop p.toNat).take n.toNat) else 0

theorem get_any (a : Option Addr) (b off len cap : Nat) (l : List Int) (p n : Int) (w : World) (hc : len ≤ cap) (hcm : cap ≤ maxLen) (hL : l.length = len) (hb : isBytes l)
    (ha : a = some ⟨b, off, none⟩ ∨ l = []) (hs : Sees w b off l) :
    Calls Try.prog 52 #[.slice a len cap, .int .i64 p, .int .i64 n] w fun e w' => e = .returned (.tuple #[.int .u64 (getV l p n), .bool (holdsB len p n)]) ∧ w' = w := by
  have hl : len ≤ maxLen := Nat.le_trans hc hcm
  cases hh : holdsB len p n
  · have e : getV l p n = 0 := by unfold getV; rw [hL, hh]; rfl
    rw [e]
    exact get_no a len cap p n w hl hh
  · have e : getV l p n = num ((l.drop p.toNat).take n.toNat) := by unfold getV; rw [hL, hh]; rfl
    rw [e]
    unfold holdsB at hh
    have hd := of_decide_eq_true hh
    obtain ⟨p', rfl⟩ := Int.eq_ofNat_of_zero_le hd.2.2.1
    obtain ⟨n', rfl⟩ := Int.eq_ofNat_of_zero_le (Int.le_trans (by decide) hd.1)
    rcases ha with rfl | rfl
    · exact get_yes b off len cap l p' n' w hl hc hcm hL hb hs (by omega) (by omega) (by omega)
    · simp at hL; omega

end Go.Proofs.Ytdejjokgchbgnaa

namespace Go.Proofs.Ytdejjokgchbgnaa
open Go.RowKit

/-- The lowest n bytes of x laid from p on, the last byte first. -/
def lay (l : List Int) (p : Nat) : Nat → Int → List Int
  | 0, _ => l
  | n + 1, x => lay (l.set (p + n) (x % 256)) p n (x / 256)

theorem lay_length (l : List Int) (p n : Nat) (x : Int) : (lay l p n x).length = l.length := by
  induction n generalizing l x with
  | zero => rfl
  | succ n ih => simp [lay, ih]

theorem lay_bytes (l : List Int) (p n : Nat) (x : Int) (h : isBytes l) : isBytes (lay l p n x) := by
  induction n generalizing l x with
  | zero => exact h
  | succ n ih =>
    refine ih _ _ ?_
    intro z hz
    rcases List.mem_or_eq_of_mem_set hz with h1 | rfl
    · exact h z h1
    · omega

theorem lay_past (l : List Int) (p n : Nat) (x : Int) (i : Nat) (hi : p + n ≤ i) : (lay l p n x).getD i 0 = l.getD i 0 := by
  induction n generalizing l x with
  | zero => rfl
  | succ n ih =>
    show (lay (l.set (p + n) (x % 256)) p n (x / 256)).getD i 0 = _
    rw [ih _ _ (by omega)]
    simp only [List.getD, List.getElem?_set]
    rw [if_neg (by omega)]

theorem emod_pow_succ (x : Int) (n : Nat) : (x / 256) % 256 ^ n * 256 + x % 256 = x % 256 ^ (n + 1) := by
  have h1 : x = 256 * (x / 256) + x % 256 := by omega
  have hp : (0 : Int) < 256 ^ n := Int.pow_pos (by decide)
  have h2 := Int.mul_ediv_add_emod (x / 256) (256 ^ n)
  have h3 := Int.emod_nonneg (x / 256) (Int.ne_of_gt hp)
  have h4 := Int.emod_lt_of_pos (x / 256) hp
  generalize (x / 256) % 256 ^ n = r at *
  generalize (x / 256) / 256 ^ n = q at *
  have h5 : x = (r * 256 + x % 256) + 256 ^ (n + 1) * q := by
    rw [Int.pow_succ]
    have : 256 ^ n * 256 * q = 256 * (256 ^ n * q) := by rw [Int.mul_comm (256 ^ n) 256, Int.mul_assoc]
    omega
  conv => rhs; rw [h5]
  rw [Int.add_mul_emod_self_left]
  symm
  apply Int.emod_eq_of_lt
  · omega
  · rw [Int.pow_succ]; omega

theorem num_lay (l : List Int) (p n : Nat) (x : Int) (h : p + n ≤ l.length) : num (((lay l p n x).drop p).take n) = x % 256 ^ n := by
  induction n generalizing l x with
  | zero => simp [num, Int.emod_one]
  | succ n ih =>
    have hl : (lay l p (n + 1) x).length = l.length := lay_length _ _ _ _
    rw [take_next _ _ _ (by omega), num_snoc]
    show num (List.take n (List.drop p (lay (l.set (p + n) (x % 256)) p n (x / 256)))) * 256 + (lay (l.set (p + n) (x % 256)) p n (x / 256)).getD (p + n) 0 = _
    rw [ih _ _ (by simp; omega), lay_past _ _ _ _ _ (Nat.le_refl _)]
    have : (l.set (p + n) (x % 256)).getD (p + n) 0 = x % 256 := by
      have : p + n < l.length := by omega
      simp [this]
    rw [this]
    exact emod_pow_succ x n

theorem getV_lay (l : List Int) (p n : Nat) (x : Int) (h1 : 1 ≤ n) (h2 : n ≤ 8) (h : p + n ≤ l.length) : getV (lay l p n x) p n = x % 256 ^ n := by
  unfold getV
  have : holdsB (lay l p n x).length p n = true := by rw [lay_length]; unfold holdsB; simp; omega
  rw [if_pos this, Int.toNat_natCast, Int.toNat_natCast]
  exact num_lay l p n x h


theorem wsAux_set (k : Nat) (l : List Int) (i : Nat) (c : Int) (h : i < l.length) : wsAux k (l.set i c) = wsAux k l + (if (k + i) % 2 = 0 then (c - l.getD i 0) * 256 else c - l.getD i 0) := by
  induction l generalizing k i with
  | nil => simp at h
  | cons a l ih =>
    cases i with
    | zero => simp only [List.set_cons_zero, wsAux, Nat.add_zero, List.getD_cons_zero]; split <;> omega
    | succ i =>
      have := ih (k + 1) i (by simpa using h)
      simp only [List.set_cons_succ, wsAux, List.getD_cons_succ, this]
      rw [show k + 1 + i = k + (i + 1) by omega]
      omega

theorem ws_lay2 (l : List Int) (p : Nat) (x : Int) (hp : p % 2 = 0) (h : p + 2 ≤ l.length) :
    ws (lay l p 2 x) = ws l - getV l p 2 + (x % 65536) := by
  have hg : getV l p 2 = l.getD p 0 * 256 + l.getD (p + 1) 0 := by
    unfold getV
    have : holdsB l.length p 2 = true := by unfold holdsB; simp; omega
    rw [if_pos this, Int.toNat_natCast]
    show num ((l.drop p).take 2) = _
    rw [take_next l p 1 (by omega), num_snoc, take_next l p 0 (by omega), num_snoc]
    simp [num]
  show ws ((l.set (p + 1) (x % 256)).set (p + 0) (x / 256 % 256)) = _
  unfold ws
  rw [wsAux_set _ _ _ _ (by simp; omega), wsAux_set _ _ _ _ (by omega), if_neg (by omega), if_pos (by omega), hg]
  have : (l.set (p + 1) (x % 256)).getD (p + 0) 0 = l.getD p 0 := by
    simp only [List.getD, List.getElem?_set, Nat.add_zero]; rw [if_neg (by omega)]
  rw [this]
  omega

theorem wsAux_zero (k : Nat) (l : List Int) (hb : isBytes l) (h : wsAux k l = 0) : ∀ z ∈ l, z = 0 := by
  induction l generalizing k with
  | nil => intro z hz; cases hz
  | cons a l ih =>
    have ha := hb a (by simp)
    have hl : isBytes l := fun z hz => hb z (by simp [hz])
    have h1 := wsAux_bd (k + 1) l hl
    simp only [wsAux] at h
    have h0 : a = 0 ∧ wsAux (k + 1) l = 0 := by split at h <;> omega
    intro z hz
    rcases List.mem_cons.1 hz with rfl | hz
    · exact h0.1
    · exact ih (k + 1) hl h0.2 z hz

def allz (l : List Int) : Bool := l.all (· == 0)

theorem allz_of_ws (l : List Int) (hb : isBytes l) (h : ws l = 0) : allz l = true := by
  unfold allz; rw [List.all_eq_true]; intro z hz; simp [wsAux_zero 0 l hb h z hz]

theorem allz_snoc (l : List Int) (c : Int) : allz (l ++ [c]) = (allz l && (c == 0)) := by unfold allz; simp

/-- P1.5: the check is brought along. -/
theorem upd_eq (S o n : Int) (h0 : 0 ≤ o) (h1 : o ≤ 65535) (h2 : o ≤ S) (h3 : 0 ≤ n) (h4 : n ≤ 65535) (h5 : 0 < S - o + n) :
    upd16 (turn16 (fold16 S)) o n = turn16 (fold16 (S - o + n)) := by
  unfold upd16 plus16 turn16 fold16
  split <;> split <;> split <;> split <;> omega

theorem upd_zero (S o n : Int) (h0 : 0 ≤ o) (h1 : o ≤ 65535) (h2 : o ≤ S) (h3 : 0 ≤ n) (h4 : n ≤ 65535) (h5 : S - o + n = 0) :
    upd16 (turn16 (fold16 S)) o n = 0 := by
  unfold upd16 plus16 turn16 fold16
  split <;> split <;> split <;> omega

end Go.Proofs.Ytdejjokgchbgnaa

namespace Go.Proofs.Ytdejjokgchbgnaa
open Go.RowKit

def b1 (l : List Int) (k : Nat) : Int := l.getD k 0
def w2 (l : List Int) (k : Nat) : Int := l.getD k 0 * 256 + l.getD (k + 1) 0
def w4 (l : List Int) (k : Nat) : Int := ((l.getD k 0 * 256 + l.getD (k + 1) 0) * 256 + l.getD (k + 2) 0) * 256 + l.getD (k + 3) 0

def inB (x m : Int) : Prop := 0 ≤ x ∧ x ≤ m

instance (x m : Int) : Decidable (inB x m) := by unfold inB; infer_instance

def inBb (x m : Int) : Bool := decide (inB x m)

theorem getV1 (l : List Int) (k : Nat) (h : k + 1 ≤ l.length) : getV l k 1 = b1 l k := by
  unfold getV b1
  have : holdsB l.length k 1 = true := by unfold holdsB; simp; omega
  rw [if_pos this, Int.toNat_natCast]
  show num ((l.drop k).take 1) = _
  rw [take_next l k 0 (by omega), num_snoc]
  simp [num]

theorem getV2 (l : List Int) (k : Nat) (h : k + 2 ≤ l.length) : getV l k 2 = w2 l k := by
  unfold getV w2
  have : holdsB l.length k 2 = true := by unfold holdsB; simp; omega
  rw [if_pos this, Int.toNat_natCast]
  show num ((l.drop k).take 2) = _
  rw [take_next l k 1 (by omega), num_snoc, take_next l k 0 (by omega), num_snoc]
  simp [num]

theorem getV4 (l : List Int) (k : Nat) (h : k + 4 ≤ l.length) : getV l k 4 = w4 l k := by
  unfold getV w4
  have : holdsB l.length k 4 = true := by unfold holdsB; simp; omega
  rw [if_pos this, Int.toNat_natCast]
  show num ((l.drop k).take 4) = _
  rw [take_next l k 3 (by omega), num_snoc, take_next l k 2 (by omega), num_snoc, take_next l k 1 (by omega), num_snoc, take_next l k 0 (by omega), num_snoc]
  simp [num]

theorem b1_bd (l : List Int) (hb : isBytes l) (k : Nat) : 0 ≤ b1 l k ∧ b1 l k < 256 := getD_byte l hb k

theorem w2_bd (l : List Int) (hb : isBytes l) (k : Nat) : 0 ≤ w2 l k ∧ w2 l k < 65536 := by
  have h1 := getD_byte l hb k
  have h2 := getD_byte l hb (k + 1)
  unfold w2
  omega

theorem w4_bd (l : List Int) (hb : isBytes l) (k : Nat) : 0 ≤ w4 l k ∧ w4 l k < 4294967296 := by
  have h1 := getD_byte l hb k
  have h2 := getD_byte l hb (k + 1)
  have h3 := getD_byte l hb (k + 2)
  have h4 := getD_byte l hb (k + 3)
  unfold w4
  omega

theorem i64_id (x : Int) (h0 : 0 ≤ x) (h1 : x < 2 ^ 63) : IntKind.i64.wrap x = x := by rw [IntKind.wrap_i64]; omega
theorem u8_id (x : Int) (h0 : 0 ≤ x) (h1 : x < 2 ^ 8) : IntKind.u8.wrap x = x := by rw [IntKind.wrap_u8]; omega
theorem u32_id (x : Int) (h0 : 0 ≤ x) (h1 : x < 2 ^ 32) : IntKind.u32.wrap x = x := by rw [IntKind.wrap_u32]; omega

theorem or_i64 (i : Nat) (x y : Int) (h0 : 0 ≤ x) (hx : x % 2 ^ i = 0) (h1 : x < 2 ^ 63) (h2 : 0 ≤ y) (h3 : y < 2 ^ i) (h4 : y < 2 ^ 63) : bits .or .i64 x y = x + y :=
  bits_join .i64 63 (by decide) i64_id i x y h0 hx h1 h2 h3 h4

theorem or_u32 (i : Nat) (x y : Int) (h0 : 0 ≤ x) (hx : x % 2 ^ i = 0) (h1 : x < 2 ^ 32) (h2 : 0 ≤ y) (h3 : y < 2 ^ i) (h4 : y < 2 ^ 32) : bits .or .u32 x y = x + y :=
  bits_join .u32 32 (by decide) u32_id i x y h0 hx h1 h2 h3 h4

theorem mask_i64 (i : Nat) (hi : i ≤ 63) (x : Int) (h0 : 0 ≤ x) (h1 : x < 2 ^ 63) : bits .and .i64 x (2 ^ i - 1) = x % 2 ^ i := bits_mask .i64 63 (by decide) i64_id i hi x h0 h1
theorem mask_u8 (i : Nat) (hi : i ≤ 8) (x : Int) (h0 : 0 ≤ x) (h1 : x < 2 ^ 8) : bits .and .u8 x (2 ^ i - 1) = x % 2 ^ i := bits_mask .u8 8 (by decide) u8_id i hi x h0 h1

theorem ws_append_even (l m : List Int) (h : l.length % 2 = 0) : ws (l ++ m) = ws l + ws m := by
  have shift : ∀ (n : List Int) (j k : Nat), j % 2 = k % 2 → wsAux j n = wsAux k n := by
    intro n
    induction n with
    | nil => intros; rfl
    | cons c n ih => intro j k hjk; simp only [wsAux]; rw [ih (j + 1) (k + 1) (by omega), hjk]
  unfold ws
  rw [wsAux_append, shift m (0 + l.length) 0 (by omega)]

/-- The lowest n bytes of a number, the highest first. -/
def bytesOfN : Nat → Int → List Int
  | 0, _ => []
  | 1, x => [x % 256]
  | 2, x => [x / 256 % 256, x % 256]
  | 3, x => [x / 65536 % 256, x / 256 % 256, x % 256]
  | _, x => [x / 16777216 % 256, x / 65536 % 256, x / 256 % 256, x % 256]

theorem getD_append_left (l m : List Int) (k : Nat) (h : k < l.length) : (l ++ m).getD k 0 = l.getD k 0 := by
  simp [List.getD, List.getElem?_append_left h]

theorem fold65535 (x : Int) (h : 0 < x) : fold16 x = 65535 ↔ x % 65535 = 0 := by
  unfold fold16
  rw [if_neg (by omega)]
  omega
end Go.Proofs.Ytdejjokgchbgnaa

namespace Go.Proofs.Ytdejjokgchbgnaa

structure Dg where
  tos : Int
  id : Int
  df : Bool
  mf : Bool
  off : Int
  ttl : Int
  proto : Int
  src : Int
  dst : Int
  opts : List Int
  body : List Int

def Dg.zero : Dg := ⟨0, 0, false, false, 0, 0, 0, 0, 0, [], []⟩

/-- What a Go value may hold. -/
structure Dg.Ok (p : Dg) : Prop where
  src0 : 0 ≤ p.src
  src1 : p.src < 4294967296
  dst0 : 0 ≤ p.dst
  dst1 : p.dst < 4294967296
  opts : isBytes p.opts
  body : isBytes p.body

/-- How long the header is said to be. -/
def hdOf (l : List Int) : Int := b1 l 0 % 16 * 4

def parseE (l : List Int) : Int :=
  if 2048 < l.length then 3
  else if l.length < 20 then 2
  else if b1 l 0 / 16 ≠ 4 ∨ hdOf l < 20 then 4
  else if (l.length : Int) < hdOf l then 2
  else if w2 l 2 < hdOf l ∨ 32768 ≤ w2 l 6 then 4
  else if (l.length : Int) < w2 l 2 then 2
  else if fold16 (ws (l.take (hdOf l).toNat)) ≠ 65535 then 5
  else 0

/-- What parseE says where nothing is wrong. -/
structure Good (l : List Int) : Prop where
  a : l.length ≤ 2048
  b : 20 ≤ l.length
  c : b1 l 0 / 16 = 4
  d : 20 ≤ hdOf l
  e : hdOf l ≤ l.length
  f : hdOf l ≤ w2 l 2
  g : w2 l 6 < 32768
  h : w2 l 2 ≤ l.length
  i : fold16 (ws (l.take (hdOf l).toNat)) = 65535

theorem good_of (l : List Int) (h : parseE l = 0) : Good l := by
  unfold parseE at h
  split at h; · omega
  split at h; · omega
  split at h; · omega
  split at h; · omega
  split at h; · omega
  split at h; · omega
  split at h
  · omega
  · constructor <;> first | omega | (rename_i q; simpa using q)

theorem parse_good (l : List Int) (g : Good l) : parseE l = 0 := by
  obtain ⟨a, b, c, d, e, f, gg, h, i⟩ := g
  unfold parseE
  rw [if_neg (by omega), if_neg (by omega), if_neg (by omega), if_neg (by omega), if_neg (by omega), if_neg (by omega), if_neg (by simpa using i)]

def bit (x : Int) (n : Int) : Bool := decide (x / n % 2 = 1)

def dgOf (l : List Int) : Dg :=
  { tos := b1 l 1, id := w2 l 4, df := bit (w2 l 6) 16384, mf := bit (w2 l 6) 8192, off := w2 l 6 % 8192, ttl := b1 l 8, proto := b1 l 9, src := w4 l 12, dst := w4 l 16,
    opts := (l.drop 20).take ((hdOf l).toNat - 20), body := (l.drop (hdOf l).toNat).take ((w2 l 2).toNat - (hdOf l).toNat) }

def totalI (p : Dg) : Int := 20 + p.opts.length + p.body.length


def buildE (p : Dg) : Int :=
  if ¬ inB p.tos 255 then 1
  else if ¬ inB p.ttl 255 then 1
  else if ¬ inB p.proto 255 then 1
  else if ¬ inB p.id 65535 then 1
  else if ¬ inB p.off 8191 then 1
  else if 40 < p.opts.length then 1
  else if p.opts.length % 4 ≠ 0 then 1
  else if 2048 < totalI p then 3
  else 0

structure Fits (p : Dg) : Prop where
  tos : inB p.tos 255
  ttl : inB p.ttl 255
  proto : inB p.proto 255
  id : inB p.id 65535
  off : inB p.off 8191
  o40 : p.opts.length ≤ 40
  o4 : p.opts.length % 4 = 0
  all : totalI p ≤ 2048

theorem fits_of (p : Dg) (h : buildE p = 0) : Fits p := by
  unfold buildE at h
  split at h; · omega
  split at h; · omega
  split at h; · omega
  split at h; · omega
  split at h; · omega
  split at h; · omega
  split at h; · omega
  split at h; · omega
  constructor <;> first | omega | (apply Decidable.of_not_not; assumption)

theorem build_fits (p : Dg) (f : Fits p) : buildE p = 0 := by
  obtain ⟨a, b, c, d, e, f, g, h⟩ := f
  unfold buildE
  rw [if_neg (by simpa using a), if_neg (by simpa using b), if_neg (by simpa using c), if_neg (by simpa using d), if_neg (by simpa using e), if_neg (by omega), if_neg (by omega), if_neg (by omega)]

def flagI (s : Bool) (x : Int) : Int := if s then x else 0

def flagsI (p : Dg) : Int := flagI p.df 16384 + flagI p.mf 8192 + p.off

/-- The header, with c for the check. -/
def headB (p : Dg) (c : Int) : List Int :=
  (64 + (20 + (p.opts.length : Int)) / 4) % 256 :: p.tos % 256 :: totalI p / 256 % 256 :: totalI p % 256 :: p.id / 256 % 256 :: p.id % 256 :: flagsI p / 256 % 256 :: flagsI p % 256 ::
  p.ttl % 256 :: p.proto % 256 :: c / 256 % 256 :: c % 256 ::
  p.src / 256 / 256 / 256 % 256 :: p.src / 256 / 256 % 256 :: p.src / 256 % 256 :: p.src % 256 ::
  p.dst / 256 / 256 / 256 % 256 :: p.dst / 256 / 256 % 256 :: p.dst / 256 % 256 :: p.dst % 256 :: p.opts

def checkI (p : Dg) : Int := turn16 (fold16 (ws (headB p 0)))

def built (p : Dg) : List Int := headB p (checkI p) ++ p.body

theorem head_length (p : Dg) (c : Int) : (headB p c).length = 20 + p.opts.length := by simp [headB]; omega

theorem built_length (p : Dg) : ((built p).length : Int) = totalI p := by
  unfold built totalI; rw [List.length_append, head_length]; omega

theorem check_bd (p : Dg) : 0 ≤ checkI p ∧ checkI p ≤ 65535 := by
  unfold checkI; rw [turn_fold]; have := fold16_bd (ws (headB p 0)); omega

theorem head_bytes (p : Dg) (c : Int) (h : isBytes p.opts) : isBytes (headB p c) := by
  intro z hz
  simp only [headB, List.mem_cons] at hz
  rcases hz with rfl | rfl | rfl | rfl | rfl | rfl | rfl | rfl | rfl | rfl | rfl | rfl | rfl | rfl | rfl | rfl | rfl | rfl | rfl | rfl | hz
  all_goals first | omega | exact h z hz

theorem built_bytes (p : Dg) (k : p.Ok) : isBytes (built p) := isBytes_append (head_bytes p _ k.opts) k.body

theorem ws_head (p : Dg) (c : Int) (h0 : 0 ≤ c) (h1 : c ≤ 65535) : ws (headB p c) = ws (headB p 0) + c := by
  simp only [headB, ws, wsAux]
  simp
  omega

theorem ws_head_pos (p : Dg) (h : isBytes p.opts) (hl : p.opts.length ≤ 40) : 0 < ws (headB p 0) := by
  have hb := head_bytes p 0 h
  unfold headB at hb ⊢
  generalize hR : (p.tos % 256 :: _ : List Int) = R at *
  have hR' : isBytes R := fun z hz => hb z (List.mem_cons_of_mem _ hz)
  have := wsAux_bd 1 R hR'
  simp only [ws, wsAux]
  simp
  omega

theorem sum_head (p : Dg) (h : isBytes p.opts) (hl : p.opts.length ≤ 40) : fold16 (ws (headB p (checkI p))) = 65535 := by
  have hp := ws_head_pos p h hl
  have hc := check_bd p
  rw [ws_head p _ hc.1 hc.2]
  unfold checkI
  rw [turn_fold]
  unfold fold16
  split <;> split <;> omega

theorem getD_head (p : Dg) (c : Int) (m : List Int) (k : Nat) (hk : k < 20) : (headB p c ++ m).getD k 0 = (headB p c).getD k 0 := by
  have : k < (headB p c).length := by rw [head_length]; omega
  simp [List.getD, List.getElem?_append_left this]

theorem headLen (p : Dg) (c : Int) (m : List Int) (f : Fits p) : hdOf (headB p c ++ m) = 20 + p.opts.length := by
  obtain ⟨_, _, _, _, _, h40, h4, _⟩ := f
  show (64 + (20 + (p.opts.length : Int)) / 4) % 256 % 16 * 4 = _
  omega

theorem w2_total (p : Dg) (c : Int) (m : List Int) (f : Fits p) : w2 (headB p c ++ m) 2 = totalI p := by
  have := f.all
  show totalI p / 256 % 256 * 256 + totalI p % 256 = _
  have : 0 ≤ totalI p := by unfold totalI; omega
  omega

theorem flags_bd (p : Dg) (f : Fits p) : 0 ≤ flagsI p ∧ flagsI p < 32768 := by
  have := f.off
  unfold inB at this
  unfold flagsI flagI
  split <;> split <;> omega

theorem w2_flags (p : Dg) (c : Int) (m : List Int) (f : Fits p) : w2 (headB p c ++ m) 6 = flagsI p := by
  have := flags_bd p f
  show flagsI p / 256 % 256 * 256 + flagsI p % 256 = _
  omega

/-- What was built is read back, whatever stands behind. -/
theorem good_built (p : Dg) (k : p.Ok) (f : Fits p) (m : List Int) (hm : (built p ++ m).length ≤ 2048) : Good (built p ++ m) := by
  have e : built p ++ m = headB p (checkI p) ++ (p.body ++ m) := by unfold built; rw [List.append_assoc]
  have hl : ((built p ++ m).length : Int) = totalI p + m.length := by rw [List.length_append, Int.natCast_add, built_length]
  have h1 := headLen p (checkI p) (p.body ++ m) f
  have h2 := w2_total p (checkI p) (p.body ++ m) f
  have h3 := w2_flags p (checkI p) (p.body ++ m) f
  have h4 := flags_bd p f
  have ht : totalI p = 20 + p.opts.length + p.body.length := rfl
  have h0 : b1 (built p ++ m) 0 / 16 = 4 := by
    rw [e]
    show (64 + (20 + (p.opts.length : Int)) / 4) % 256 / 16 = 4
    have := f.o40
    omega
  rw [← e] at h1 h2 h3
  refine ⟨hm, by omega, h0, by omega, by omega, by omega, by omega, by omega, ?_⟩
  have hn : (hdOf (built p ++ m)).toNat = (headB p (checkI p)).length := by rw [h1, head_length]; omega
  rw [hn, e, List.take_left]
  exact sum_head p k.opts f.o40

theorem dg_built (p : Dg) (k : p.Ok) (f : Fits p) (m : List Int) : dgOf (built p ++ m) = p := by
  have e : built p ++ m = headB p (checkI p) ++ (p.body ++ m) := by unfold built; rw [List.append_assoc]
  have h1 := headLen p (checkI p) (p.body ++ m) f
  have h2 := w2_total p (checkI p) (p.body ++ m) f
  have h3 := w2_flags p (checkI p) (p.body ++ m) f
  have h4 := flags_bd p f
  have ht : totalI p = 20 + p.opts.length + p.body.length := rfl
  have q1 := f.tos
  have q2 := f.ttl
  have q3 := f.proto
  have q4 := f.id
  have q5 := f.off
  unfold inB at q1 q2 q3 q4 q5
  have k1 := k.src0
  have k2 := k.src1
  have k3 := k.dst0
  have k4 := k.dst1
  rw [e]
  unfold dgOf
  rw [h1, h2, h3]
  have e1 : b1 (headB p (checkI p) ++ (p.body ++ m)) 1 = p.tos := by show p.tos % 256 = _; omega
  have e2 : w2 (headB p (checkI p) ++ (p.body ++ m)) 4 = p.id := by show p.id / 256 % 256 * 256 + p.id % 256 = _; omega
  have e3 : b1 (headB p (checkI p) ++ (p.body ++ m)) 8 = p.ttl := by show p.ttl % 256 = _; omega
  have e4 : b1 (headB p (checkI p) ++ (p.body ++ m)) 9 = p.proto := by show p.proto % 256 = _; omega
  have e5 : w4 (headB p (checkI p) ++ (p.body ++ m)) 12 = p.src := by
    show ((p.src / 256 / 256 / 256 % 256 * 256 + p.src / 256 / 256 % 256) * 256 + p.src / 256 % 256) * 256 + p.src % 256 = _; omega
  have e6 : w4 (headB p (checkI p) ++ (p.body ++ m)) 16 = p.dst := by
    show ((p.dst / 256 / 256 / 256 % 256 * 256 + p.dst / 256 / 256 % 256) * 256 + p.dst / 256 % 256) * 256 + p.dst % 256 = _; omega
  rw [e1, e2, e3, e4, e5, e6]
  have e7 : ((headB p (checkI p) ++ (p.body ++ m)).drop 20).take ((20 + (p.opts.length : Int)).toNat - 20) = p.opts := by
    have : (headB p (checkI p) ++ (p.body ++ m)).drop 20 = p.opts ++ (p.body ++ m) := by simp [headB]
    rw [this, show (20 + (p.opts.length : Int)).toNat - 20 = p.opts.length by omega, List.take_left]
  have e8 : ((headB p (checkI p) ++ (p.body ++ m)).drop (20 + (p.opts.length : Int)).toNat).take ((totalI p).toNat - (20 + (p.opts.length : Int)).toNat) = p.body := by
    have hn : (20 + (p.opts.length : Int)).toNat = (headB p (checkI p)).length := by rw [head_length]; omega
    have hn2 : (totalI p).toNat - (headB p (checkI p)).length = p.body.length := by rw [head_length, ht]; omega
    rw [hn, List.drop_left, hn2, List.take_left]
  rw [e7, e8]
  have e9 : bit (flagsI p) 16384 = p.df := by unfold bit flagsI flagI; cases p.df <;> cases p.mf <;> simp <;> omega
  have e10 : bit (flagsI p) 8192 = p.mf := by unfold bit flagsI flagI; cases p.df <;> cases p.mf <;> simp <;> omega
  have e11 : flagsI p % 8192 = p.off := by unfold flagsI flagI; split <;> split <;> omega
  rw [e9, e10, e11]
end Go.Proofs.Ytdejjokgchbgnaa

namespace Go.Proofs.Ytdejjokgchbgnaa

/-- The pseudo header, of any numbers. -/
def pseudoB (s d p n : Int) : List Int :=
  [s / 16777216 % 256, s / 65536 % 256, s / 256 % 256, s % 256, d / 16777216 % 256, d / 65536 % 256, d / 256 % 256, d % 256, 0, p % 256, n / 256 % 256, n % 256]

theorem pseudo_length (s d p n : Int) : (pseudoB s d p n).length = 12 := rfl

theorem pseudo_bytes (s d p n : Int) : isBytes (pseudoB s d p n) := by
  intro z hz
  simp only [pseudoB, List.mem_cons, List.not_mem_nil, or_false] at hz
  rcases hz with rfl | rfl | rfl | rfl | rfl | rfl | rfl | rfl | rfl | rfl | rfl | rfl <;> omega

theorem ws_pseudo_append (s d p n : Int) (m : List Int) : ws (pseudoB s d p n ++ m) = ws (pseudoB s d p n) + ws m := ws_append_even _ _ (by rw [pseudo_length])

structure Ud where
  src : Int
  dst : Int
  bare : Bool
  data : List Int

def Ud.zero : Ud := ⟨0, 0, false, []⟩

def Ud.size (u : Ud) : Int := 8 + u.data.length

/-- The header, with c for the check. -/
def headU (u : Ud) (c : Int) : List Int :=
  [u.src / 256 % 256, u.src % 256, u.dst / 256 % 256, u.dst % 256, u.size / 256 % 256, u.size % 256, c / 256 % 256, c % 256]

theorem headU_length (u : Ud) (c : Int) : (headU u c).length = 8 := rfl

theorem headU_bytes (u : Ud) (c : Int) : isBytes (headU u c) := by
  intro z hz
  simp only [headU, List.mem_cons, List.not_mem_nil, or_false] at hz
  rcases hz with rfl | rfl | rfl | rfl | rfl | rfl | rfl | rfl <;> omega

/-- What pseudo header, header and data add, with 0 for the check. -/
def allU (s d : Int) (u : Ud) : Int := ws (pseudoB s d 17 u.size ++ (headU u 0 ++ u.data))

def checkU (s d : Int) (u : Ud) : Int := turn16 (fold16 (allU s d u))

def shownI (c : Int) : Int := if c = 0 then 65535 else c

def fieldU (s d : Int) (u : Ud) : Int := if u.bare then 0 else shownI (checkU s d u)

def builtU (s d : Int) (u : Ud) : List Int := headU u (fieldU s d u) ++ u.data

structure UFits (u : Ud) : Prop where
  src : inB u.src 65535
  dst : inB u.dst 65535
  all : u.data.length ≤ 2020

def buildU (u : Ud) : Int := if ¬ inB u.src 65535 then 1 else if ¬ inB u.dst 65535 then 1 else if 2020 < u.data.length then 3 else 0

theorem ufits_of (u : Ud) (h : buildU u = 0) : UFits u := by
  unfold buildU at h
  split at h; · omega
  split at h; · omega
  split at h; · omega
  constructor <;> first | omega | (apply Decidable.of_not_not; assumption)

theorem checkU_bd (s d : Int) (u : Ud) : 0 ≤ checkU s d u ∧ checkU s d u ≤ 65535 := by
  unfold checkU; rw [turn_fold]; have := fold16_bd (allU s d u); omega

theorem shown_bd (c : Int) (h0 : 0 ≤ c) (h1 : c ≤ 65535) : 1 ≤ shownI c ∧ shownI c ≤ 65535 := by
  unfold shownI; split <;> omega

theorem fieldU_bd (s d : Int) (u : Ud) : 0 ≤ fieldU s d u ∧ fieldU s d u ≤ 65535 := by
  unfold fieldU
  split
  · omega
  · have := checkU_bd s d u
    have := shown_bd _ this.1 this.2
    omega

theorem fieldU_bare (s d : Int) (u : Ud) : fieldU s d u = 0 ↔ u.bare = true := by
  unfold fieldU
  split
  · simp [*]
  · have := checkU_bd s d u
    have := shown_bd _ this.1 this.2
    constructor
    · intro h; omega
    · intro h; contradiction

theorem builtU_length (s d : Int) (u : Ud) : (builtU s d u).length = 8 + u.data.length := by
  unfold builtU; rw [List.length_append, headU_length]

theorem builtU_bytes (s d : Int) (u : Ud) (h : isBytes u.data) : isBytes (builtU s d u) := isBytes_append (headU_bytes _ _) h

theorem ws_headU (u : Ud) (c : Int) (h0 : 0 ≤ c) (h1 : c ≤ 65535) : ws (headU u c) = ws (headU u 0) + c := by
  simp only [headU, ws, wsAux]
  simp
  omega

theorem ws_headU_append (u : Ud) (c : Int) (m : List Int) : ws (headU u c ++ m) = ws (headU u c) + ws m := ws_append_even _ _ (by rw [headU_length])

theorem allU_eq (s d : Int) (u : Ud) : allU s d u = ws (pseudoB s d 17 u.size) + (ws (headU u 0) + ws u.data) := by
  unfold allU; rw [ws_pseudo_append, ws_headU_append]

theorem ws_pseudo_pos (s d n : Int) : 0 < ws (pseudoB s d 17 n) := by
  have hb := pseudo_bytes s d 17 n
  simp only [pseudoB, ws, wsAux]
  simp
  omega

/-- The sum over what was built, from wherever to wherever. -/
theorem ws_built (s d s' d' : Int) (u : Ud) : ws (pseudoB s' d' 17 u.size ++ builtU s d u) = ws (pseudoB s' d' 17 u.size) + (ws (headU u 0) + ws u.data) + fieldU s d u := by
  have hf := fieldU_bd s d u
  unfold builtU
  rw [ws_pseudo_append, ws_headU_append, ws_headU u _ hf.1 hf.2]
  omega

/-- What the bytes say of a length and a check. -/
def parseU (s d : Int) (l : List Int) : Int :=
  if l.length < 8 then 2
  else if w2 l 4 < 8 then 4
  else if (l.length : Int) < w2 l 4 then 2
  else if w2 l 6 ≠ 0 ∧ fold16 (ws (pseudoB s d 17 (w2 l 4) ++ l.take (w2 l 4).toNat)) ≠ 65535 then 5
  else 0

structure UGood (s d : Int) (l : List Int) : Prop where
  a : 8 ≤ l.length
  b : 8 ≤ w2 l 4
  c : w2 l 4 ≤ l.length
  d : w2 l 6 = 0 ∨ fold16 (ws (pseudoB s d 17 (w2 l 4) ++ l.take (w2 l 4).toNat)) = 65535

theorem ugood_of (s d : Int) (l : List Int) (h : parseU s d l = 0) : UGood s d l := by
  unfold parseU at h
  split at h; · omega
  split at h; · omega
  split at h; · omega
  split at h; · omega
  rename_i q
  refine ⟨by omega, by omega, by omega, ?_⟩
  by_cases h0 : w2 l 6 = 0
  · exact .inl h0
  · right
    by_cases h1 : fold16 (ws (pseudoB s d 17 (w2 l 4) ++ l.take (w2 l 4).toNat)) = 65535
    · exact h1
    · exact absurd ⟨h0, h1⟩ q

theorem parse_ugood (s d : Int) (l : List Int) (g : UGood s d l) : parseU s d l = 0 := by
  obtain ⟨a, b, c, e⟩ := g
  unfold parseU
  rw [if_neg (by omega), if_neg (by omega), if_neg (by omega), if_neg]
  rintro ⟨h0, h1⟩
  rcases e with e | e
  · exact h0 e
  · exact h1 e

def udOf (l : List Int) : Ud := { src := w2 l 0, dst := w2 l 2, bare := decide (w2 l 6 = 0), data := (l.drop 8).take ((w2 l 4).toNat - 8) }

theorem size_nat (u : Ud) : (u.size).toNat = 8 + u.data.length := by unfold Ud.size; omega

theorem w2_size (s d : Int) (u : Ud) (f : UFits u) (m : List Int) : w2 (builtU s d u ++ m) 4 = u.size := by
  have := f.all
  show u.size / 256 % 256 * 256 + u.size % 256 = _
  unfold Ud.size
  omega

theorem w2_field (s d : Int) (u : Ud) (m : List Int) : w2 (builtU s d u ++ m) 6 = fieldU s d u := by
  have := fieldU_bd s d u
  show fieldU s d u / 256 % 256 * 256 + fieldU s d u % 256 = _
  omega

theorem take_built (s d : Int) (u : Ud) (m : List Int) : (builtU s d u ++ m).take (u.size).toNat = builtU s d u := by
  rw [size_nat, ← builtU_length s d u, List.take_left]

theorem check_right (s d : Int) (u : Ud) (hb : isBytes u.data) (h : u.bare = false) : fold16 (ws (pseudoB s d 17 u.size ++ builtU s d u)) = 65535 := by
  have hp := ws_pseudo_pos s d u.size
  have hh := ws_bd _ (headU_bytes u 0)
  have hd := ws_bd _ hb
  rw [ws_built, fold65535 _ (by have := (fieldU_bd s d u).1; omega)]
  have ha := allU_eq s d u
  unfold fieldU
  rw [if_neg (by simp [h])]
  unfold shownI checkU
  rw [turn_fold, ha]
  have hX : 0 < ws (pseudoB s d 17 u.size) + (ws (headU u 0) + ws u.data) := by omega
  generalize ws (pseudoB s d 17 u.size) + (ws (headU u 0) + ws u.data) = X at *
  have hfo : fold16 X = (X - 1) % 65535 + 1 := by unfold fold16; rw [if_neg (by omega)]
  rw [hfo]
  split <;> omega

/-- What was built is read back, whatever stands behind. -/
theorem ugood_built (s d : Int) (u : Ud) (f : UFits u) (hb : isBytes u.data) (m : List Int) : UGood s d (builtU s d u ++ m) := by
  have e4 := w2_size s d u f m
  have e6 := w2_field s d u m
  have hl : (builtU s d u ++ m).length = 8 + u.data.length + m.length := by rw [List.length_append, builtU_length]
  have hs : u.size = 8 + (u.data.length : Int) := rfl
  refine ⟨by omega, by omega, by omega, ?_⟩
  rw [e4, e6, take_built]
  cases h : u.bare
  · right; exact check_right s d u hb h
  · left; exact (fieldU_bare s d u).2 h

theorem ud_built (s d : Int) (u : Ud) (f : UFits u) (m : List Int) : udOf (builtU s d u ++ m) = u := by
  have e4 := w2_size s d u f m
  have e6 := w2_field s d u m
  have fs := f.src
  have fd := f.dst
  unfold inB at fs fd
  unfold udOf
  rw [e4, e6]
  have e0 : w2 (builtU s d u ++ m) 0 = u.src := by show u.src / 256 % 256 * 256 + u.src % 256 = _; omega
  have e2 : w2 (builtU s d u ++ m) 2 = u.dst := by show u.dst / 256 % 256 * 256 + u.dst % 256 = _; omega
  have e8 : ((builtU s d u ++ m).drop 8).take ((u.size).toNat - 8) = u.data := by
    have : (builtU s d u ++ m).drop 8 = u.data ++ m := by simp [builtU, headU]
    rw [this, size_nat, show 8 + u.data.length - 8 = u.data.length by omega, List.take_left]
  have eb : decide (fieldU s d u = 0) = u.bare := by
    cases h : u.bare
    · exact decide_eq_false (fun h' => by rw [(fieldU_bare s d u).1 h'] at h; cases h)
    · exact decide_eq_true ((fieldU_bare s d u).2 h)
  rw [e0, e2, e8, eb]

/-- Between other addresses only as the sum lets it. -/
theorem other_built (s d d' : Int) (u : Ud) (f : UFits u) (hb : isBytes u.data) :
    parseU s d' (builtU s d u) = 0 ↔ (u.bare = true ∨ fold16 (ws (pseudoB s d 17 u.size)) = fold16 (ws (pseudoB s d' 17 u.size))) := by
  have e4 := w2_size s d u f []
  have e6 := w2_field s d u []
  rw [List.append_nil] at e4 e6
  have ht := take_built s d u []
  rw [List.append_nil] at ht
  have hl := builtU_length s d u
  have hs : u.size = 8 + (u.data.length : Int) := rfl
  unfold parseU
  rw [if_neg (by omega), e4, if_neg (by omega), if_neg (by omega), e6, ht]
  have hp := ws_pseudo_pos s d u.size
  have hq := ws_pseudo_pos s d' u.size
  have hh := ws_bd _ (headU_bytes u 0)
  have hd := ws_bd _ hb
  have hf := fieldU_bd s d u
  have hbr := fieldU_bare s d u
  cases hu : u.bare
  case true =>
    rw [hu] at hbr
    have := hbr.2 rfl
    simp [this]
  case false =>
    rw [hu] at hbr
    have hne : fieldU s d u ≠ 0 := fun h => by have := hbr.1 h; cases this
    have hr := check_right s d u hb hu
    have r1 : (ws (pseudoB s d 17 u.size) + (ws (headU u 0) + ws u.data) + fieldU s d u) % 65535 = 0 := by
      rw [ws_built, fold65535 _ (by omega)] at hr; exact hr
    have key : fold16 (ws (pseudoB s d' 17 u.size ++ builtU s d u)) = 65535 ↔ fold16 (ws (pseudoB s d 17 u.size)) = fold16 (ws (pseudoB s d' 17 u.size)) := by
      rw [ws_built, fold65535 _ (by omega)]
      unfold fold16
      rw [if_neg (by omega), if_neg (by omega)]
      generalize ws (pseudoB s d 17 u.size) = P at *
      generalize ws (pseudoB s d' 17 u.size) = Q at *
      generalize ws (headU u 0) + ws u.data + fieldU s d u = B at *
      omega
    by_cases hk : fold16 (ws (pseudoB s d' 17 u.size ++ builtU s d u)) = 65535
    · simp [hne, hk, key.1 hk]
    · have hk' : ¬ fold16 (ws (pseudoB s d 17 u.size)) = fold16 (ws (pseudoB s d' 17 u.size)) := fun h => hk (key.2 h)
      simp [hne, hk, hk']
end Go.Proofs.Ytdejjokgchbgnaa

namespace Go.Proofs.Ytdejjokgchbgnaa
open Go.RowKit

structure Pc where
  src : Int
  dst : Int
  seq : Int
  ack : Int
  flags : Int
  window : Int
  urgent : Int
  opts : List Int
  data : List Int

def Pc.zero : Pc := ⟨0, 0, 0, 0, 0, 0, 0, [], []⟩

def Pc.size (p : Pc) : Int := 20 + p.opts.length + p.data.length

def Pc.lead (p : Pc) : Int := (20 + (p.opts.length : Int)) / 4 * 4096 + p.flags

/-- What the kinds of the numbers say. -/
structure Pc.Ok (p : Pc) : Prop where
  seq0 : 0 ≤ p.seq
  seq1 : p.seq < 4294967296
  ack0 : 0 ≤ p.ack
  ack1 : p.ack < 4294967296
  fl0 : -9223372036854775808 ≤ p.flags
  fl1 : p.flags < 9223372036854775808
  opts : isBytes p.opts
  data : isBytes p.data

/-- The first twenty bytes, with c for the check. -/
def fixT (p : Pc) (c : Int) : List Int :=
  [p.src / 256 % 256, p.src % 256, p.dst / 256 % 256, p.dst % 256, p.seq / 16777216 % 256, p.seq / 65536 % 256, p.seq / 256 % 256, p.seq % 256, p.ack / 16777216 % 256, p.ack / 65536 % 256, p.ack / 256 % 256, p.ack % 256,
    p.lead / 256 % 256, p.lead % 256, p.window / 256 % 256, p.window % 256, c / 256 % 256, c % 256, p.urgent / 256 % 256, p.urgent % 256]

def headT (p : Pc) (c : Int) : List Int := fixT p c ++ p.opts

theorem fixT_length (p : Pc) (c : Int) : (fixT p c).length = 20 := rfl

theorem headT_length (p : Pc) (c : Int) : (headT p c).length = 20 + p.opts.length := by unfold headT; rw [List.length_append, fixT_length]

theorem fixT_bytes (p : Pc) (c : Int) : isBytes (fixT p c) := by
  intro z hz
  simp only [fixT, List.mem_cons, List.not_mem_nil, or_false] at hz
  rcases hz with rfl | rfl | rfl | rfl | rfl | rfl | rfl | rfl | rfl | rfl | rfl | rfl | rfl | rfl | rfl | rfl | rfl | rfl | rfl | rfl <;> omega

theorem headT_bytes (p : Pc) (c : Int) (h : isBytes p.opts) : isBytes (headT p c) := isBytes_append (fixT_bytes p c) h

/-- What pseudo header, header and data add, with 0 for the check. -/
def allT (s d : Int) (p : Pc) : Int := ws (pseudoB s d 6 p.size ++ (headT p 0 ++ p.data))

def checkT (s d : Int) (p : Pc) : Int := turn16 (fold16 (allT s d p))

def builtT (s d : Int) (p : Pc) : List Int := headT p (checkT s d p) ++ p.data

structure TArg (p : Pc) : Prop where
  src : inB p.src 65535
  dst : inB p.dst 65535
  window : inB p.window 65535
  urgent : inB p.urgent 65535
  flags : inB p.flags 255
  o40 : p.opts.length ≤ 40
  o4 : p.opts.length % 4 = 0

instance (p : Pc) : Decidable (TArg p) :=
  decidable_of_iff (inB p.src 65535 ∧ inB p.dst 65535 ∧ inB p.window 65535 ∧ inB p.urgent 65535 ∧ inB p.flags 255 ∧ p.opts.length ≤ 40 ∧ p.opts.length % 4 = 0)
    ⟨fun ⟨a, b, c, d, e, f, g⟩ => ⟨a, b, c, d, e, f, g⟩, fun ⟨a, b, c, d, e, f, g⟩ => ⟨a, b, c, d, e, f, g⟩⟩

structure TFits (p : Pc) : Prop where
  arg : TArg p
  all : 20 + p.opts.length + p.data.length ≤ 2028

def buildT (p : Pc) : Int := if ¬ TArg p then 1 else if 2028 < 20 + p.opts.length + p.data.length then 3 else 0

theorem tfits_of (p : Pc) (h : buildT p = 0) : TFits p := by
  unfold buildT at h
  split at h; · omega
  split at h; · omega
  constructor
  · apply Decidable.of_not_not; assumption
  · omega

theorem build_tfits (p : Pc) (f : TFits p) : buildT p = 0 := by
  have := f.all
  unfold buildT
  rw [if_neg (fun h => h f.arg), if_neg (by omega)]

theorem checkT_bd (s d : Int) (p : Pc) : 0 ≤ checkT s d p ∧ checkT s d p ≤ 65535 := by
  unfold checkT; rw [turn_fold]; have := fold16_bd (allT s d p); omega

theorem builtT_length (s d : Int) (p : Pc) : (builtT s d p).length = 20 + p.opts.length + p.data.length := by
  unfold builtT; rw [List.length_append, headT_length]

theorem builtT_bytes (s d : Int) (p : Pc) (k : p.Ok) : isBytes (builtT s d p) := isBytes_append (headT_bytes _ _ k.opts) k.data

theorem ws_fixT (p : Pc) (c : Int) (h0 : 0 ≤ c) (h1 : c ≤ 65535) : ws (fixT p c) = ws (fixT p 0) + c := by
  simp only [fixT, ws, wsAux]
  simp
  omega

theorem ws_headT_append (p : Pc) (c : Int) (m : List Int) : ws (headT p c ++ m) = ws (fixT p c) + ws (p.opts ++ m) := by
  unfold headT
  rw [List.append_assoc]
  exact ws_append_even _ _ (by rw [fixT_length])

theorem allT_eq (s d : Int) (p : Pc) : allT s d p = ws (pseudoB s d 6 p.size) + (ws (fixT p 0) + ws (p.opts ++ p.data)) := by
  unfold allT; rw [ws_pseudo_append, ws_headT_append]

theorem ws_pseudo_pos6 (s d n : Int) : 0 < ws (pseudoB s d 6 n) := by
  have hb := pseudo_bytes s d 6 n
  simp only [pseudoB, ws, wsAux]
  simp
  omega

/-- The sum over what was built. -/
theorem ws_builtT (s d : Int) (p : Pc) : ws (pseudoB s d 6 p.size ++ builtT s d p) = allT s d p + checkT s d p := by
  have hf := checkT_bd s d p
  rw [allT_eq]
  unfold builtT
  rw [ws_pseudo_append, ws_headT_append, ws_fixT p _ hf.1 hf.2]
  omega

theorem allT_pos (s d : Int) (p : Pc) (k : p.Ok) : 0 < allT s d p := by
  have hp := ws_pseudo_pos6 s d p.size
  have hh := ws_bd _ (fixT_bytes p 0)
  have hd := ws_bd _ (isBytes_append k.opts k.data)
  rw [allT_eq]
  omega

/-- What the bytes say of a header's length. -/
def hdT (l : List Int) : Int := b1 l 12 / 16 * 4

def parseT (s d : Int) (l : List Int) : Int :=
  if l.length < 20 then 2
  else if hdT l < 20 ∨ b1 l 12 % 16 ≠ 0 then 4
  else if (l.length : Int) < hdT l then 2
  else if fold16 (ws (pseudoB s d 6 l.length ++ l)) ≠ 65535 then 5
  else 0

structure TGood (s d : Int) (l : List Int) : Prop where
  a : 20 ≤ l.length
  b : 20 ≤ hdT l
  z : b1 l 12 % 16 = 0
  c : hdT l ≤ l.length
  e : fold16 (ws (pseudoB s d 6 l.length ++ l)) = 65535

theorem tgood_of (s d : Int) (l : List Int) (h : parseT s d l = 0) : TGood s d l := by
  unfold parseT at h
  split at h; · omega
  split at h; · omega
  split at h; · omega
  split at h; · omega
  rename_i q1 q2 q3 q4
  refine ⟨by omega, by omega, by omega, by omega, ?_⟩
  by_cases h1 : fold16 (ws (pseudoB s d 6 l.length ++ l)) = 65535
  · exact h1
  · exact absurd h1 q4

theorem parse_tgood (s d : Int) (l : List Int) (g : TGood s d l) : parseT s d l = 0 := by
  obtain ⟨a, b, z, c, e⟩ := g
  unfold parseT
  rw [if_neg (by omega), if_neg (by omega), if_neg (by omega), if_neg (by omega)]

def pcOf (l : List Int) : Pc :=
  { src := w2 l 0, dst := w2 l 2, seq := w4 l 4, ack := w4 l 8, flags := b1 l 13, window := w2 l 14, urgent := w2 l 18,
    opts := (l.drop 20).take ((hdT l).toNat - 20), data := (l.drop (hdT l).toNat).take (l.length - (hdT l).toNat) }

theorem b12_built (s d : Int) (p : Pc) (f : TArg p) : b1 (builtT s d p) 12 = (20 + (p.opts.length : Int)) / 4 * 16 := by
  have f1 := f.flags
  have f2 := f.o40
  unfold inB at f1
  show p.lead / 256 % 256 = _
  unfold Pc.lead
  omega

theorem hd_built (s d : Int) (p : Pc) (f : TArg p) : hdT (builtT s d p) = 20 + p.opts.length := by
  have f2 := f.o4
  unfold hdT
  rw [b12_built s d p f]
  omega

theorem size_built (s d : Int) (p : Pc) : ((builtT s d p).length : Int) = p.size := by rw [builtT_length]; unfold Pc.size; omega

theorem checkT_right (s d : Int) (p : Pc) (k : p.Ok) : fold16 (ws (pseudoB s d 6 p.size ++ builtT s d p)) = 65535 := by
  have hX := allT_pos s d p k
  have hc := checkT_bd s d p
  rw [ws_builtT, fold65535 _ (by omega)]
  unfold checkT
  rw [turn_fold]
  generalize allT s d p = X at *
  have hfo : fold16 X = (X - 1) % 65535 + 1 := by unfold fold16; rw [if_neg (by omega)]
  rw [hfo]
  omega

theorem tgood_built (s d : Int) (p : Pc) (k : p.Ok) (f : TArg p) : TGood s d (builtT s d p) := by
  have e1 := hd_built s d p f
  have e2 := b12_built s d p f
  have e3 := builtT_length s d p
  refine ⟨by omega, by omega, by omega, by omega, ?_⟩
  rw [size_built]
  exact checkT_right s d p k

/-- What was built is read back. -/
theorem pc_built (s d : Int) (p : Pc) (k : p.Ok) (f : TArg p) : pcOf (builtT s d p) = p := by
  have eh := hd_built s d p f
  have el := builtT_length s d p
  obtain ⟨k1, k2, k3, k4, -, -, -, -⟩ := k
  obtain ⟨f1, f2, f3, f4, f5, f6, f7⟩ := f
  unfold inB at f1 f2 f3 f4 f5
  have e0 : w2 (builtT s d p) 0 = p.src := by show p.src / 256 % 256 * 256 + p.src % 256 = _; omega
  have e2 : w2 (builtT s d p) 2 = p.dst := by show p.dst / 256 % 256 * 256 + p.dst % 256 = _; omega
  have e4 : w4 (builtT s d p) 4 = p.seq := by show ((p.seq / 16777216 % 256 * 256 + p.seq / 65536 % 256) * 256 + p.seq / 256 % 256) * 256 + p.seq % 256 = _; omega
  have e8 : w4 (builtT s d p) 8 = p.ack := by show ((p.ack / 16777216 % 256 * 256 + p.ack / 65536 % 256) * 256 + p.ack / 256 % 256) * 256 + p.ack % 256 = _; omega
  have e13 : b1 (builtT s d p) 13 = p.flags := by show p.lead % 256 = _; unfold Pc.lead; omega
  have e14 : w2 (builtT s d p) 14 = p.window := by show p.window / 256 % 256 * 256 + p.window % 256 = _; omega
  have e18 : w2 (builtT s d p) 18 = p.urgent := by show p.urgent / 256 % 256 * 256 + p.urgent % 256 = _; omega
  have hn : (hdT (builtT s d p)).toNat = 20 + p.opts.length := by rw [eh]; omega
  have eo : ((builtT s d p).drop 20).take ((hdT (builtT s d p)).toNat - 20) = p.opts := by
    have : (builtT s d p).drop 20 = p.opts ++ p.data := by simp [builtT, headT, fixT]
    rw [this, hn, show 20 + p.opts.length - 20 = p.opts.length by omega, List.take_left]
  have ed : ((builtT s d p).drop (hdT (builtT s d p)).toNat).take ((builtT s d p).length - (hdT (builtT s d p)).toNat) = p.data := by
    rw [hn, el, show 20 + p.opts.length + p.data.length - (20 + p.opts.length) = p.data.length by omega]
    unfold builtT
    rw [show 20 + p.opts.length = (headT p (checkT s d p)).length from (headT_length _ _).symm, List.drop_left, List.take_length]
  unfold pcOf
  rw [e0, e2, e4, e8, e13, e14, e18, eo, ed]

theorem pc_ok (l : List Int) (hb : isBytes l) : (pcOf l).Ok := by
  have a := w4_bd l hb 4
  have b := w4_bd l hb 8
  have c : 0 ≤ b1 l 13 ∧ b1 l 13 < 256 := b1_bd l hb 13
  exact ⟨a.1, a.2, b.1, b.2, by show _ ≤ b1 l 13; omega, by show b1 l 13 < _; omega, isBytes_part l hb _ _, isBytes_part l hb _ _⟩

theorem and_shifted (a k : Nat) : a &&& ((2 ^ k - 1) <<< 8) = a / 256 % 2 ^ k * 256 := by
  have e : a / 256 % 2 ^ k * 256 = ((a >>> 8) % 2 ^ k) <<< 8 := by rw [Nat.shiftLeft_eq, Nat.shiftRight_eq_div_pow]
  rw [e]
  apply Nat.eq_of_testBit_eq
  intro j
  rw [Nat.testBit_and, Nat.testBit_shiftLeft, Nat.testBit_shiftLeft, Nat.testBit_two_pow_sub_one, Nat.testBit_mod_two_pow, Nat.testBit_shiftRight]
  by_cases h : 8 ≤ j
  · have : 8 + (j - 8) = j := by omega
    rw [this]
    simp [h, Bool.and_comm]
  · simp [h]

/-- The four bits behind the header's words. -/
theorem spare_bits (x : Int) (h0 : 0 ≤ x) (h1 : x < 65536) : (bits .and .i64 x 3840 != 0) = decide (x / 256 % 16 ≠ 0) := by
  obtain ⟨a, rfl⟩ := Int.eq_ofNat_of_zero_le h0
  have ha : a < 65536 := by omega
  have e1 : (BitVec.ofInt 64 (a : Int)).toNat = a := by
    rw [BitVec.ofInt_natCast, BitVec.toNat_ofNat]; exact Nat.mod_eq_of_lt (by omega)
  have e2 : (BitVec.ofInt 64 (3840 : Int)).toNat = (2 ^ 4 - 1) <<< 8 := by decide
  have e : bits .and .i64 (a : Int) 3840 = ((a / 256 % 16 * 256 : Nat) : Int) := by
    show IntKind.i64.wrap ((BitVec.ofInt 64 (a : Int) &&& BitVec.ofInt 64 (3840 : Int)).toNat : Int) = _
    rw [BitVec.toNat_and, e1, e2, and_shifted]
    exact i64_id _ (by omega) (by omega)
  rw [e]
  by_cases h : (a : Int) / 256 % 16 = 0
  · have : ((a / 256 % 16 * 256 : Nat) : Int) = 0 := by omega
    rw [this]; simp [h]
  · have : ((a / 256 % 16 * 256 : Nat) : Int) ≠ 0 := by omega
    have h' : (((a / 256 % 16 * 256 : Nat) : Int) != 0) = true := by rw [bne_iff_ne]; exact this
    rw [h']; simp [h]

/-- Bits beyond the flags. -/
theorem flag_bits (x : Int) (h0 : -9223372036854775808 ≤ x) (h1 : x < 9223372036854775808) : (bits .and .i64 x (-256) != 0) = !inBb x 255 := by
  obtain ⟨a, ha⟩ : ∃ a, (BitVec.ofInt 64 x).toNat = a := ⟨_, rfl⟩
  have ha' : (a : Int) = x % 18446744073709551616 := by
    rw [← ha, BitVec.toNat_ofInt]
    omega
  have e2 : (BitVec.ofInt 64 (-256 : Int)).toNat = (2 ^ 56 - 1) <<< 8 := by decide
  have e : bits .and .i64 x (-256) = IntKind.i64.wrap ((a / 256 % 2 ^ 56 * 256 : Nat) : Int) := by
    show IntKind.i64.wrap ((BitVec.ofInt 64 x &&& BitVec.ofInt 64 (-256 : Int)).toNat : Int) = _
    rw [BitVec.toNat_and, ha, e2, and_shifted]
  rw [e, IntKind.wrap_i64]
  unfold inBb
  by_cases h : inB x 255
  · have hh := h
    unfold inB at hh
    have : (((a / 256 % 2 ^ 56 * 256 : Nat) : Int) + 9223372036854775808) % 18446744073709551616 - 9223372036854775808 = 0 := by omega
    rw [this]; simp [h]
  · have hh := h
    unfold inB at hh
    have : (((a / 256 % 2 ^ 56 * 256 : Nat) : Int) + 9223372036854775808) % 18446744073709551616 - 9223372036854775808 ≠ 0 := by omega
    have h' : ((((a / 256 % 2 ^ 56 * 256 : Nat) : Int) + 9223372036854775808) % 18446744073709551616 - 9223372036854775808 != 0) = true := by rw [bne_iff_ne]; exact this
    rw [h']; simp [h]

theorem getD_set_ne (l : List Int) (i j : Nat) (y : Int) (h : i ≠ j) : (l.set i y).getD j 0 = l.getD j 0 := by
  simp [List.getD, List.getElem?_set_ne h]

/-- One byte behind the header's length that is another is found. -/
theorem turnedT (s d : Int) (p : Pc) (k : p.Ok) (f : TArg p) (i : Nat) (y : Int) (hi : i < (builtT s d p).length) (h12 : i ≠ 12) (hy0 : 0 ≤ y) (hy1 : y < 256) (hne : y ≠ (builtT s d p).getD i 0) :
    parseT s d ((builtT s d p).set i y) = 5 := by
  have g := tgood_built s d p k f
  have hb := builtT_bytes s d p k
  generalize builtT s d p = l at *
  obtain ⟨a, b, z, c, e⟩ := g
  have e12 : b1 (l.set i y) 12 = b1 l 12 := getD_set_ne l i 12 y h12
  have eh : hdT (l.set i y) = hdT l := by unfold hdT; rw [e12]
  have hz := getD_byte l hb i
  have hp := ws_pseudo_pos6 s d (l.length : Int)
  have hs := wsAux_set 0 l i y hi
  have hbs : isBytes (l.set i y) := by
    intro z hz
    rcases List.mem_or_eq_of_mem_set hz with h | rfl
    · exact hb z h
    · exact ⟨hy0, hy1⟩
  have hw := ws_bd _ hbs
  have hw' := ws_bd _ hb
  unfold parseT
  rw [List.length_set, eh, e12, if_neg (by omega), if_neg (by omega), if_neg (by omega), if_pos]
  intro h
  rw [ws_pseudo_append] at e h
  rw [fold65535 _ (by omega)] at e h
  unfold ws at *
  rw [hs] at h
  generalize wsAux 0 (pseudoB s d 6 (l.length : Int)) = P at *
  generalize wsAux 0 l = S at *
  generalize l.getD i 0 = x at *
  split at h <;> omega
end Go.Proofs.Ytdejjokgchbgnaa

namespace Go.Proofs.Ytdejjokgchbgnaa
open Go.RowKit

structure Wd where
  type : Int
  code : Int
  rest : Int
  data : List Int

def Wd.zero : Wd := ⟨0, 0, 0, []⟩

/-- What the kinds of the numbers say. -/
structure Wd.Ok (m : Wd) : Prop where
  rest0 : 0 ≤ m.rest
  rest1 : m.rest < 4294967296
  data : isBytes m.data

/-- The first eight bytes, with c for the check. -/
def headW (m : Wd) (c : Int) : List Int :=
  [m.type % 256, m.code % 256, c / 256 % 256, c % 256, m.rest / 16777216 % 256, m.rest / 65536 % 256, m.rest / 256 % 256, m.rest % 256]

theorem headW_length (m : Wd) (c : Int) : (headW m c).length = 8 := rfl

theorem headW_bytes (m : Wd) (c : Int) : isBytes (headW m c) := by
  intro z hz
  simp only [headW, List.mem_cons, List.not_mem_nil, or_false] at hz
  rcases hz with rfl | rfl | rfl | rfl | rfl | rfl | rfl | rfl <;> omega

/-- What header and data add, with 0 for the check. -/
def allW (m : Wd) : Int := ws (headW m 0 ++ m.data)

def checkW (m : Wd) : Int := turn16 (fold16 (allW m))

def builtW (m : Wd) : List Int := headW m (checkW m) ++ m.data

structure WFits (m : Wd) : Prop where
  type : inB m.type 255
  code : inB m.code 255
  all : m.data.length ≤ 2020

def buildW (m : Wd) : Int := if ¬ inB m.type 255 then 1 else if ¬ inB m.code 255 then 1 else if 2020 < m.data.length then 3 else 0

theorem wfits_of (m : Wd) (h : buildW m = 0) : WFits m := by
  unfold buildW at h
  split at h; · omega
  split at h; · omega
  split at h; · omega
  constructor <;> first | omega | (apply Decidable.of_not_not; assumption)

theorem checkW_bd (m : Wd) : 0 ≤ checkW m ∧ checkW m ≤ 65535 := by
  unfold checkW; rw [turn_fold]; have := fold16_bd (allW m); omega

theorem builtW_length (m : Wd) : (builtW m).length = 8 + m.data.length := by
  unfold builtW; rw [List.length_append, headW_length]

theorem builtW_bytes (m : Wd) (h : isBytes m.data) : isBytes (builtW m) := isBytes_append (headW_bytes _ _) h

theorem ws_headW (m : Wd) (c : Int) (h0 : 0 ≤ c) (h1 : c ≤ 65535) : ws (headW m c) = ws (headW m 0) + c := by
  simp only [headW, ws, wsAux]
  simp
  omega

theorem ws_headW_append (m : Wd) (c : Int) (l : List Int) : ws (headW m c ++ l) = ws (headW m c) + ws l := ws_append_even _ _ (by rw [headW_length])

theorem allW_eq (m : Wd) : allW m = ws (headW m 0) + ws m.data := by
  unfold allW; rw [ws_headW_append]

/-- The sum over what was built. -/
theorem ws_builtW (m : Wd) : ws (builtW m) = allW m + checkW m := by
  have hf := checkW_bd m
  rw [allW_eq]
  unfold builtW
  rw [ws_headW_append, ws_headW m _ hf.1 hf.2]
  omega

theorem allW_nonneg (m : Wd) (hb : isBytes m.data) : 0 ≤ allW m := by
  have hh := ws_bd _ (headW_bytes m 0)
  have hd := ws_bd _ hb
  rw [allW_eq]
  omega

/-- The check is right: also of bytes that are all 0. -/
theorem fold_builtW (m : Wd) (hb : isBytes m.data) : fold16 (ws (builtW m)) = 65535 := by
  have h0 := allW_nonneg m hb
  have hc := checkW_bd m
  have hk : checkW m = 65535 - fold16 (allW m) := by unfold checkW; rw [turn_fold]
  rw [ws_builtW]
  by_cases hz : allW m = 0
  · rw [hz] at hk ⊢
    have : fold16 0 = 0 := by decide
    rw [hk, this]
    decide
  · have hfo : fold16 (allW m) = (allW m - 1) % 65535 + 1 := by unfold fold16; rw [if_neg (by omega)]
    rw [fold65535 _ (by omega), hk, hfo]
    omega

def parseW (l : List Int) : Int := if l.length < 8 then 2 else if fold16 (ws l) ≠ 65535 then 5 else 0

structure WGood (l : List Int) : Prop where
  a : 8 ≤ l.length
  e : fold16 (ws l) = 65535

theorem wgood_of (l : List Int) (h : parseW l = 0) : WGood l := by
  unfold parseW at h
  split at h; · omega
  split at h; · omega
  exact ⟨by omega, by apply Decidable.of_not_not; assumption⟩

theorem parse_wgood (l : List Int) (g : WGood l) : parseW l = 0 := by
  have := g.a
  unfold parseW
  rw [if_neg (by omega), if_neg (fun h => h g.e)]

def wdOf (l : List Int) : Wd := { type := b1 l 0, code := b1 l 1, rest := w4 l 4, data := l.drop 8 }

theorem wgood_built (m : Wd) (hb : isBytes m.data) : WGood (builtW m) := ⟨by rw [builtW_length]; omega, fold_builtW m hb⟩

theorem wd_built (m : Wd) (k : m.Ok) (f : WFits m) : wdOf (builtW m) = m := by
  have ft := f.type
  have fc := f.code
  have r0 := k.rest0
  have r1 := k.rest1
  unfold inB at ft fc
  have e0 : b1 (builtW m) 0 = m.type := by show m.type % 256 = _; omega
  have e1 : b1 (builtW m) 1 = m.code := by show m.code % 256 = _; omega
  have e4 : w4 (builtW m) 4 = m.rest := by
    show ((m.rest / 16777216 % 256 * 256 + m.rest / 65536 % 256) * 256 + m.rest / 256 % 256) * 256 + m.rest % 256 = _
    omega
  have e8 : (builtW m).drop 8 = m.data := by simp [builtW, headW]
  unfold wdOf
  rw [e0, e1, e4, e8]

/-- One byte that is another one is found. -/
theorem turnedW (m : Wd) (k : m.Ok) (i : Nat) (y : Int) (hi : i < (builtW m).length) (hy0 : 0 ≤ y) (hy1 : y < 256) (hne : y ≠ (builtW m).getD i 0) :
    parseW ((builtW m).set i y) = 5 := by
  have g := wgood_built m k.data
  have hb := builtW_bytes m k.data
  generalize builtW m = l at *
  obtain ⟨a, e⟩ := g
  have hz := getD_byte l hb i
  have hs := wsAux_set 0 l i y hi
  have hbs : isBytes (l.set i y) := by
    intro z hz
    rcases List.mem_or_eq_of_mem_set hz with h | rfl
    · exact hb z h
    · exact ⟨hy0, hy1⟩
  have hw := ws_bd _ hbs
  have hw' := ws_bd _ hb
  unfold parseW
  rw [List.length_set, if_neg (by omega), if_pos]
  intro h
  have p1 : 0 < ws l := by
    rcases Int.lt_or_le 0 (ws l) with h' | h'
    · exact h'
    · have : ws l = 0 := by omega
      rw [this] at e
      exact absurd e (by decide)
  have p2 : 0 < ws (l.set i y) := by
    rcases Int.lt_or_le 0 (ws (l.set i y)) with h' | h'
    · exact h'
    · have : ws (l.set i y) = 0 := by omega
      rw [this] at h
      exact absurd h (by decide)
  rw [fold65535 _ p1] at e
  rw [fold65535 _ p2] at h
  unfold ws at *
  rw [hs] at h
  generalize wsAux 0 l = S at *
  generalize l.getD i 0 = x at *
  split at h <;> omega

/-- What a message is, by the numbers of the document: a query, an answer, an error, or nothing. -/
def kindW (t c : Int) : Int := if t = 8 ∧ c = 0 then 3 else if t = 0 ∧ c = 0 then 4 else if t = 3 ∨ t = 11 ∨ t = 12 then 5 else 0
end Go.Proofs.Ytdejjokgchbgnaa

namespace Go.Proofs.Ytdejjokgchbgnaa
open Go.RowKit

/-- What a fault quotes. -/
structure Inn where
  proto : Int
  sa : Int
  sp : Int
  da : Int
  dp : Int

def Inn.zero : Inn := ⟨0, 0, 0, 0, 0⟩

theorem drop_b1 (l : List Int) (h k : Nat) : b1 (l.drop h) k = b1 l (h + k) := by
  unfold b1; simp [List.getD]

theorem drop_w2 (l : List Int) (h k : Nat) : w2 (l.drop h) k = w2 l (h + k) := by
  unfold w2; simp [List.getD, Nat.add_assoc]

theorem w4_high (l : List Int) (hb : isBytes l) (k : Nat) : w4 l k / 65536 = w2 l k := by
  have h1 := getD_byte l hb k
  have h2 := getD_byte l hb (k + 1)
  have h3 := getD_byte l hb (k + 2)
  have h4 := getD_byte l hb (k + 3)
  unfold w4 w2
  omega

/-- The protocol of a kind. -/
def protoK (k : Int) : Int := if k = 1 then 17 else if k = 2 then 6 else if k = 3 ∨ k = 4 then 1 else 0

theorem proto_kind (t c : Int) : protoK (kindW t c) = 1 ↔ (t = 8 ∨ t = 0) ∧ c = 0 := by
  unfold kindW
  split
  · rename_i h; simp [protoK, h]
  · split
    · rename_i h; simp [protoK, h]
    · split
      · rename_i h1 h2 h3; simp [protoK]; omega
      · simp [protoK]; omega

/-- What errors become. -/
def whyI (e : Int) : Int := if e = 5 then 2 else 1

theorem whyI_pos (e : Int) : ¬ whyI e = 0 := by unfold whyI; split <;> decide

/-- A quoted header that can be read. -/
structure Head (l : List Int) : Prop where
  a : 20 ≤ l.length
  c : b1 l 0 / 16 = 4
  d : 20 ≤ hdOf l
  e : hdOf l + 8 ≤ l.length

instance (l : List Int) : Decidable (Head l) := decidable_of_iff (20 ≤ l.length ∧ b1 l 0 / 16 = 4 ∧ 20 ≤ hdOf l ∧ hdOf l + 8 ≤ l.length) ⟨fun h => ⟨h.1, h.2.1, h.2.2.1, h.2.2.2⟩, fun h => ⟨h.a, h.c, h.d, h.e⟩⟩

/-- Is it an echo? -/
def echoB (m : List Int) : Bool := decide ((b1 m 0 = 8 ∨ b1 m 0 = 0) ∧ b1 m 1 = 0)

/-- The ports that a quoted body begins with. -/
def portsOf (x : Int) (m : List Int) : Option (Int × Int) :=
  if x = 17 ∨ x = 6 then some (w2 m 0, w2 m 2) else if x = 1 ∧ echoB m = true then some (w2 m 4, w2 m 4) else none

def innOf (l : List Int) (q : Int × Int) : Inn := ⟨b1 l 9, w4 l 12, q.1, w4 l 16, q.2⟩

def quoteO (l : List Int) : Option Inn :=
  if Head l ∧ w2 l 6 % 8192 = 0 then (portsOf (b1 l 9) (l.drop (hdOf l).toNat)).map (innOf l) else none

/-- What is read of a datagram's body: why it is no frame (0: it is one), its kind, its ports, its flags, what it quotes. -/
structure Rs where
  why : Int
  kind : Int
  fp : Int
  tp : Int
  flags : Int
  inner : Inn

def noRs (y : Int) : Rs := ⟨y, 0, 0, 0, 0, Inn.zero⟩

def rsU (p : Dg) : Rs := if parseU p.src p.dst p.body = 0 then ⟨0, 1, w2 p.body 0, w2 p.body 2, 0, Inn.zero⟩ else noRs (whyI (parseU p.src p.dst p.body))

def rsT (p : Dg) : Rs := if parseT p.src p.dst p.body = 0 then ⟨0, 2, w2 p.body 0, w2 p.body 2, b1 p.body 13, Inn.zero⟩ else noRs (whyI (parseT p.src p.dst p.body))

def rsF (l : List Int) : Rs := match quoteO l with
  | some x => ⟨0, 5, 0, 0, 0, x⟩
  | none => noRs 1

def rsK (m : List Int) : Rs :=
  if kindW (b1 m 0) (b1 m 1) = 0 then noRs 4 else if kindW (b1 m 0) (b1 m 1) = 5 then rsF (m.drop 8) else ⟨0, kindW (b1 m 0) (b1 m 1), w2 m 4, w2 m 4, 0, Inn.zero⟩

def rsW (p : Dg) : Rs := if parseW p.body = 0 then rsK p.body else noRs (whyI (parseW p.body))

def rsOf (p : Dg) : Rs := if p.proto = 17 then rsU p else if p.proto = 6 then rsT p else if p.proto = 1 then rsW p else noRs 4

/-- Is it a part? -/
def partB (p : Dg) : Bool := p.mf || decide (p.off ≠ 0)

def readR (l : List Int) : Rs := if parseE l = 0 then (if partB (dgOf l) = true then noRs 3 else rsOf (dgOf l)) else noRs (whyI (parseE l))

theorem no_rs (r : Rs) (y : Int) (h : r = noRs y) : r.why = y := by rw [h]; rfl

theorem rsU_no (p : Dg) (h : ¬ (rsU p).why = 0) : rsU p = noRs (rsU p).why := by
  unfold rsU at *; split <;> simp_all [noRs]

theorem rsT_no (p : Dg) (h : ¬ (rsT p).why = 0) : rsT p = noRs (rsT p).why := by
  unfold rsT at *; split <;> simp_all [noRs]

theorem rsF_no (l : List Int) (h : ¬ (rsF l).why = 0) : rsF l = noRs (rsF l).why := by
  unfold rsF at *; split <;> simp_all [noRs]

theorem rsK_no (l : List Int) (h : ¬ (rsK l).why = 0) : rsK l = noRs (rsK l).why := by
  unfold rsK at *
  split
  · rfl
  · rename_i h1
    rw [if_neg h1] at h
    split
    · rename_i h2
      rw [if_pos h2] at h
      exact rsF_no _ h
    · rename_i h2
      rw [if_neg h2] at h
      exact absurd rfl h

theorem rsW_no (p : Dg) (h : ¬ (rsW p).why = 0) : rsW p = noRs (rsW p).why := by
  unfold rsW at *
  split
  · rename_i h1
    rw [if_pos h1] at h
    exact rsK_no _ h
  · rfl

theorem rsOf_no (p : Dg) (h : ¬ (rsOf p).why = 0) : rsOf p = noRs (rsOf p).why := by
  unfold rsOf at *
  split
  · rename_i h1; rw [if_pos h1] at h; exact rsU_no p h
  · rename_i h1
    rw [if_neg h1] at h
    split
    · rename_i h2; rw [if_pos h2] at h; exact rsT_no p h
    · rename_i h2
      rw [if_neg h2] at h
      split
      · rename_i h3; rw [if_pos h3] at h; exact rsW_no p h
      · rfl

theorem readR_no (l : List Int) (h : ¬ (readR l).why = 0) : readR l = noRs (readR l).why := by
  unfold readR at *
  split
  · rename_i h1
    rw [if_pos h1] at h
    split
    · rfl
    · rename_i h2
      rw [if_neg h2] at h
      exact rsOf_no _ h
  · rfl

theorem readR_ok (l : List Int) (h : (readR l).why = 0) : parseE l = 0 ∧ partB (dgOf l) = false ∧ readR l = rsOf (dgOf l) := by
  unfold readR at *
  split
  · rename_i h1
    rw [if_pos h1] at h
    split
    · rename_i h2
      rw [if_pos h2] at h
      exact absurd h (by decide)
    · rename_i h2
      exact ⟨h1, by simpa using h2, rfl⟩
  · rename_i h1
    rw [if_neg h1] at h
    exact absurd h (whyI_pos _)
end Go.Proofs.Ytdejjokgchbgnaa

namespace Go.Proofs.Ytdejjokgchbgnaa
open Go.RowKit

/-- A value is a slice that shows the bytes l. -/
def Bts (w : World) (v : Value) (l : List Int) : Prop :=
  ∃ (a : Option Addr) (cap b off : Nat), v = .slice a l.length cap ∧ l.length ≤ cap ∧ cap ≤ maxLen ∧ isBytes l ∧ (a = some ⟨b, off, none⟩ ∨ l = []) ∧ Sees w b off l

/-- A row of cells, each a slice of bytes. -/
def Pts (w : World) (B O : Nat) (ls : List (List Int)) : Prop := ∀ i, i < ls.length → ∃ v, w.cell? ⟨B, O + i, none⟩ = some v ∧ Bts w v (ls.getD i [])

set_option maxHeartbeats 1000000 in
theorem sum_any (A : Option Addr) (B O cap : Nat) (ls : List (List Int)) (w : World) (hc : ls.length ≤ cap) (hm : cap ≤ maxLen) (hA : A = some ⟨B, O, none⟩ ∨ ls = []) (hp : Pts w B O ls)
    (hbig : ls.flatten.length ≤ 1099511627776) (hbs : isBytes ls.flatten) :
    Calls Try.prog 57 #[.slice A ls.length cap] w fun e w' => e = .returned (.int .i64 (fold16 (ws ls.flatten))) ∧ w' = w := by
  unfold maxLen at hm
  go_enter Try.func57, Try.ntmps57
  go_wp2
  go_loop [3, 4, 11] (fun t s i => ∃ k : Nat, k ≤ ls.length ∧ i = .int .i64 k ∧ t = .int .u64 (ws (ls.take k).flatten) ∧ s = .int .i64 (shiftOf (ls.take k).flatten.length)) (fun _ _ i => ls.length - (intOf i).toNat)
  case atStart => exact ⟨0, Nat.zero_le _, rfl, by simp [ws, wsAux], by simp [shiftOf]⟩
  case round =>
    obtain ⟨k, hk, rfl, rfl, rfl⟩ := hrel
    by_cases hlt : k < ls.length
    · obtain ⟨v, hcell, a, c1, b, off, rfl, q1, q2, q3, q4, q5⟩ := hp k hlt
      rcases hA with rfl | hnil
      case inr => rw [hnil] at hlt; simp at hlt
      have hfl := flatten_take_snoc ls k hlt
      have hle := flatten_take_le ls (k + 1)
      have HB : Hid (isBytes (ls.take k).flatten) := fun z hz => by
        apply hbs; rw [← List.take_append_drop k ls, List.flatten_append]; exact List.mem_append_left _ hz
      have HF : Hid ((ls.take (k + 1)).flatten = (ls.take k).flatten ++ ls.getD k []) := hfl
      have hfl2 : (ls.take k).flatten.length + (ls.getD k []).length ≤ 1099511627776 := by
        rw [hfl] at hle; simp only [List.length_append] at hle; omega
      clear hfl hle
      generalize hG : ls.getD k [] = g at *
      clear hG
      generalize hT : (ls.take k).flatten = F at *
      clear hT
      unfold maxLen at q2
      go_wp2
      go_loop [3, 4, 17] (fun t s i => ∃ j : Nat, j ≤ g.length ∧ i = .int .i64 j ∧ t = .int .u64 (ws (F ++ g.take j)) ∧ s = .int .i64 (shiftOf (F.length + j))) (fun _ _ i => g.length - (intOf i).toNat)
      case atStart => exact ⟨0, Nat.zero_le _, rfl, by simp, by simp⟩
      case round =>
        obtain ⟨j, hj, rfl, rfl, rfl⟩ := hrel
        by_cases hlj : j < g.length
        · rcases q4 with rfl | hnil
          case inr => rw [hnil] at hlj; simp at hlj
          have hc2 := q5 j hlj
          have hbyte := getD_byte g q3 j
          have hwb := ws_bd (F ++ g.take j) (isBytes_append HB.out (isBytes_take q3 j))
          have hln : (F ++ g.take j).length = F.length + j := by simp; omega
          rw [hln] at hwb
          have hsn := ws_snoc (F ++ g.take j) (g.getD j 0)
          rw [List.append_assoc, ← take_snoc g j hlj, hln] at hsn
          have HS : Hid (ws (F ++ g.take (j + 1)) = ws (F ++ g.take j) + (if (F.length + j) % 2 = 0 then g.getD j 0 * 256 else g.getD j 0)) := hsn
          clear hsn hln
          generalize hX : ws (F ++ g.take j) = X at *
          generalize hC : g.getD j 0 = c at *
          clear hX hC
          obtain ⟨hb0, hb1⟩ := hbyte
          obtain ⟨hx0, hx1⟩ := hwb
          by_cases hpar : (F.length + j) % 2 = 0
          · have e1 : shiftOf (F.length + j) = 8 := by simp [shiftOf, hpar]
            have E2 : Hid (shiftOf (F.length + (j + 1)) = 0) := by show shiftOf _ = 0; unfold shiftOf; rw [if_neg (by omega)]
            rw [e1]
            rw [if_pos hpar] at HS
            clear e1 hpar
            go_wp2
            go_round
            case rel => exact ⟨j + 1, by omega, by go_num, by rw [HS.out], by rw [E2.out]⟩
            case measure => simp [intOf]; omega
          · have e1 : shiftOf (F.length + j) = 0 := by simp [shiftOf, hpar]
            have E2 : Hid (shiftOf (F.length + (j + 1)) = 8) := by show shiftOf _ = 8; unfold shiftOf; rw [if_pos (by omega)]
            rw [e1]
            rw [if_neg hpar] at HS
            clear e1 hpar
            go_wp2
            go_round
            case rel => exact ⟨j + 1, by omega, by go_num, by rw [HS.out], by rw [E2.out]⟩
            case measure => simp [intOf]; omega
        · have hje : j = g.length := by omega
          subst hje
          go_wp2
          go_round
          case rel => exact ⟨k + 1, by omega, by go_num, by rw [HF.out]; simp, by rw [HF.out]; simp⟩
          case measure => simp [intOf]; omega
    · have hke : k = ls.length := by omega
      subst hke
      have hwb := ws_bd ls.flatten hbs
      have e0 : (List.take ls.length ls) = ls := List.take_length
      rw [e0]
      clear e0
      go_wp2_with (go_at_call 67; refine (fold_any _ _ (by omega) (by omega)).mono ?_; rintro e w' ⟨rfl, rfl⟩)
      go_ret
      exact ⟨rfl, rfl⟩

theorem Sees.later {w wx : World} {b off : Nat} {l : List Int} (h : Sees w b off l) (hb : Below w.heap.size w wx) : Sees wx b off l :=
  fun i hi => cell_later hb (h i hi)

theorem Bts.later {w wx : World} {v : Value} {l : List Int} (h : Bts w v l) (hb : Below w.heap.size w wx) : Bts wx v l := by
  obtain ⟨a, cap, b, off, h1, h2, h3, h4, h5, h6⟩ := h
  exact ⟨a, cap, b, off, h1, h2, h3, h4, h5, h6.later hb⟩

theorem Bts.shape {w : World} {v : Value} {l : List Int} (h : Bts w v l) : ∃ a N c, v = .slice a N c := by
  obtain ⟨a, c, _, _, rfl, _⟩ := h; exact ⟨_, _, _, rfl⟩

theorem below_trans {a b c : World} (h : Below a.heap.size a b) (k : Below b.heap.size b c) : Below a.heap.size a c := h.trans (k.mono h.size)

theorem Pts.later {w wx : World} {B O : Nat} {ls : List (List Int)} (h : Pts w B O ls) (hb : Below w.heap.size w wx) : Pts wx B O ls := by
  intro i hi
  obtain ⟨v, h1, h2⟩ := h i hi
  exact ⟨v, cell_later hb h1, h2.later hb⟩

theorem below_alloc (w : World) (o : Obj) : Below w.heap.size w (w.alloc o) := (Below.refl _ _).alloc (Nat.le_refl _) _

theorem pts_one {w : World} {v : Value} {l : List Int} (t : TypeId) (h : Bts w v l) : Pts (w.alloc (.cells #[v] t)) w.heap.size 0 [l] := by
  intro i hi
  have : i = 0 := by simp at hi; omega
  subst this
  exact ⟨v, by simp, h.later (below_alloc _ _)⟩

/-- Sum of one part. -/
theorem sum_one (w : World) (N : Nat) (v : Value) (l : List Int) (t : TypeId) (hN : N = w.heap.size) (h : Bts w v l) (hbig : l.length ≤ 1099511627776) :
    Calls Try.prog 57 #[.slice (some ⟨N, 0, none⟩) 1 1] (w.alloc (.cells #[v] t)) fun e w' => e = .returned (.int .i64 (fold16 (ws l))) ∧ w' = w.alloc (.cells #[v] t) := by
  subst hN
  have hb : isBytes l := by obtain ⟨a, cap, b, off, h1, h2, h3, h4, h5, h6⟩ := h; exact h4
  have := sum_any (some ⟨w.heap.size, 0, none⟩) w.heap.size 0 1 [l] (w.alloc (.cells #[v] t)) (by simp) (by decide) (.inl rfl) (pts_one t h) (by simpa using hbig) (by simpa using hb)
  simpa using this

end Go.Proofs.Ytdejjokgchbgnaa

namespace Go.Proofs.Ytdejjokgchbgnaa
open Go.RowKit

theorem sees_new3 (w : World) (x y z : Int) : Sees (w.alloc (.cells #[.int .u8 x, .int .u8 y, .int .u8 z] 5)) w.heap.size 0 [x, y, z] := by
  intro i hi
  have : i = 0 ∨ i = 1 ∨ i = 2 := by simp at hi; omega
  rcases this with rfl | rfl | rfl <;> simp [go_sem]

theorem bts_new1 (w : World) (N : Nat) (x : Int) (hN : N = w.heap.size) (hx : 0 ≤ x ∧ x < 256) : Bts (w.alloc (.cells #[.int .u8 x] 5)) (.slice (some ⟨N, 0, none⟩) 1 1) [x] := by
  subst hN
  refine ⟨_, 1, w.heap.size, 0, rfl, by simp, by decide, ?_, .inl rfl, ?_⟩
  · intro z hz; simp at hz; subst hz; exact hx
  · intro i hi
    have : i = 0 := by simp at hi; omega
    subst this
    simp

end Go.Proofs.Ytdejjokgchbgnaa

namespace Go.Proofs.Ytdejjokgchbgnaa
open Go.RowKit

def evenB (n : Nat) : Bool := decide (n % 2 = 0)

set_option maxHeartbeats 1000000 in
theorem rsum_any (A : Option Addr) (B O cap : Nat) (ls : List (List Int)) (w : World) (hc : ls.length ≤ cap) (hm : cap ≤ maxLen) (hA : A = some ⟨B, O, none⟩ ∨ ls = []) (hp : Pts w B O ls)
    (hbig : ls.flatten.length ≤ 1099511627776) (hbs : isBytes ls.flatten) :
    Calls Try.prog 38 #[.slice A ls.length cap] w fun e w' => e = .returned (.int .i64 (fold16 (ws ls.flatten))) ∧ w' = w := by
  unfold maxLen at hm
  go_enter Try.func38, Try.ntmps38
  go_wp2
  go_loop [3, 4, 5] (fun t s i => ∃ k : Nat, k ≤ ls.length ∧ i = .int .i64 k ∧ t = .int .u64 (ws (ls.take k).flatten) ∧ s = .bool (evenB (ls.take k).flatten.length)) (fun _ _ i => ls.length - (intOf i).toNat)
  case atStart => exact ⟨0, Nat.zero_le _, rfl, by simp [ws, wsAux], by simp [evenB]⟩
  case round =>
    obtain ⟨k, hk, rfl, rfl, rfl⟩ := hrel
    by_cases hlt : k < ls.length
    · obtain ⟨v, hcell, a, c1, b, off, rfl, q1, q2, q3, q4, q5⟩ := hp k hlt
      rcases hA with rfl | hnil
      case inr => rw [hnil] at hlt; simp at hlt
      have hfl := flatten_take_snoc ls k hlt
      have hle := flatten_take_le ls (k + 1)
      have HB : Hid (isBytes (ls.take k).flatten) := fun z hz => by
        apply hbs; rw [← List.take_append_drop k ls, List.flatten_append]; exact List.mem_append_left _ hz
      have HF : Hid ((ls.take (k + 1)).flatten = (ls.take k).flatten ++ ls.getD k []) := hfl
      have hfl2 : (ls.take k).flatten.length + (ls.getD k []).length ≤ 1099511627776 := by
        rw [hfl] at hle; simp only [List.length_append] at hle; omega
      clear hfl hle
      generalize hG : ls.getD k [] = g at *
      clear hG
      generalize hT : (ls.take k).flatten = F at *
      clear hT
      unfold maxLen at q2
      go_wp2
      go_loop [3, 4, 6] (fun t s i => ∃ j : Nat, j ≤ g.length ∧ i = .int .i64 j ∧ t = .int .u64 (ws (F ++ g.take j)) ∧ s = .bool (evenB (F.length + j))) (fun _ _ i => g.length - (intOf i).toNat)
      case atStart => exact ⟨0, Nat.zero_le _, rfl, by simp, by simp⟩
      case round =>
        obtain ⟨j, hj, rfl, rfl, rfl⟩ := hrel
        by_cases hlj : j < g.length
        · rcases q4 with rfl | hnil
          case inr => rw [hnil] at hlj; simp at hlj
          have hc2 := q5 j hlj
          have hbyte := getD_byte g q3 j
          have hwb := ws_bd (F ++ g.take j) (isBytes_append HB.out (isBytes_take q3 j))
          have hln : (F ++ g.take j).length = F.length + j := by simp; omega
          rw [hln] at hwb
          have hsn := ws_snoc (F ++ g.take j) (g.getD j 0)
          rw [List.append_assoc, ← take_snoc g j hlj, hln] at hsn
          have HS : Hid (ws (F ++ g.take (j + 1)) = ws (F ++ g.take j) + (if (F.length + j) % 2 = 0 then g.getD j 0 * 256 else g.getD j 0)) := hsn
          clear hsn hln
          generalize hX : ws (F ++ g.take j) = X at *
          generalize hC : g.getD j 0 = c at *
          clear hX hC
          obtain ⟨hb0, hb1⟩ := hbyte
          obtain ⟨hx0, hx1⟩ := hwb
          by_cases hpar : (F.length + j) % 2 = 0
          · have e1 : evenB (F.length + j) = true := by simp [evenB, hpar]
            have E2 : Hid (evenB (F.length + (j + 1)) = false) := by show evenB _ = false; unfold evenB; simp; omega
            rw [e1]
            rw [if_pos hpar] at HS
            clear e1 hpar
            go_wp2
            go_round
            case rel => exact ⟨j + 1, by omega, by go_num, by rw [HS.out], by rw [E2.out]⟩
            case measure => simp [intOf]; omega
          · have e1 : evenB (F.length + j) = false := by simp [evenB, hpar]
            have E2 : Hid (evenB (F.length + (j + 1)) = true) := by show evenB _ = true; unfold evenB; simp; omega
            rw [e1]
            rw [if_neg hpar] at HS
            clear e1 hpar
            go_wp2
            go_round
            case rel => exact ⟨j + 1, by omega, by go_num, by rw [HS.out], by rw [E2.out]⟩
            case measure => simp [intOf]; omega
        · have hje : j = g.length := by omega
          subst hje
          go_wp2
          go_round
          case rel => exact ⟨k + 1, by omega, by go_num, by rw [HF.out]; simp, by rw [HF.out]; simp⟩
          case measure => simp [intOf]; omega
    · have hke : k = ls.length := by omega
      subst hke
      have hwb := ws_bd ls.flatten hbs
      have e0 : (List.take ls.length ls) = ls := List.take_length
      rw [e0]
      clear e0
      go_wp2_with (go_at_call 54; refine (rfold_any _ _ (by omega) (by omega)).mono ?_; rintro e w' ⟨rfl, rfl⟩)
      go_ret
      exact ⟨rfl, rfl⟩
end Go.Proofs.Ytdejjokgchbgnaa

namespace Go.Proofs.Ytdejjokgchbgnaa
open Go.RowKit

theorem or64 (x : Int) (h0 : 0 ≤ x) (h1 : x < 64) : bits .or .i64 64 x = 64 + x := or_i64 6 64 x (by decide) (by decide) (by decide) h0 (by omega) (by omega)

theorem orF1 (a b : Bool) : bits .or .i64 (flagI a 16384) (flagI b 8192) = flagI a 16384 + flagI b 8192 := by
  cases a <;> cases b <;> decide

theorem orF2 (a b : Bool) (x : Int) (h0 : 0 ≤ x) (h1 : x < 8192) : bits .or .i64 (flagI a 16384 + flagI b 8192) x = (flagI a 16384 + flagI b 8192) + x :=
  or_i64 13 _ x (by cases a <;> cases b <;> decide) (by cases a <;> cases b <;> decide) (by cases a <;> cases b <;> decide) h0 (by omega) (by omega)

theorem and_two (a i : Nat) : a &&& 2 ^ i = a / 2 ^ i % 2 * 2 ^ i := by
  have h : a.testBit i = decide (a / 2 ^ i % 2 = 1) := Nat.testBit_eq_decide_div_mod_eq
  apply Nat.eq_of_testBit_eq
  intro j
  rw [Nat.testBit_and, Nat.testBit_two_pow]
  by_cases hb : a / 2 ^ i % 2 = 1
  · rw [hb, Nat.one_mul, Nat.testBit_two_pow]
    by_cases hj : i = j
    · subst hj; simp [h, hb]
    · simp [hj]
  · have h0 : a / 2 ^ i % 2 = 0 := by omega
    rw [h0, Nat.zero_mul]
    by_cases hj : i = j
    · subst hj; simp [h, h0]
    · simp [hj]

theorem bit_i64 (i : Nat) (hi : i < 62) (x : Int) (h0 : 0 ≤ x) (h1 : x < 2 ^ 62) : bits .and .i64 x (2 ^ i) = x / 2 ^ i % 2 * 2 ^ i := by
  obtain ⟨a, rfl⟩ := Int.eq_ofNat_of_zero_le h0
  have ha : a < 2 ^ 62 := by exact_mod_cast h1
  have hp : 2 ^ i < 2 ^ 62 := Nat.pow_lt_pow_right (by decide) hi
  have e1 : (BitVec.ofInt 64 (a : Int)).toNat = a := by
    rw [BitVec.ofInt_natCast, BitVec.toNat_ofNat]; exact Nat.mod_eq_of_lt (by omega)
  have e2 : (BitVec.ofInt 64 ((2 : Int) ^ i)).toNat = 2 ^ i := by
    rw [show ((2 : Int) ^ i) = ((2 ^ i : Nat) : Int) by simp, BitVec.ofInt_natCast, BitVec.toNat_ofNat]; exact Nat.mod_eq_of_lt (by omega)
  show IntKind.i64.wrap ((BitVec.ofInt 64 (a : Int) &&& BitVec.ofInt 64 ((2 : Int) ^ i)).toNat : Int) = _
  rw [BitVec.toNat_and, e1, e2, and_two]
  have hle : a / 2 ^ i % 2 * 2 ^ i < 2 ^ 62 := by
    have : a / 2 ^ i % 2 < 2 := Nat.mod_lt _ (by decide)
    rcases (show a / 2 ^ i % 2 = 0 ∨ a / 2 ^ i % 2 = 1 by omega) with h | h <;> rw [h] <;> omega
  rw [i64_id _ (by omega) (by omega)]
  simp

theorem bit15 (x : Int) (h0 : 0 ≤ x) (h1 : x < 65536) : (bits .and .i64 x 32768 != 0) = decide (32768 ≤ x) := by
  rw [show (32768 : Int) = 2 ^ 15 by decide, bit_i64 15 (by decide) x h0 (by omega)]
  by_cases h : 32768 ≤ x
  · have e : x / 2 ^ 15 % 2 * 2 ^ 15 ≠ 0 := by omega
    have e' : (x / 2 ^ 15 % 2 * 2 ^ 15 != 0) = true := by rw [bne_iff_ne]; exact e
    rw [e']; symm; simpa using h
  · have e : x / 2 ^ 15 % 2 * 2 ^ 15 = 0 := by omega
    rw [e]; symm; simpa using h

theorem bit14 (x : Int) (h0 : 0 ≤ x) (h1 : x < 65536) : (bits .and .i64 x 16384 != 0) = bit x 16384 := by
  rw [show (bits .and .i64 x 16384) = x / 2 ^ 14 % 2 * 2 ^ 14 from bit_i64 14 (by decide) x h0 (by omega)]
  unfold bit
  by_cases h : x / 16384 % 2 = 1
  · have e' : (x / 2 ^ 14 % 2 * 2 ^ 14 != 0) = true := by rw [bne_iff_ne]; omega
    rw [e']; symm; simpa using h
  · have e : x / 2 ^ 14 % 2 * 2 ^ 14 = 0 := by omega
    rw [e]; symm; simpa using h

theorem bit13 (x : Int) (h0 : 0 ≤ x) (h1 : x < 65536) : (bits .and .i64 x 8192 != 0) = bit x 8192 := by
  rw [show (bits .and .i64 x 8192) = x / 2 ^ 13 % 2 * 2 ^ 13 from bit_i64 13 (by decide) x h0 (by omega)]
  unfold bit
  by_cases h : x / 8192 % 2 = 1
  · have e' : (x / 2 ^ 13 % 2 * 2 ^ 13 != 0) = true := by rw [bne_iff_ne]; omega
    rw [e']; symm; simpa using h
  · have e : x / 2 ^ 13 % 2 * 2 ^ 13 = 0 := by omega
    rw [e]; symm; simpa using h

theorem mask13 (x : Int) (h0 : 0 ≤ x) (h1 : x < 65536) : bits .and .i64 x 8191 = x % 8192 := mask_i64 13 (by decide) x h0 (by omega)
theorem mask4 (x : Int) (h0 : 0 ≤ x) (h1 : x < 65536) : bits .and .i64 x 15 = x % 16 := mask_i64 4 (by decide) x h0 (by omega)
theorem mask4b (x : Int) (h0 : 0 ≤ x) (h1 : x < 256) : bits .and .u8 x 15 = x % 16 := mask_u8 4 (by decide) x h0 (by omega)
end Go.Proofs.Ytdejjokgchbgnaa

namespace Go.Proofs.Ytdejjokgchbgnaa
open Go.RowKit

/-- A panic of an error's number. -/
def chainOf (x : Int) : List PanicEntry := [{ v := .iface 58 (.int .i64 x), recovered := false }]

theorem refuse_no (x : Int) (w : World) : Calls Try.prog 55 #[.bool false, .int .i64 x] w fun e w' => e = .returned (.tuple #[]) ∧ w' = w := by
  go_enter Try.func55, Try.ntmps55
  go_wp2
  go_end0
  exact ⟨rfl, rfl⟩

theorem refuse_yes (x : Int) (w : World) : Calls Try.prog 55 #[.bool true, .int .i64 x] w fun e w' => e = .panicked (chainOf x) ∧ w' = w := by
  go_enter Try.func55, Try.ntmps55
  go_wp2
  exact ⟨rfl, rfl, rfl⟩

theorem refuse_no' (c : Bool) (x : Int) (w : World) (hc : c = false) : Calls Try.prog 55 #[.bool c, .int .i64 x] w fun e w' => e = .returned (.tuple #[]) ∧ w' = w := by
  subst hc; exact refuse_no x w

theorem refuse_yes' (c : Bool) (x : Int) (w : World) (hc : c = true) : Calls Try.prog 55 #[.bool c, .int .i64 x] w fun e w' => e = .panicked (chainOf x) ∧ w' = w := by
  subst hc; exact refuse_yes x w

theorem getV_bd (l : List Int) (hb : isBytes l) (p n : Int) (hn : n ≤ 4) : 0 ≤ getV l p n ∧ getV l p n < 4294967296 := by
  unfold getV
  split
  · have h := num_bd _ (isBytes_part l hb p.toNat n.toNat)
    have hle : ((l.drop p.toNat).take n.toNat).length ≤ 4 := by simp; omega
    have : (256 : Int) ^ ((l.drop p.toNat).take n.toNat).length ≤ 256 ^ 4 := by
      have h := Int.ofNat_le.2 (Nat.pow_le_pow_right (n := 256) (by decide) hle)
      rw [Int.natCast_pow, Int.natCast_pow] at h
      exact h
    have e : (256 : Int) ^ 4 = 4294967296 := by decide
    omega
  · omega

set_option maxHeartbeats 400000 in
theorem number_yes (b off len cap : Nat) (l : List Int) (p n : Int) (w : World) (hc : len ≤ cap) (hcm : cap ≤ maxLen) (hL : l.length = len) (hb : isBytes l)
    (hs : Sees w b off l) (hn : n ≤ 4) (hh : holdsB len p n = true) :
    Calls Try.prog 56 #[.slice (some ⟨b, off, none⟩) len cap, .int .i64 p, .int .i64 n] w fun e w' => e = .returned (.int .i64 (getV l p n)) ∧ w' = w := by
  have hbd := getV_bd l hb p n hn
  go_enter Try.func56, Try.ntmps56
  go_wp2_with fail
  refine (get_any _ b off len cap l p n _ hc hcm hL hb (.inl rfl) hs).mono ?_
  rintro e w' ⟨rfl, rfl⟩
  rw [hh]
  go_wp2_with fail
  refine (refuse_no _ _).mono ?_
  rintro e w' ⟨rfl, rfl⟩
  go_wp2
  go_ret
  exact ⟨rfl, rfl⟩
end Go.Proofs.Ytdejjokgchbgnaa

namespace Go.Proofs.Ytdejjokgchbgnaa
open Go.RowKit

/-- The cells of two variables that were made, in a later world. -/
theorem two_cells {v w' : World} {C C' : Array Value} {t t' : TypeId} (hb : Below ((v.alloc (.cells C t)).alloc (.cells C' t')).heap.size ((v.alloc (.cells C t)).alloc (.cells C' t')) w') :
    (∀ i x, C[i]? = some x → w'.cell? ⟨v.heap.size, i, none⟩ = some x) ∧ (∀ i, w'.frozen? ⟨v.heap.size, i, none⟩ = false) ∧
    (∀ i x, C'[i]? = some x → w'.cell? ⟨v.heap.size + 1, i, none⟩ = some x) ∧ (∀ i, w'.frozen? ⟨v.heap.size + 1, i, none⟩ = false) := by
  have hsz : ((v.alloc (.cells C t)).alloc (.cells C' t')).heap.size = v.heap.size + 1 + 1 := by simp
  have b1 : Below (v.alloc (.cells C t)).heap.size (v.alloc (.cells C t)) w' := below_trans (below_alloc _ _) hb
  refine ⟨fun i x hx => ?_, fun i => ?_, fun i x hx => ?_, fun i => ?_⟩
  · refine cell_later b1 ?_
    rw [World.cell?_alloc_mark v C t (0, 0) i]; exact hx
  · rw [b1.frozen (by simp), World.frozen?_alloc_mark v C t 0 0 i]; simp
  · refine cell_later hb ?_
    have := World.cell?_alloc_mark (v.alloc (.cells C t)) C' t' (0, 0) i
    rw [show (v.alloc (.cells C t)).heap.size = v.heap.size + 1 by simp] at this
    rw [this]; exact hx
  · rw [hb.frozen (by rw [hsz]; exact Nat.lt_succ_self _)]
    have := World.frozen?_alloc_mark (v.alloc (.cells C t)) C' t' 0 0 i
    rw [show (v.alloc (.cells C t)).heap.size = v.heap.size + 1 by simp] at this
    rw [this]; simp

theorem assert_errno (v : Value) (w : World) : (Instr.typeAssert (.iface 58 v) 20 58 false).run Try.prog w = .ok v w := by
  simp [Instr.typeAssert, run_underlying Try.underlying58]

end Go.Proofs.Ytdejjokgchbgnaa

namespace Go.Proofs.Ytdejjokgchbgnaa
open Go.RowKit

theorem or_i64_nat (a b : Nat) (ha : a < 2 ^ 62) (hb : b < 2 ^ 62) : bits .or .i64 (a : Int) (b : Int) = ((a ||| b : Nat) : Int) := by
  have hx : a ||| b < 2 ^ 62 := Nat.or_lt_two_pow ha hb
  have h1 : (BitVec.ofInt 64 (a : Int)).toNat = a := by
    rw [BitVec.ofInt_natCast, BitVec.toNat_ofNat]; exact Nat.mod_eq_of_lt (by omega)
  have h2 : (BitVec.ofInt 64 (b : Int)).toNat = b := by
    rw [BitVec.ofInt_natCast, BitVec.toNat_ofNat]; exact Nat.mod_eq_of_lt (by omega)
  show IntKind.i64.wrap ((BitVec.ofInt 64 (a : Int) ||| BitVec.ofInt 64 (b : Int)).toNat : Int) = _
  rw [BitVec.toNat_or, h1, h2, i64_id _ (by omega) (by omega)]

theorem or_a (o : Nat) (h : o < 2 ^ 13) : o ||| 16384 = o + 16384 := by
  have := Nat.two_pow_add_eq_or_of_lt h 2
  rw [show (2 : Nat) ^ 13 * 2 = 16384 by decide] at this
  rw [Nat.or_comm]; omega

theorem or_b (o : Nat) (h : o < 2 ^ 13) : o ||| 8192 = o + 8192 := by
  have := Nat.two_pow_add_eq_or_of_lt h 1
  rw [show (2 : Nat) ^ 13 * 1 = 8192 by decide] at this
  rw [Nat.or_comm]; omega

theorem or_c (o : Nat) (h : o < 2 ^ 13) : (o + 16384) ||| 8192 = o + 24576 := by
  have h3 := Nat.two_pow_add_eq_or_of_lt h 3
  rw [← or_a o h, Nat.or_assoc, show (16384 : Nat) ||| 8192 = 2 ^ 13 * 3 by decide, Nat.or_comm]
  omega

theorem orA (x : Int) (h0 : 0 ≤ x) (h1 : x ≤ 8191) : bits .or .i64 x 16384 = x + 16384 := by
  obtain ⟨o, rfl⟩ := Int.eq_ofNat_of_zero_le h0
  have := or_i64_nat o 16384 (by omega) (by omega)
  rw [or_a o (by omega)] at this
  simpa using this

theorem orB (x : Int) (h0 : 0 ≤ x) (h1 : x ≤ 8191) : bits .or .i64 x 8192 = x + 8192 := by
  obtain ⟨o, rfl⟩ := Int.eq_ofNat_of_zero_le h0
  have := or_i64_nat o 8192 (by omega) (by omega)
  rw [or_b o (by omega)] at this
  simpa using this

theorem orC (x : Int) (h0 : 0 ≤ x) (h1 : x ≤ 8191) : bits .or .i64 (x + 16384) 8192 = x + 24576 := by
  obtain ⟨o, rfl⟩ := Int.eq_ofNat_of_zero_le h0
  have := or_i64_nat (o + 16384) 8192 (by omega) (by omega)
  rw [or_c o (by omega)] at this
  simpa using this

/-- The header as the document lays it, the check not yet there. -/
def rhead (p : Dg) : List Int :=
  [64 + (20 + (p.opts.length : Int)) / 4, p.tos, totalI p / 256 % 256, totalI p % 256, p.id / 256 % 256, p.id % 256, flagsI p / 256 % 256, flagsI p % 256, p.ttl, p.proto, 0, 0,
   p.src / 16777216, p.src / 65536 % 256, p.src / 256 % 256, p.src % 256, p.dst / 16777216, p.dst / 65536 % 256, p.dst / 256 % 256, p.dst % 256]

theorem rhead_eq (p : Dg) (k : p.Ok) (f : Fits p) : rhead p ++ p.opts = headB p 0 := by
  obtain ⟨⟨a1, a2⟩, ⟨b1, b2⟩, ⟨c1, c2⟩, ⟨d1, d2⟩, ⟨e1, e2⟩, o40, o4, _⟩ := f
  have k1 := k.src0
  have k2 := k.src1
  have k3 := k.dst0
  have k4 := k.dst1
  have z0 : (64 + (20 + (p.opts.length : Int)) / 4) % 256 = 64 + (20 + (p.opts.length : Int)) / 4 := by omega
  have z1 : p.tos % 256 = p.tos := by omega
  have z2 : p.ttl % 256 = p.ttl := by omega
  have z3 : p.proto % 256 = p.proto := by omega
  have z4 : p.src / 256 / 256 / 256 % 256 = p.src / 16777216 := by omega
  have z5 : p.src / 256 / 256 % 256 = p.src / 65536 % 256 := by omega
  have z6 : p.dst / 256 / 256 / 256 % 256 = p.dst / 16777216 := by omega
  have z7 : p.dst / 256 / 256 % 256 = p.dst / 65536 % 256 := by omega
  unfold headB
  rw [z0, z1, z2, z3, z4, z5, z6, z7]
  rfl

theorem rcheck (p : Dg) : ((headB p 0).set 10 (checkI p / 256)).set 11 (checkI p % 256) = headB p (checkI p) := by
  have := check_bd p
  have z : checkI p / 256 % 256 = checkI p / 256 := by omega
  show _ = _ :: _ :: _ :: _ :: _ :: _ :: _ :: _ :: _ :: _ :: checkI p / 256 % 256 :: _
  rw [z]
  rfl
end Go.Proofs.Ytdejjokgchbgnaa

namespace Go.Proofs.Ytdejjokgchbgnaa

theorem cons_of_len (l : List Int) (n : Nat) (h : n + 1 ≤ l.length) : ∃ a t, l = a :: t ∧ n ≤ t.length := by
  cases l with
  | nil => simp at h
  | cons a t => exact ⟨a, t, rfl, by simpa using h⟩

theorem flags_back (F : Int) (h0 : 0 ≤ F) (h1 : F < 32768) : flagI (bit F 16384) 16384 + flagI (bit F 8192) 8192 + F % 8192 = F := by
  unfold flagI bit
  simp only [decide_eq_true_eq]
  split <;> split <;> omega

theorem dg_ok (l : List Int) (hb : isBytes l) : (dgOf l).Ok := by
  have q : ∀ k, 0 ≤ l.getD k 0 ∧ l.getD k 0 < 256 := fun k => getD_byte l hb k
  constructor
  · show 0 ≤ ((l.getD 12 0 * 256 + l.getD 13 0) * 256 + l.getD 14 0) * 256 + l.getD 15 0
    have := q 12; have := q 13; have := q 14; have := q 15
    omega
  · show ((l.getD 12 0 * 256 + l.getD 13 0) * 256 + l.getD 14 0) * 256 + l.getD 15 0 < _
    have := q 12; have := q 13; have := q 14; have := q 15
    omega
  · show 0 ≤ ((l.getD 16 0 * 256 + l.getD 17 0) * 256 + l.getD 18 0) * 256 + l.getD 19 0
    have := q 16; have := q 17; have := q 18; have := q 19
    omega
  · show ((l.getD 16 0 * 256 + l.getD 17 0) * 256 + l.getD 18 0) * 256 + l.getD 19 0 < _
    have := q 16; have := q 17; have := q 18; have := q 19
    omega
  · exact isBytes_part l hb _ _
  · exact isBytes_part l hb _ _

theorem dg_total (l : List Int) (g : Good l) : totalI (dgOf l) = w2 l 2 ∧ ((dgOf l).opts.length : Int) = hdOf l - 20 := by
  obtain ⟨g1, g2, g3, g4, g5, g6, g7, g8, g9⟩ := g
  have e1 : (dgOf l).opts.length = (hdOf l).toNat - 20 := by show ((l.drop 20).take _).length = _; simp; omega
  have e2 : (dgOf l).body.length = (w2 l 2).toNat - (hdOf l).toNat := by show ((l.drop _).take _).length = _; simp; omega
  unfold totalI
  omega

theorem dg_fits (l : List Int) (hb : isBytes l) (g : Good l) : Fits (dgOf l) := by
  have ⟨t1, t2⟩ := dg_total l g
  have q : ∀ k, 0 ≤ l.getD k 0 ∧ l.getD k 0 < 256 := fun k => getD_byte l hb k
  have g1 := g.a
  have g8 := g.h
  have g4 := g.d
  have hd : hdOf l = l.getD 0 0 % 16 * 4 := rfl
  constructor
  · show 0 ≤ l.getD 1 0 ∧ l.getD 1 0 ≤ 255; have := q 1; omega
  · show 0 ≤ l.getD 8 0 ∧ l.getD 8 0 ≤ 255; have := q 8; omega
  · show 0 ≤ l.getD 9 0 ∧ l.getD 9 0 ≤ 255; have := q 9; omega
  · show 0 ≤ l.getD 4 0 * 256 + l.getD 5 0 ∧ l.getD 4 0 * 256 + l.getD 5 0 ≤ 65535
    have := q 4; have := q 5
    omega
  · show 0 ≤ w2 l 6 % 8192 ∧ w2 l 6 % 8192 ≤ 8191; omega
  · omega
  · omega
  · omega

theorem head_again (l : List Int) (hb : isBytes l) (g : Good l) : headB (dgOf l) (w2 l 10) = l.take (hdOf l).toNat := by
  have ⟨t1, t2⟩ := dg_total l g
  have f := dg_fits l hb g
  have fb : flagsI (dgOf l) = w2 l 6 := by
    have h1 := getD_byte l hb 6
    have h2 := getD_byte l hb 7
    have hw : w2 l 6 = l.getD 6 0 * 256 + l.getD 7 0 := rfl
    exact flags_back (w2 l 6) (by omega) g.g
  have q : ∀ k, 0 ≤ l.getD k 0 ∧ l.getD k 0 < 256 := fun k => getD_byte l hb k
  obtain ⟨g1, g2, g3, g4, g5, g6, g7, g8, g9⟩ := g
  unfold headB
  rw [t1, t2, fb]
  obtain ⟨k, hk⟩ : ∃ k, (hdOf l).toNat = k + 20 := ⟨(hdOf l).toNat - 20, by omega⟩
  have hopt : (dgOf l).opts = (l.drop 20).take k := by show (l.drop 20).take ((hdOf l).toNat - 20) = _; rw [hk, Nat.add_sub_cancel]
  rw [hopt, hk]
  have hh : hdOf l = b1 l 0 % 16 * 4 := rfl
  have z0 : (64 + (20 + (hdOf l - 20)) / 4) % 256 = l.getD 0 0 := by
    have := q 0
    have e : b1 l 0 = l.getD 0 0 := rfl
    rw [hh, e]
    rw [e] at g3
    omega
  have z1 : (dgOf l).tos % 256 = l.getD 1 0 := by have := q 1; show l.getD 1 0 % 256 = _; omega
  have z2 : w2 l 2 / 256 % 256 = l.getD 2 0 := by have := q 2; have := q 3; show (l.getD 2 0 * 256 + l.getD 3 0) / 256 % 256 = _; omega
  have z3 : w2 l 2 % 256 = l.getD 3 0 := by have := q 2; have := q 3; show (l.getD 2 0 * 256 + l.getD 3 0) % 256 = _; omega
  have z4 : (dgOf l).id / 256 % 256 = l.getD 4 0 := by have := q 4; have := q 5; show (l.getD 4 0 * 256 + l.getD 5 0) / 256 % 256 = _; omega
  have z5 : (dgOf l).id % 256 = l.getD 5 0 := by have := q 4; have := q 5; show (l.getD 4 0 * 256 + l.getD 5 0) % 256 = _; omega
  have z6 : w2 l 6 / 256 % 256 = l.getD 6 0 := by have := q 6; have := q 7; show (l.getD 6 0 * 256 + l.getD 7 0) / 256 % 256 = _; omega
  have z7 : w2 l 6 % 256 = l.getD 7 0 := by have := q 6; have := q 7; show (l.getD 6 0 * 256 + l.getD 7 0) % 256 = _; omega
  have z8 : (dgOf l).ttl % 256 = l.getD 8 0 := by have := q 8; show l.getD 8 0 % 256 = _; omega
  have z9 : (dgOf l).proto % 256 = l.getD 9 0 := by have := q 9; show l.getD 9 0 % 256 = _; omega
  have z10 : w2 l 10 / 256 % 256 = l.getD 10 0 := by have := q 10; have := q 11; show (l.getD 10 0 * 256 + l.getD 11 0) / 256 % 256 = _; omega
  have z11 : w2 l 10 % 256 = l.getD 11 0 := by have := q 10; have := q 11; show (l.getD 10 0 * 256 + l.getD 11 0) % 256 = _; omega
  have s0 := q 12
  have s1 := q 13
  have s2 := q 14
  have s3 := q 15
  have z12 : (dgOf l).src / 256 / 256 / 256 % 256 = l.getD 12 0 := by show (((l.getD 12 0 * 256 + l.getD 13 0) * 256 + l.getD 14 0) * 256 + l.getD 15 0) / 256 / 256 / 256 % 256 = _; omega
  have z13 : (dgOf l).src / 256 / 256 % 256 = l.getD 13 0 := by show (((l.getD 12 0 * 256 + l.getD 13 0) * 256 + l.getD 14 0) * 256 + l.getD 15 0) / 256 / 256 % 256 = _; omega
  have z14 : (dgOf l).src / 256 % 256 = l.getD 14 0 := by show (((l.getD 12 0 * 256 + l.getD 13 0) * 256 + l.getD 14 0) * 256 + l.getD 15 0) / 256 % 256 = _; omega
  have z15 : (dgOf l).src % 256 = l.getD 15 0 := by show (((l.getD 12 0 * 256 + l.getD 13 0) * 256 + l.getD 14 0) * 256 + l.getD 15 0) % 256 = _; omega
  have d0 := q 16
  have d1 := q 17
  have d2 := q 18
  have d3 := q 19
  have z16 : (dgOf l).dst / 256 / 256 / 256 % 256 = l.getD 16 0 := by show (((l.getD 16 0 * 256 + l.getD 17 0) * 256 + l.getD 18 0) * 256 + l.getD 19 0) / 256 / 256 / 256 % 256 = _; omega
  have z17 : (dgOf l).dst / 256 / 256 % 256 = l.getD 17 0 := by show (((l.getD 16 0 * 256 + l.getD 17 0) * 256 + l.getD 18 0) * 256 + l.getD 19 0) / 256 / 256 % 256 = _; omega
  have z18 : (dgOf l).dst / 256 % 256 = l.getD 18 0 := by show (((l.getD 16 0 * 256 + l.getD 17 0) * 256 + l.getD 18 0) * 256 + l.getD 19 0) / 256 % 256 = _; omega
  have z19 : (dgOf l).dst % 256 = l.getD 19 0 := by show (((l.getD 16 0 * 256 + l.getD 17 0) * 256 + l.getD 18 0) * 256 + l.getD 19 0) % 256 = _; omega
  rw [z0, z1, z2, z3, z4, z5, z6, z7, z8, z9, z10, z11, z12, z13, z14, z15, z16, z17, z18, z19]
  clear z0 z1 z2 z3 z4 z5 z6 z7 z8 z9 z10 z11 z12 z13 z14 z15 z16 z17 z18 z19 q t1 t2 f fb hopt hh g3 g4 g5 g6 g7 g8 g9 g1 hk hb s0 s1 s2 s3 d0 d1 d2 d3
  obtain ⟨a0, r0, rfl, p0⟩ := cons_of_len l 19 g2
  obtain ⟨a1, r1, rfl, p1⟩ := cons_of_len r0 18 p0
  obtain ⟨a2, r2, rfl, p2⟩ := cons_of_len r1 17 p1
  obtain ⟨a3, r3, rfl, p3⟩ := cons_of_len r2 16 p2
  obtain ⟨a4, r4, rfl, p4⟩ := cons_of_len r3 15 p3
  obtain ⟨a5, r5, rfl, p5⟩ := cons_of_len r4 14 p4
  obtain ⟨a6, r6, rfl, p6⟩ := cons_of_len r5 13 p5
  obtain ⟨a7, r7, rfl, p7⟩ := cons_of_len r6 12 p6
  obtain ⟨a8, r8, rfl, p8⟩ := cons_of_len r7 11 p7
  obtain ⟨a9, r9, rfl, p9⟩ := cons_of_len r8 10 p8
  obtain ⟨a10, r10, rfl, p10⟩ := cons_of_len r9 9 p9
  obtain ⟨a11, r11, rfl, p11⟩ := cons_of_len r10 8 p10
  obtain ⟨a12, r12, rfl, p12⟩ := cons_of_len r11 7 p11
  obtain ⟨a13, r13, rfl, p13⟩ := cons_of_len r12 6 p12
  obtain ⟨a14, r14, rfl, p14⟩ := cons_of_len r13 5 p13
  obtain ⟨a15, r15, rfl, p15⟩ := cons_of_len r14 4 p14
  obtain ⟨a16, r16, rfl, p16⟩ := cons_of_len r15 3 p15
  obtain ⟨a17, r17, rfl, p17⟩ := cons_of_len r16 2 p16
  obtain ⟨a18, r18, rfl, p18⟩ := cons_of_len r17 1 p17
  obtain ⟨a19, r19, rfl, p19⟩ := cons_of_len r18 0 p18
  rfl

/-- What IpAgain makes of the bytes: a check of 65535 is 0. -/
def fixL (m : List Int) : List Int := if m.getD 10 0 = 255 ∧ m.getD 11 0 = 255 then (m.set 10 0).set 11 0 else m

theorem head_zero (p : Dg) (c : Int) : headB p 0 = ((headB p c).set 10 0).set 11 0 := rfl

theorem built_again (l : List Int) (hb : isBytes l) (g : Good l) : built (dgOf l) = fixL (l.take (w2 l 2).toNat) := by
  have hh := head_again l hb g
  have k := dg_ok l hb
  have f := dg_fits l hb g
  have hw : w2 l 10 = l.getD 10 0 * 256 + l.getD 11 0 := rfl
  have q10 := getD_byte l hb 10
  have q11 := getD_byte l hb 11
  have hs := ws_head (dgOf l) (w2 l 10) (by omega) (by omega)
  have hpos := ws_head_pos (dgOf l) k.opts f.o40
  obtain ⟨g1, g2, g3, g4, g5, g6, g7, g8, g9⟩ := g
  rw [← hh, hs] at g9
  have hT : l.take (w2 l 2).toNat = l.take (hdOf l).toNat ++ (dgOf l).body := by
    show _ = _ ++ (l.drop (hdOf l).toNat).take ((w2 l 2).toNat - (hdOf l).toNat)
    rw [← List.take_add]
    congr 1
    omega
  have e10 : (l.take (w2 l 2).toNat).getD 10 0 = l.getD 10 0 := by
    have : 10 < (w2 l 2).toNat := by omega
    simp [List.getD, this]
  have e11 : (l.take (w2 l 2).toNat).getD 11 0 = l.getD 11 0 := by
    have : 11 < (w2 l 2).toNat := by omega
    simp [List.getD, this]
  unfold fixL
  rw [e10, e11]
  unfold built
  have hck : checkI (dgOf l) = 65535 - fold16 (ws (headB (dgOf l) 0)) := by unfold checkI; rw [turn_fold]
  by_cases hff : l.getD 10 0 = 255 ∧ l.getD 11 0 = 255
  · rw [if_pos hff, hT, ← hh]
    have h0 : checkI (dgOf l) = 0 := by
      rw [hck]
      unfold fold16 at g9 ⊢
      split at g9 <;> split <;> omega
    rw [h0, head_zero (dgOf l) (w2 l 10)]
    have hlen := head_length (dgOf l) (w2 l 10)
    rw [List.set_append_left _ _ (by rw [hlen]; omega), List.set_append_left _ _ (by rw [List.length_set, hlen]; omega)]
  · rw [if_neg hff, hT, ← hh]
    have h0 : checkI (dgOf l) = w2 l 10 := by
      rw [hck]
      unfold fold16 at g9 ⊢
      split at g9 <;> split <;> omega
    rw [h0]

/-- One byte of the header that is another is found. -/
theorem turned_bad (p : Dg) (k : p.Ok) (f : Fits p) (i : Nat) (y : Int) (hi : i < 20 + p.opts.length) (hy0 : 0 ≤ y) (hy1 : y < 256) (hne : y ≠ (built p).getD i 0) (h0 : i = 0 → y / 16 ≠ 4) : ¬ parseE ((built p).set i y) = 0 := by
  intro hp
  have g := good_of _ hp
  have hlen : (headB p (checkI p)).length = 20 + p.opts.length := head_length _ _
  have hgd : (built p).getD i 0 = (headB p (checkI p)).getD i 0 := by
    unfold built
    simp [List.getD, List.getElem?_append_left (show i < (headB p (checkI p)).length by omega)]
  have hb := built_bytes p k
  have hz := getD_byte (built p) hb i
  have h1 := headLen p (checkI p) p.body f
  have hse : (built p).set i y = (headB p (checkI p)).set i y ++ p.body := by unfold built; rw [List.set_append_left _ _ (by omega)]
  rcases Nat.eq_zero_or_pos i with rfl | hpos
  · have e : b1 ((built p).set 0 y) 0 = y := rfl
    have := g.c
    rw [e] at this
    exact h0 rfl this
  · obtain ⟨j, rfl⟩ : ∃ j, i = j + 1 := ⟨i - 1, by omega⟩
    have e : hdOf ((built p).set (j + 1) y) = hdOf (built p) := rfl
    have e2 : hdOf (built p) = 20 + p.opts.length := h1
    have g9 := g.i
    rw [e, e2, hse, show (20 + (p.opts.length : Int)).toNat = ((headB p (checkI p)).set (j + 1) y).length by rw [List.length_set, hlen]; omega, List.take_left] at g9
    have hs := wsAux_set 0 (headB p (checkI p)) (j + 1) y (by omega)
    have hsum := sum_head p k.opts f.o40
    have hp0 := ws_head_pos p k.opts f.o40
    have hc := check_bd p
    have hw := ws_head p (checkI p) hc.1 hc.2
    rw [hgd] at hne hz
    unfold ws at *
    rw [hs] at g9
    generalize wsAux 0 (headB p (checkI p)) = S at *
    generalize (headB p (checkI p)).getD (j + 1) 0 = z at *
    unfold fold16 at g9 hsum
    split at g9 <;> split at g9 <;> split at hsum <;> omega
end Go.Proofs.Ytdejjokgchbgnaa
