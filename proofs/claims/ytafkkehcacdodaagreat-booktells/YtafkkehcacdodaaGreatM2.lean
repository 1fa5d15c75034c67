/- The contracts of the functions that only reckon: fold, turned, Plus, Update, in octet and in the document's own answer. -/
import Derived.Test.YtafkkehcacdodaaGreatRows
import Derived.Test.YtafkkehcacdodaaGreatM1
import Derived.WalkKit
import Derived.WalkSpells
import Derived.WalkLawsBesides
import Derived.Laws.BitsAllLaws
import Derived.Defers
import Derived.Recover
import Derived.Laws.Pointers
import Derived.Laws.IdiomStrings
import Derived.RegionTactic
import Derived.ChangeAlike
import Derived.BigRegion
set_option maxRecDepth 100000
namespace Go.Proofs.YtafkkehcacdodaaGreat
open Go.RowKit

theorem ret_int {k : IntKind} {a b : Int} (h : a = b) : Ending.returned (.int k a) = .returned (.int k b) := by rw [h]

theorem u64_and16 (x : Int) : bits .and .u64 x 65535 = x % 65536 := by
  have h1 : (BitVec.ofInt 64 65535).toNat = 2 ^ 16 - 1 := by decide
  have key : (BitVec.ofInt 64 x &&& BitVec.ofInt 64 65535).toNat = (x % ((2 ^ 64 : Nat) : Int)).toNat % 2 ^ 16 := by
    rw [BitVec.toNat_and, BitVec.toNat_ofInt, h1, Nat.and_two_pow_sub_one_eq_mod]
  show IntKind.u64.wrap ((BitVec.ofInt 64 x &&& BitVec.ofInt 64 65535).toNat : Nat) = _
  rw [key, IntKind.wrap_u64]
  omega
theorem i64_and16 (x : Int) : bits .and .i64 x 65535 = x % 65536 := by
  have h1 : (BitVec.ofInt 64 65535).toNat = 2 ^ 16 - 1 := by decide
  have key : (BitVec.ofInt 64 x &&& BitVec.ofInt 64 65535).toNat = (x % ((2 ^ 64 : Nat) : Int)).toNat % 2 ^ 16 := by
    rw [BitVec.toNat_and, BitVec.toNat_ofInt, h1, Nat.and_two_pow_sub_one_eq_mod]
  show IntKind.i64.wrap ((BitVec.ofInt 64 x &&& BitVec.ofInt 64 65535).toNat : Nat) = _
  rw [key, IntKind.wrap_i64]
  omega
attribute [local go_sem] u64_and16 i64_and16

theorem u64_id (x : Int) (h0 : 0 ≤ x) (h1 : x < 18446744073709551616) : IntKind.u64.wrap x = x := by rw [IntKind.wrap_u64]; omega

end Go.Proofs.YtafkkehcacdodaaGreat

namespace Go.Proofs.YtafkkehcacdodaaGreat
open Go.RowKit

def holdsB (len : Nat) (at_ n : Int) : Bool := decide (1 ≤ n ∧ n ≤ 8 ∧ 0 ≤ at_ ∧ at_ ≤ len - n)

theorem ret_bool {a b : Bool} (h : a = b) : Ending.returned (.bool a) = .returned (.bool b) := by rw [h]

set_option maxHeartbeats 400000 in
theorem holds_any (a : Option Addr) (len cap : Nat) (p n : Int) (w : World) (hl : len ≤ maxLen) :
    Calls Tryz.prog 141 #[.slice a len cap, .int .i64 p, .int .i64 n] w fun e w' => e = .returned (.bool (holdsB len p n)) ∧ w' = w := by
  unfold maxLen at hl
  by_cases h1 : 1 ≤ n
  · by_cases h2 : n ≤ 8
    · by_cases h3 : 0 ≤ p
      · go_enter Tryz.func141, Tryz.ntmps141
        go_wp2
        go_ret
        exact ⟨ret_bool (by unfold holdsB; simp [h1, h2, h3]), rfl⟩
      · go_enter Tryz.func141, Tryz.ntmps141
        go_wp2
        go_ret
        exact ⟨ret_bool (by unfold holdsB; simp; omega), rfl⟩
    · go_enter Tryz.func141, Tryz.ntmps141
      go_wp2
      go_ret
      exact ⟨ret_bool (by unfold holdsB; simp; omega), rfl⟩
  · go_enter Tryz.func141, Tryz.ntmps141
    go_wp2
    go_ret
    exact ⟨ret_bool (by unfold holdsB; simp; omega), rfl⟩

/-- The number of bytes, the highest first. -/
def num (l : List Int) : Int := l.foldl (fun x c => x * 256 + c) 0

theorem num_snoc (l : List Int) (c : Int) : num (l ++ [c]) = num l * 256 + c := by unfold num; simp

theorem num_bd (l : List Int) (h : isBytes l) : 0 ≤ num l ∧ num l < 256 ^ l.length := by
  suffices H : ∀ (l : List Int) (x : Int) (m : Nat), isBytes l → 0 ≤ x → x < 256 ^ m → 0 ≤ l.foldl (fun x c => x * 256 + c) x ∧ l.foldl (fun x c => x * 256 + c) x < 256 ^ (m + l.length) by
    have := H l 0 0 h (by omega) (by simp)
    simpa [num] using this
  intro l
  induction l with
  | nil => intro x m _ h0 h1; simpa using ⟨h0, h1⟩
  | cons c l ih =>
    intro x m hb h0 h1
    have hc := hb c (by simp)
    have := ih (x * 256 + c) (m + 1) (fun z hz => hb z (by simp [hz])) (by omega) (by rw [Int.pow_succ]; omega)
    simpa [Nat.add_comm, Nat.add_left_comm, Nat.add_assoc] using this

/-- The bytes that a slice shows: it leads to a row of cells. -/
def Sees (w : World) (b off : Nat) (l : List Int) : Prop := ∀ i, i < l.length → w.cell? ⟨b, off + i, none⟩ = some (.int .u8 (l.getD i 0))

set_option maxHeartbeats 400000 in
theorem get_no (a : Option Addr) (len cap : Nat) (p n : Int) (w : World) (hl : len ≤ maxLen) (h : holdsB len p n = false) :
    Calls Tryz.prog 115 #[.slice a len cap, .int .i64 p, .int .i64 n] w fun e w' => e = .returned (.tuple #[.int .u64 0, .bool false]) ∧ w' = w := by
  go_enter Tryz.func115, Tryz.ntmps115
  go_wp2_with (go_at_call 141; refine (holds_any _ _ _ _ _ _ hl).mono ?_; rintro e w' ⟨rfl, rfl⟩)
  go_ret2
  exact ⟨rfl, rfl⟩

theorem or_low (x c : Int) (h0 : 0 ≤ x) (h1 : x < 72057594037927936) (h2 : 0 ≤ c) (h3 : c < 256) : bits .or .u64 (x * 256) c = x * 256 + c :=
  bits_join .u64 64 (by decide) (fun n a b => u64_id n a b) 8 (x * 256) c (by omega) (by omega) (by omega) h2 (by omega) (by omega)

theorem take_next (l : List Int) (p k : Nat) (h : p + k < l.length) : (l.drop p).take (k + 1) = (l.drop p).take k ++ [l.getD (p + k) 0] := by
  rw [List.take_succ_eq_append_getElem (by simp; omega)]
  simp [List.getElem_drop, List.getElem?_eq_getElem h]

theorem isBytes_part (l : List Int) (hb : isBytes l) (p n : Nat) : isBytes ((l.drop p).take n) :=
  fun z hz => hb z (List.mem_of_mem_drop (List.mem_of_mem_take hz))

theorem num_small (l : List Int) (hb : isBytes l) (p k : Nat) (hk : k ≤ 7) : 0 ≤ num ((l.drop p).take k) ∧ num ((l.drop p).take k) < 72057594037927936 := by
  have h := num_bd _ (isBytes_part l hb p k)
  have hle : ((l.drop p).take k).length ≤ 7 := by simp; omega
  have : (256 : Int) ^ ((l.drop p).take k).length ≤ 256 ^ 7 := by
    have h := Int.ofNat_le.2 (Nat.pow_le_pow_right (n := 256) (by decide) hle)
    rw [Int.natCast_pow, Int.natCast_pow] at h
    exact h
  exact ⟨h.1, by have e : (256 : Int) ^ 7 = 72057594037927936 := by decide
                 omega⟩

set_option maxHeartbeats 400000 in
theorem get_yes (b off len cap : Nat) (l : List Int) (p n : Nat) (w : World) (hl : len ≤ maxLen) (hc : len ≤ cap) (hcm : cap ≤ maxLen) (hL : l.length = len) (hb : isBytes l)
    (hs : Sees w b off l) (h1 : 1 ≤ n) (h2 : n ≤ 8) (h3 : p + n ≤ len) :
    Calls Tryz.prog 115 #[.slice (some ⟨b, off, none⟩) len cap, .int .i64 p, .int .i64 n] w fun e w' => e = .returned (.tuple #[.int .u64 (num ((l.drop p).take n)), .bool true]) ∧ w' = w := by
  have hh : holdsB len p n = true := by unfold holdsB; simp; omega
  unfold maxLen at hl hcm
  have HL : Hid (l.length = len) := hL
  clear hL
  go_enter Tryz.func115, Tryz.ntmps115
  go_wp2_with (go_at_call 141; refine (holds_any _ _ _ _ _ _ (by unfold maxLen; exact hl)).mono ?_; rintro e w' ⟨rfl, rfl⟩)
  go_loop [8, 23] (fun x i => ∃ k : Nat, k ≤ n ∧ i = .int .i64 k ∧ x = .int .u64 (num ((l.drop p).take k))) (fun _ i => n - (intOf i).toNat)
  case atStart => exact ⟨0, Nat.zero_le _, rfl, by simp [num]⟩
  case round =>
    obtain ⟨k, hk, rfl, rfl⟩ := hrel
    by_cases hlt : k < n
    · have hcell := hs (p + k) (by rw [HL.out]; omega)
      have hbyte := getD_byte l hb (p + k)
      have hnb := num_small l hb p k (by omega)
      have hnext := num_snoc ((l.drop p).take k) (l.getD (p + k) 0)
      rw [← take_next l p k (by rw [HL.out]; omega)] at hnext
      have HN : Hid (num ((l.drop p).take (k + 1)) = num ((l.drop p).take k) * 256 + l.getD (p + k) 0) := hnext
      clear hnext
      generalize hX : num ((l.drop p).take k) = X at *
      generalize hC : l.getD (p + k) 0 = c at *
      clear hX hC
      rw [← Nat.add_assoc] at hcell
      obtain ⟨hc0, hc1⟩ := hbyte
      obtain ⟨hx0, hx1⟩ := hnb
      have hor := or_low X c hx0 hx1 hc0 hc1
      go_wp2
      go_round
      case rel => exact ⟨k + 1, by omega, by go_num, by rw [HN.out]⟩
      case measure => simp [intOf]; omega
    · have hkn : k = n := by omega
      subst hkn
      go_wp2
      go_ret2
      exact ⟨rfl, rfl⟩

/-- What Get answers. -/
def getV (l : List Int) (p n : Int) : Int := if holdsB l.length p n then num ((l.drop p.toNat).take n.toNat) else 0

theorem get_any (a : Option Addr) (b off len cap : Nat) (l : List Int) (p n : Int) (w : World) (hc : len ≤ cap) (hcm : cap ≤ maxLen) (hL : l.length = len) (hb : isBytes l)
    (ha : a = some ⟨b, off, none⟩ ∨ l = []) (hs : Sees w b off l) :
    Calls Tryz.prog 115 #[.slice a len cap, .int .i64 p, .int .i64 n] w fun e w' => e = .returned (.tuple #[.int .u64 (getV l p n), .bool (holdsB len p n)]) ∧ w' = w := by
  have hl : len ≤ maxLen := Nat.le_trans hc hcm
  cases hh : holdsB len p n
  · have e : getV l p n = 0 := by unfold getV; rw [hL, hh]; rfl
    rw [e]
    exact get_no a len cap p n w hl hh
  · have e : getV l p n = num ((l.drop p.toNat).take n.toNat) := by unfold getV; rw [hL, hh]; rfl
    rw [e]
    unfold holdsB at hh
    have hd := of_decide_eq_true hh
    obtain ⟨p', rfl⟩ := Int.eq_ofNat_of_zero_le hd.2.2.1
    obtain ⟨n', rfl⟩ := Int.eq_ofNat_of_zero_le (Int.le_trans (by decide) hd.1)
    rcases ha with rfl | rfl
    · exact get_yes b off len cap l p' n' w hl hc hcm hL hb hs (by omega) (by omega) (by omega)
    · simp at hL; omega

set_option maxHeartbeats 400000 in
theorem rget_no (a : Option Addr) (len cap : Nat) (p n : Int) (w : World) (hl : len ≤ maxLen) (h : holdsB len p n = false) :
    Calls Tryz.prog 77 #[.slice a len cap, .int .i64 p, .int .i64 n] w fun e w' => e = .returned (.tuple #[.int .u64 0, .bool false]) ∧ w' = w := by
  unfold maxLen at hl
  unfold holdsB at h
  have h := of_decide_eq_false h
  by_cases h1 : n < 1
  · go_enter Tryz.func77, Tryz.ntmps77
    go_wp2
    go_ret2
    exact ⟨rfl, rfl⟩
  by_cases h2 : 8 < n
  · go_enter Tryz.func77, Tryz.ntmps77
    go_wp2
    go_ret2
    exact ⟨rfl, rfl⟩
  by_cases h3 : p < 0
  · go_enter Tryz.func77, Tryz.ntmps77
    go_wp2
    go_ret2
    exact ⟨rfl, rfl⟩
  have h4 : (len : Int) - n < p := by omega
  clear h
  go_enter Tryz.func77, Tryz.ntmps77
  go_wp2
  go_ret2
  exact ⟨rfl, rfl⟩

set_option maxHeartbeats 400000 in
theorem rget_yes (b off len cap : Nat) (l : List Int) (p n : Nat) (w : World) (hl : len ≤ maxLen) (hL : l.length = len) (hb : isBytes l)
    (hs : Sees w b off l) (h1 : 1 ≤ n) (h2 : n ≤ 8) (h3 : p + n ≤ len) :
    Calls Tryz.prog 77 #[.slice (some ⟨b, off, none⟩) len cap, .int .i64 p, .int .i64 n] w fun e w' => e = .returned (.tuple #[.int .u64 (num ((l.drop p).take n)), .bool true]) ∧ w' = w := by
  unfold maxLen at hl
  have HL : Hid (l.length = len) := hL
  clear hL
  have g1 : ¬ (n : Int) < 1 := by omega
  have g2 : ¬ (8 : Int) < n := by omega
  have g3 : ¬ (p : Int) < 0 := by omega
  have g4 : ¬ (len : Int) - n < p := by omega
  go_enter Tryz.func77, Tryz.ntmps77
  go_wp2
  go_loop [8, 9] (fun x i => ∃ k : Nat, k ≤ n ∧ i = .int .i64 k ∧ x = .int .u64 (num ((l.drop p).take k))) (fun _ i => n - (intOf i).toNat)
  case atStart => exact ⟨0, Nat.zero_le _, rfl, by simp [num]⟩
  case round =>
    obtain ⟨k, hk, rfl, rfl⟩ := hrel
    by_cases hlt : k < n
    · have hcell := hs (p + k) (by rw [HL.out]; omega)
      have hbyte := getD_byte l hb (p + k)
      have hnb := num_small l hb p k (by omega)
      have hnext := num_snoc ((l.drop p).take k) (l.getD (p + k) 0)
      rw [← take_next l p k (by rw [HL.out]; omega)] at hnext
      have HN : Hid (num ((l.drop p).take (k + 1)) = num ((l.drop p).take k) * 256 + l.getD (p + k) 0) := hnext
      clear hnext
      generalize hX : num ((l.drop p).take k) = X at *
      generalize hC : l.getD (p + k) 0 = c at *
      clear hX hC
      obtain ⟨hc0, hc1⟩ := hbyte
      obtain ⟨hx0, hx1⟩ := hnb
      have hor := or_low X c hx0 hx1 hc0 hc1
      have hpk : (p : Int) + k < len := by omega
      go_wp2
      go_round
      case rel => exact ⟨k + 1, by omega, by go_num, by rw [HN.out]⟩
      case measure => simp [intOf]; omega
    · have hkn : k = n := by omega
      subst hkn
      go_wp2
      go_ret2
      exact ⟨rfl, rfl⟩

theorem rget_any (a : Option Addr) (b off len cap : Nat) (l : List Int) (p n : Int) (w : World) (hc : len ≤ cap) (hcm : cap ≤ maxLen) (hL : l.length = len) (hb : isBytes l)
    (ha : a = some ⟨b, off, none⟩ ∨ l = []) (hs : Sees w b off l) :
    Calls Tryz.prog 77 #[.slice a len cap, .int .i64 p, .int .i64 n] w fun e w' => e = .returned (.tuple #[.int .u64 (getV l p n), .bool (holdsB len p n)]) ∧ w' = w := by
  have hl : len ≤ maxLen := Nat.le_trans hc hcm
  cases hh : holdsB len p n
  · have e : getV l p n = 0 := by unfold getV; rw [hL, hh]; rfl
    rw [e]
    exact rget_no a len cap p n w hl hh
  · have e : getV l p n = num ((l.drop p.toNat).take n.toNat) := by unfold getV; rw [hL, hh]; rfl
    rw [e]
    unfold holdsB at hh
    have hd := of_decide_eq_true hh
    obtain ⟨p', rfl⟩ := Int.eq_ofNat_of_zero_le hd.2.2.1
    obtain ⟨n', rfl⟩ := Int.eq_ofNat_of_zero_le (Int.le_trans (by decide) hd.1)
    rcases ha with rfl | rfl
    · exact rget_yes b off len cap l p' n' w hl hL hb hs (by omega) (by omega) (by omega)
    · simp at hL; omega

end Go.Proofs.YtafkkehcacdodaaGreat

namespace Go.Proofs.YtafkkehcacdodaaGreat
open Go.RowKit

/-- A value is a slice that shows the bytes l. -/
def Bts (w : World) (v : Value) (l : List Int) : Prop :=
  ∃ (a : Option Addr) (cap b off : Nat), v = .slice a l.length cap ∧ l.length ≤ cap ∧ cap ≤ maxLen ∧ isBytes l ∧ (a = some ⟨b, off, none⟩ ∨ l = []) ∧ Sees w b off l

/-- A row of cells, each a slice of bytes. -/
def Pts (w : World) (B O : Nat) (ls : List (List Int)) : Prop := ∀ i, i < ls.length → ∃ v, w.cell? ⟨B, O + i, none⟩ = some v ∧ Bts w v (ls.getD i [])

theorem Sees.later {w wx : World} {b off : Nat} {l : List Int} (h : Sees w b off l) (hb : Below w.heap.size w wx) : Sees wx b off l :=
  fun i hi => cell_later hb (h i hi)

theorem Bts.later {w wx : World} {v : Value} {l : List Int} (h : Bts w v l) (hb : Below w.heap.size w wx) : Bts wx v l := by
  obtain ⟨a, cap, b, off, h1, h2, h3, h4, h5, h6⟩ := h
  exact ⟨a, cap, b, off, h1, h2, h3, h4, h5, h6.later hb⟩

theorem Bts.shape {w : World} {v : Value} {l : List Int} (h : Bts w v l) : ∃ a N c, v = .slice a N c := by
  obtain ⟨a, c, _, _, rfl, _⟩ := h; exact ⟨_, _, _, rfl⟩

theorem below_trans {a b c : World} (h : Below a.heap.size a b) (k : Below b.heap.size b c) : Below a.heap.size a c := h.trans (k.mono h.size)

theorem Pts.later {w wx : World} {B O : Nat} {ls : List (List Int)} (h : Pts w B O ls) (hb : Below w.heap.size w wx) : Pts wx B O ls := by
  intro i hi
  obtain ⟨v, h1, h2⟩ := h i hi
  exact ⟨v, cell_later hb h1, h2.later hb⟩

theorem below_alloc (w : World) (o : Obj) : Below w.heap.size w (w.alloc o) := (Below.refl _ _).alloc (Nat.le_refl _) _

theorem pts_one {w : World} {v : Value} {l : List Int} (t : TypeId) (h : Bts w v l) : Pts (w.alloc (.cells #[v] t)) w.heap.size 0 [l] := by
  intro i hi
  have : i = 0 := by simp at hi; omega
  subst this
  exact ⟨v, by simp, h.later (below_alloc _ _)⟩

end Go.Proofs.YtafkkehcacdodaaGreat

namespace Go.Proofs.YtafkkehcacdodaaGreat
open Go.RowKit

theorem u32_xor_nat' (a b : Nat) (ha : a < 4294967296) (hb : b < 4294967296) : bits .xor .u32 (a : Int) (b : Int) = ((a ^^^ b : Nat) : Int) := by
  have hx : a ^^^ b < 2 ^ 32 := Nat.xor_lt_two_pow (by omega) (by omega)
  have h1 : (BitVec.ofInt 32 (a : Int)).toNat = a := by
    rw [BitVec.ofInt_natCast, BitVec.toNat_ofNat]; exact Nat.mod_eq_of_lt (by omega)
  have h2 : (BitVec.ofInt 32 (b : Int)).toNat = b := by
    rw [BitVec.ofInt_natCast, BitVec.toNat_ofNat]; exact Nat.mod_eq_of_lt (by omega)
  show IntKind.u32.wrap ((BitVec.ofInt 32 (a : Int) ^^^ BitVec.ofInt 32 (b : Int)).toNat : Int) = _
  rw [BitVec.toNat_xor, h1, h2, IntKind.wrap_u32]
  omega

theorem u32_and1 (a : Nat) (ha : a < 4294967296) : bits .and .u32 (a : Int) 1 = ((a % 2 : Nat) : Int) := by
  have := bits_mask .u32 32 (by decide) (fun n a b => by rw [IntKind.wrap_u32]; omega) 1 (by decide) (a : Int) (by omega) (by omega)
  simpa using this

theorem u32_xorP (a : Nat) (ha : a < 4294967296) : bits .xor .u32 ((a : Int) / 2) 3988292384 = ((a / 2 ^^^ 3988292384 : Nat) : Int) := by
  have := u32_xor_nat' (a / 2) 3988292384 (by omega) (by decide)
  simpa using this

set_option maxHeartbeats 1000000 in
theorem step_any (G : Nat) (r c : Nat) (w : World) (hcell : w.cell? ⟨G, 0, none⟩ = some (.int .u32 r)) (hfr : w.frozen? ⟨G, 0, none⟩ = false) (hr : r < 4294967296) (hc : c < 256) :
    Calls Tryz.prog 142 #[.pointer (some ⟨G, 0, none⟩), .int .u8 c] w fun e w' => e = .returned (.tuple #[]) ∧ w' = w.setCell ⟨G, 0, none⟩ (.int .u32 (crcByte r c)) := by
  have hx := u32_xor_nat' r c hr (by omega)
  have hlt : r ^^^ c < 4294967296 := Nat.xor_lt_two_pow (n := 32) hr (by omega)
  go_enter Tryz.func142, Tryz.ntmps142
  go_wp2
  generalize hX0 : r ^^^ c = X0 at *
  have HX : Hid (r ^^^ c = X0) := hX0
  clear hX0
  go_loop [4, 12] (fun x i => ∃ k : Nat, k ≤ 8 ∧ i = .int .i64 k ∧ x = .int .u32 (crcSteps k X0 : Nat)) (fun _ i => 8 - (intOf i).toNat)
  case atStart => exact ⟨0, by decide, rfl, rfl⟩
  case round =>
    obtain ⟨k, hk, rfl, rfl⟩ := hrel
    by_cases hk8 : k < 8
    · have hlt' := crcSteps_lt k X0 hlt
      have HS : Hid (crcSteps (k + 1) X0 = crcStep (crcSteps k X0)) := crcSteps_snoc k X0
      generalize hY : crcSteps k X0 = Y at *
      clear hY
      have ha := u32_and1 Y hlt'
      by_cases hodd : Y % 2 = 1
      · have HE : Hid (crcStep Y = Y / 2 ^^^ 3988292384) := by show crcStep Y = _; unfold crcStep; rw [if_pos hodd]
        rw [hodd] at ha
        have hxp := u32_xorP Y hlt'
        go_wp2
        go_round
        case rel => exact ⟨k + 1, by omega, by go_num, by rw [HS.out, HE.out]⟩
        case measure => simp [intOf]; omega
      · have h0 : Y % 2 = 0 := by omega
        have HE : Hid (crcStep Y = Y / 2) := by show crcStep Y = _; unfold crcStep; rw [if_neg hodd]
        rw [h0] at ha
        go_wp2
        go_round
        case rel => exact ⟨k + 1, by omega, by go_num, by rw [HS.out, HE.out]; simp⟩
        case measure => simp [intOf]; omega
    · have hke : k = 8 := by omega
      subst hke
      go_wp2
      go_end0
      exact ⟨rfl, by unfold crcByte; rw [HX.out]⟩

/-- What Crc answers. -/
def crcV (l : List Int) : Int := bits .xor .u32 IntKind.u32.max (crcL 4294967295 l : Nat)

set_option maxHeartbeats 1000000 in
theorem crc_any (a : Option Addr) (b off len cap : Nat) (l : List Int) (w : World) (hc : len ≤ cap) (hcm : cap ≤ maxLen) (hL : l.length = len) (hb : isBytes l)
    (ha : a = some ⟨b, off, none⟩ ∨ l = []) (hs : Sees w b off l) :
    Calls Tryz.prog 116 #[.slice a len cap] w fun e w' => e = .returned (.int .u32 (crcV l)) ∧ Below w.heap.size w w' := by
  unfold maxLen at hcm
  have HL : Hid (l.length = len) := hL
  clear hL
  go_enter Tryz.func116, Tryz.ntmps116
  go_wp2
  go_loopw [10] (fun i wr => ∃ k : Nat, k ≤ len ∧ i = .int .i64 k ∧ wr.cell? ⟨w.heap.size, 0, none⟩ = some (.int .u32 (crcL 4294967295 (l.take k) : Nat)) ∧ wr.frozen? ⟨w.heap.size, 0, none⟩ = false ∧ Below w.heap.size w wr) (fun i _ => len - (intOf i).toNat)
  case atStart => exact ⟨0, Nat.zero_le _, rfl, by simp [crcL], by simp [go_sem], below_alloc _ _⟩
  case round =>
    obtain ⟨k, hk, rfl, hcell, hfr, hbel⟩ := hrel
    by_cases hlt : k < len
    · rcases ha with rfl | hnil
      case inr => exact absurd HL.out (by rw [hnil]; simp; omega)
      have hc2 : wr.cell? ⟨b, off + k, none⟩ = some (.int .u8 (l.getD k 0)) := cell_later hbel (hs k (by rw [HL.out]; omega))
      have hbyte := getD_byte l hb k
      have hsn := crcL_snoc 4294967295 (l.take k) (l.getD k 0)
      rw [← take_snoc l k (by rw [HL.out]; omega)] at hsn
      have hrl := crcL_lt 4294967295 (l.take k) (by decide) (isBytes_take hb k)
      generalize hZ : l.getD k 0 = z at *
      clear hZ
      obtain ⟨c, rfl⟩ := Int.eq_ofNat_of_zero_le hbyte.1
      rw [Int.toNat_natCast] at hsn
      have HS : Hid (crcL 4294967295 (l.take (k + 1)) = crcByte (crcL 4294967295 (l.take k)) c) := hsn
      clear hsn
      generalize hR : crcL 4294967295 (l.take k) = r at *
      clear hR
      go_wp2_with fail
      refine (step_any w.heap.size r c _ hcell hfr hrl (by omega)).mono ?_
      rintro e w2 ⟨rfl, hw2⟩
      have k1 : w2.cell? ⟨w.heap.size, 0, none⟩ = some (.int .u32 (crcByte r c : Nat)) := by rw [hw2]; simp [go_sem, hcell]
      have k2 : w2.frozen? ⟨w.heap.size, 0, none⟩ = false := by rw [hw2]; simp [go_sem, hfr]
      have k3 : Below w.heap.size w w2 := by rw [hw2]; exact hbel.setCell (Nat.le_refl _) _
      clear hw2
      go_wp2
      go_roundw
      case rel => exact ⟨k + 1, by omega, by go_num, by rw [HS.out]; exact k1, k2, k3⟩
      case measure => simp [intOf]; omega
    · have hke : k = len := by omega
      subst hke
      have hte : l.take k = l := by rw [List.take_of_length_le]; rw [HL.out]; exact Nat.le_refl _
      rw [hte] at hcell
      clear hte
      go_wp2
      go_ret
      exact ⟨rfl, hbel⟩

end Go.Proofs.YtafkkehcacdodaaGreat

namespace Go.Proofs.YtafkkehcacdodaaGreat
open Go.RowKit

theorem crcV_inj (l m : List Int) (hl : isBytes l) (hm : isBytes m) (h : crcV l = crcV m) : crcL 4294967295 l = crcL 4294967295 m := by
  have h1 := crcL_lt 4294967295 l (by decide) hl
  have h2 := crcL_lt 4294967295 m (by decide) hm
  have e : IntKind.u32.max = ((4294967295 : Nat) : Int) := by decide
  unfold crcV at h
  rw [e, u32_xor_nat' _ _ (by decide) h1, u32_xor_nat' _ _ (by decide) h2] at h
  exact xor_cancel_left _ _ _ (Int.ofNat_inj.1 h)

theorem u32_xorP' (a : Nat) (ha : a < 4294967296) : bits .xor .u32 ((a : Int) / 2) 3988292384 = ((a / 2 ^^^ 3988292384 : Nat) : Int) := u32_xorP a ha

set_option maxHeartbeats 1000000 in
theorem rcrc_any (a : Option Addr) (b off len cap : Nat) (l : List Int) (w : World) (hc : len ≤ cap) (hcm : cap ≤ maxLen) (hL : l.length = len) (hb : isBytes l)
    (ha : a = some ⟨b, off, none⟩ ∨ l = []) (hs : Sees w b off l) :
    Calls Tryz.prog 120 #[.slice a len cap] w fun e w' => e = .returned (.int .u32 (crcV l)) ∧ w' = w := by
  unfold maxLen at hcm
  have HL : Hid (l.length = len) := hL
  clear hL
  go_enter Tryz.func120, Tryz.ntmps120
  go_wp2
  go_loop [3, 4] (fun x i => ∃ k : Nat, k ≤ len ∧ i = .int .i64 k ∧ x = .int .u32 (crcL 4294967295 (l.take k) : Nat)) (fun _ i => len - (intOf i).toNat)
  case atStart => exact ⟨0, Nat.zero_le _, rfl, by simp [crcL]⟩
  case round =>
    obtain ⟨k, hk, rfl, rfl⟩ := hrel
    by_cases hlt : k < len
    · rcases ha with rfl | hnil
      case inr => exact absurd HL.out (by rw [hnil]; simp; omega)
      have hc2 := hs k (by rw [HL.out]; omega)
      have hbyte := getD_byte l hb k
      have hsn := crcL_snoc 4294967295 (l.take k) (l.getD k 0)
      rw [← take_snoc l k (by rw [HL.out]; omega)] at hsn
      have hrl := crcL_lt 4294967295 (l.take k) (by decide) (isBytes_take hb k)
      generalize hZ : l.getD k 0 = z at *
      clear hZ
      obtain ⟨c, rfl⟩ := Int.eq_ofNat_of_zero_le hbyte.1
      rw [Int.toNat_natCast] at hsn
      have HS : Hid (crcL 4294967295 (l.take (k + 1)) = crcByte (crcL 4294967295 (l.take k)) c) := hsn
      clear hsn
      generalize hR : crcL 4294967295 (l.take k) = r at *
      clear hR
      have hx := u32_xor_nat' r c hrl (by omega)
      have hlt2 : r ^^^ c < 4294967296 := Nat.xor_lt_two_pow (n := 32) hrl (by omega)
      have HB : Hid (crcByte r c = crcSteps 8 (r ^^^ c)) := rfl
      generalize hX0 : r ^^^ c = X0 at *
      clear hX0
      go_wp2
      go_loop [3, 5] (fun x i => ∃ j : Nat, j ≤ 8 ∧ i = .int .i64 j ∧ x = .int .u32 (crcSteps j X0 : Nat)) (fun _ i => 8 - (intOf i).toNat)
      case atStart => exact ⟨0, by decide, rfl, rfl⟩
      case round =>
        obtain ⟨j, hj, rfl, rfl⟩ := hrel
        by_cases hk8 : j < 8
        · have hlt' := crcSteps_lt j X0 hlt2
          have HT : Hid (crcSteps (j + 1) X0 = crcStep (crcSteps j X0)) := crcSteps_snoc j X0
          generalize hY : crcSteps j X0 = Y at *
          clear hY
          have hand := u32_and1 Y hlt'
          by_cases hodd : Y % 2 = 1
          · have HE : Hid (crcStep Y = Y / 2 ^^^ 3988292384) := by show crcStep Y = _; unfold crcStep; rw [if_pos hodd]
            rw [hodd] at hand
            have hxp := u32_xorP Y hlt'
            go_wp2
            go_round
            case rel => exact ⟨j + 1, by omega, by go_num, by rw [HT.out, HE.out]⟩
            case measure => simp [intOf]; omega
          · have h0 : Y % 2 = 0 := by omega
            have HE : Hid (crcStep Y = Y / 2) := by show crcStep Y = _; unfold crcStep; rw [if_neg hodd]
            rw [h0] at hand
            go_wp2
            go_round
            case rel => exact ⟨j + 1, by omega, by go_num, by rw [HT.out, HE.out]; simp⟩
            case measure => simp [intOf]; omega
        · have hje : j = 8 := by omega
          subst hje
          go_wp2
          go_round
          case rel => exact ⟨k + 1, by omega, by go_num, by rw [HS.out, HB.out]⟩
          case measure => simp [intOf]; omega
    · have hke : k = len := by omega
      subst hke
      have hte : l.take k = l := by rw [List.take_of_length_le]; rw [HL.out]; exact Nat.le_refl _
      rw [hte]
      clear hte
      go_wp2
      go_ret
      exact ⟨rfl, rfl⟩

end Go.Proofs.YtafkkehcacdodaaGreat

namespace Go.Proofs.YtafkkehcacdodaaGreat
open Go.RowKit

theorem sees_new3 (w : World) (x y z : Int) : Sees (w.alloc (.cells #[.int .u8 x, .int .u8 y, .int .u8 z] 5)) w.heap.size 0 [x, y, z] := by
  intro i hi
  have : i = 0 ∨ i = 1 ∨ i = 2 := by simp at hi; omega
  rcases this with rfl | rfl | rfl <;> simp [go_sem]

theorem bts_new1 (w : World) (N : Nat) (x : Int) (hN : N = w.heap.size) (hx : 0 ≤ x ∧ x < 256) : Bts (w.alloc (.cells #[.int .u8 x] 5)) (.slice (some ⟨N, 0, none⟩) 1 1) [x] := by
  subst hN
  refine ⟨_, 1, w.heap.size, 0, rfl, by simp, by decide, ?_, .inl rfl, ?_⟩
  · intro z hz; simp at hz; subst hz; exact hx
  · intro i hi
    have : i = 0 := by simp at hi; omega
    subst this
    simp

end Go.Proofs.YtafkkehcacdodaaGreat

namespace Go.Proofs.YtafkkehcacdodaaGreat
open Go.RowKit

/-- The lowest n bytes of x laid from p on, the last byte first. -/
def lay (l : List Int) (p : Nat) : Nat → Int → List Int
  | 0, _ => l
  | n + 1, x => lay (l.set (p + n) (x % 256)) p n (x / 256)

theorem lay_length (l : List Int) (p n : Nat) (x : Int) : (lay l p n x).length = l.length := by
  induction n generalizing l x with
  | zero => rfl
  | succ n ih => simp [lay, ih]

theorem lay_bytes (l : List Int) (p n : Nat) (x : Int) (h : isBytes l) : isBytes (lay l p n x) := by
  induction n generalizing l x with
  | zero => exact h
  | succ n ih =>
    refine ih _ _ ?_
    intro z hz
    rcases List.mem_or_eq_of_mem_set hz with h1 | rfl
    · exact h z h1
    · omega

theorem lay_past (l : List Int) (p n : Nat) (x : Int) (i : Nat) (hi : p + n ≤ i) : (lay l p n x).getD i 0 = l.getD i 0 := by
  induction n generalizing l x with
  | zero => rfl
  | succ n ih =>
    show (lay (l.set (p + n) (x % 256)) p n (x / 256)).getD i 0 = _
    rw [ih _ _ (by omega)]
    simp only [List.getD, List.getElem?_set]
    rw [if_neg (by omega)]

theorem emod_pow_succ (x : Int) (n : Nat) : (x / 256) % 256 ^ n * 256 + x % 256 = x % 256 ^ (n + 1) := by
  have h1 : x = 256 * (x / 256) + x % 256 := by omega
  have hp : (0 : Int) < 256 ^ n := Int.pow_pos (by decide)
  have h2 := Int.mul_ediv_add_emod (x / 256) (256 ^ n)
  have h3 := Int.emod_nonneg (x / 256) (Int.ne_of_gt hp)
  have h4 := Int.emod_lt_of_pos (x / 256) hp
  generalize (x / 256) % 256 ^ n = r at *
  generalize (x / 256) / 256 ^ n = q at *
  have h5 : x = (r * 256 + x % 256) + 256 ^ (n + 1) * q := by
    rw [Int.pow_succ]
    have : 256 ^ n * 256 * q = 256 * (256 ^ n * q) := by rw [Int.mul_comm (256 ^ n) 256, Int.mul_assoc]
    omega
  conv => rhs; rw [h5]
  rw [Int.add_mul_emod_self_left]
  symm
  apply Int.emod_eq_of_lt
  · omega
  · rw [Int.pow_succ]; omega

theorem num_lay (l : List Int) (p n : Nat) (x : Int) (h : p + n ≤ l.length) : num (((lay l p n x).drop p).take n) = x % 256 ^ n := by
  induction n generalizing l x with
  | zero => simp [num, Int.emod_one]
  | succ n ih =>
    have hl : (lay l p (n + 1) x).length = l.length := lay_length _ _ _ _
    rw [take_next _ _ _ (by omega), num_snoc]
    show num (List.take n (List.drop p (lay (l.set (p + n) (x % 256)) p n (x / 256)))) * 256 + (lay (l.set (p + n) (x % 256)) p n (x / 256)).getD (p + n) 0 = _
    rw [ih _ _ (by simp; omega), lay_past _ _ _ _ _ (Nat.le_refl _)]
    have : (l.set (p + n) (x % 256)).getD (p + n) 0 = x % 256 := by
      have : p + n < l.length := by omega
      simp [this]
    rw [this]
    exact emod_pow_succ x n

theorem getV_lay (l : List Int) (p n : Nat) (x : Int) (h1 : 1 ≤ n) (h2 : n ≤ 8) (h : p + n ≤ l.length) : getV (lay l p n x) p n = x % 256 ^ n := by
  unfold getV
  have : holdsB (lay l p n x).length p n = true := by rw [lay_length]; unfold holdsB; simp; omega
  rw [if_pos this, Int.toNat_natCast, Int.toNat_natCast]
  exact num_lay l p n x h


theorem wsAux_set (k : Nat) (l : List Int) (i : Nat) (c : Int) (h : i < l.length) : wsAux k (l.set i c) = wsAux k l + (if (k + i) % 2 = 0 then (c - l.getD i 0) * 256 else c - l.getD i 0) := by
  induction l generalizing k i with
  | nil => simp at h
  | cons a l ih =>
    cases i with
    | zero => simp only [List.set_cons_zero, wsAux, Nat.add_zero, List.getD_cons_zero]; split <;> omega
    | succ i =>
      have := ih (k + 1) i (by simpa using h)
      simp only [List.set_cons_succ, wsAux, List.getD_cons_succ, this]
      rw [show k + 1 + i = k + (i + 1) by omega]
      omega

theorem ws_lay2 (l : List Int) (p : Nat) (x : Int) (hp : p % 2 = 0) (h : p + 2 ≤ l.length) :
    ws (lay l p 2 x) = ws l - getV l p 2 + (x % 65536) := by
  have hg : getV l p 2 = l.getD p 0 * 256 + l.getD (p + 1) 0 := by
    unfold getV
    have : holdsB l.length p 2 = true := by unfold holdsB; simp; omega
    rw [if_pos this, Int.toNat_natCast]
    show num ((l.drop p).take 2) = _
    rw [take_next l p 1 (by omega), num_snoc, take_next l p 0 (by omega), num_snoc]
    simp [num]
  show ws ((l.set (p + 1) (x % 256)).set (p + 0) (x / 256 % 256)) = _
  unfold ws
  rw [wsAux_set _ _ _ _ (by simp; omega), wsAux_set _ _ _ _ (by omega), if_neg (by omega), if_pos (by omega), hg]
  have : (l.set (p + 1) (x % 256)).getD (p + 0) 0 = l.getD p 0 := by
    simp only [List.getD, List.getElem?_set, Nat.add_zero]; rw [if_neg (by omega)]
  rw [this]
  omega

theorem wsAux_zero (k : Nat) (l : List Int) (hb : isBytes l) (h : wsAux k l = 0) : ∀ z ∈ l, z = 0 := by
  induction l generalizing k with
  | nil => intro z hz; cases hz
  | cons a l ih =>
    have ha := hb a (by simp)
    have hl : isBytes l := fun z hz => hb z (by simp [hz])
    have h1 := wsAux_bd (k + 1) l hl
    simp only [wsAux] at h
    have h0 : a = 0 ∧ wsAux (k + 1) l = 0 := by split at h <;> omega
    intro z hz
    rcases List.mem_cons.1 hz with rfl | hz
    · exact h0.1
    · exact ih (k + 1) hl h0.2 z hz

def allz (l : List Int) : Bool := l.all (· == 0)

theorem allz_of_ws (l : List Int) (hb : isBytes l) (h : ws l = 0) : allz l = true := by
  unfold allz; rw [List.all_eq_true]; intro z hz; simp [wsAux_zero 0 l hb h z hz]

theorem allz_snoc (l : List Int) (c : Int) : allz (l ++ [c]) = (allz l && (c == 0)) := by unfold allz; simp

/-- P1.5: the check is brought along. -/
theorem upd_eq (S o n : Int) (h0 : 0 ≤ o) (h1 : o ≤ 65535) (h2 : o ≤ S) (h3 : 0 ≤ n) (h4 : n ≤ 65535) (h5 : 0 < S - o + n) :
    upd16 (turn16 (fold16 S)) o n = turn16 (fold16 (S - o + n)) := by
  unfold upd16 plus16 turn16 fold16
  split <;> split <;> split <;> split <;> omega

theorem upd_zero (S o n : Int) (h0 : 0 ≤ o) (h1 : o ≤ 65535) (h2 : o ≤ S) (h3 : 0 ≤ n) (h4 : n ≤ 65535) (h5 : S - o + n = 0) :
    upd16 (turn16 (fold16 S)) o n = 0 := by
  unfold upd16 plus16 turn16 fold16
  split <;> split <;> split <;> omega

end Go.Proofs.YtafkkehcacdodaaGreat

namespace Go.Proofs.YtafkkehcacdodaaGreat
open Go.RowKit

def b1 (l : List Int) (k : Nat) : Int := l.getD k 0
def w2 (l : List Int) (k : Nat) : Int := l.getD k 0 * 256 + l.getD (k + 1) 0
def w4 (l : List Int) (k : Nat) : Int := ((l.getD k 0 * 256 + l.getD (k + 1) 0) * 256 + l.getD (k + 2) 0) * 256 + l.getD (k + 3) 0

def inB (x m : Int) : Prop := 0 ≤ x ∧ x ≤ m

instance (x m : Int) : Decidable (inB x m) := by unfold inB; infer_instance

def inBb (x m : Int) : Bool := decide (inB x m)

theorem getV1 (l : List Int) (k : Nat) (h : k + 1 ≤ l.length) : getV l k 1 = b1 l k := by
  unfold getV b1
  have : holdsB l.length k 1 = true := by unfold holdsB; simp; omega
  rw [if_pos this, Int.toNat_natCast]
  show num ((l.drop k).take 1) = _
  rw [take_next l k 0 (by omega), num_snoc]
  simp [num]

theorem getV2 (l : List Int) (k : Nat) (h : k + 2 ≤ l.length) : getV l k 2 = w2 l k := by
  unfold getV w2
  have : holdsB l.length k 2 = true := by unfold holdsB; simp; omega
  rw [if_pos this, Int.toNat_natCast]
  show num ((l.drop k).take 2) = _
  rw [take_next l k 1 (by omega), num_snoc, take_next l k 0 (by omega), num_snoc]
  simp [num]

theorem getV4 (l : List Int) (k : Nat) (h : k + 4 ≤ l.length) : getV l k 4 = w4 l k := by
  unfold getV w4
  have : holdsB l.length k 4 = true := by unfold holdsB; simp; omega
  rw [if_pos this, Int.toNat_natCast]
  show num ((l.drop k).take 4) = _
  rw [take_next l k 3 (by omega), num_snoc, take_next l k 2 (by omega), num_snoc, take_next l k 1 (by omega), num_snoc, take_next l k 0 (by omega), num_snoc]
  simp [num]

theorem b1_bd (l : List Int) (hb : isBytes l) (k : Nat) : 0 ≤ b1 l k ∧ b1 l k < 256 := getD_byte l hb k

theorem w2_bd (l : List Int) (hb : isBytes l) (k : Nat) : 0 ≤ w2 l k ∧ w2 l k < 65536 := by
  have h1 := getD_byte l hb k
  have h2 := getD_byte l hb (k + 1)
  unfold w2
  omega

theorem w4_bd (l : List Int) (hb : isBytes l) (k : Nat) : 0 ≤ w4 l k ∧ w4 l k < 4294967296 := by
  have h1 := getD_byte l hb k
  have h2 := getD_byte l hb (k + 1)
  have h3 := getD_byte l hb (k + 2)
  have h4 := getD_byte l hb (k + 3)
  unfold w4
  omega

theorem i64_id (x : Int) (h0 : 0 ≤ x) (h1 : x < 2 ^ 63) : IntKind.i64.wrap x = x := by rw [IntKind.wrap_i64]; omega
theorem u8_id (x : Int) (h0 : 0 ≤ x) (h1 : x < 2 ^ 8) : IntKind.u8.wrap x = x := by rw [IntKind.wrap_u8]; omega
theorem u32_id (x : Int) (h0 : 0 ≤ x) (h1 : x < 2 ^ 32) : IntKind.u32.wrap x = x := by rw [IntKind.wrap_u32]; omega

theorem or_i64 (i : Nat) (x y : Int) (h0 : 0 ≤ x) (hx : x % 2 ^ i = 0) (h1 : x < 2 ^ 63) (h2 : 0 ≤ y) (h3 : y < 2 ^ i) (h4 : y < 2 ^ 63) : bits .or .i64 x y = x + y :=
  bits_join .i64 63 (by decide) i64_id i x y h0 hx h1 h2 h3 h4

theorem or_u32 (i : Nat) (x y : Int) (h0 : 0 ≤ x) (hx : x % 2 ^ i = 0) (h1 : x < 2 ^ 32) (h2 : 0 ≤ y) (h3 : y < 2 ^ i) (h4 : y < 2 ^ 32) : bits .or .u32 x y = x + y :=
  bits_join .u32 32 (by decide) u32_id i x y h0 hx h1 h2 h3 h4

theorem mask_i64 (i : Nat) (hi : i ≤ 63) (x : Int) (h0 : 0 ≤ x) (h1 : x < 2 ^ 63) : bits .and .i64 x (2 ^ i - 1) = x % 2 ^ i := bits_mask .i64 63 (by decide) i64_id i hi x h0 h1
theorem mask_u8 (i : Nat) (hi : i ≤ 8) (x : Int) (h0 : 0 ≤ x) (h1 : x < 2 ^ 8) : bits .and .u8 x (2 ^ i - 1) = x % 2 ^ i := bits_mask .u8 8 (by decide) u8_id i hi x h0 h1

theorem ws_append_even (l m : List Int) (h : l.length % 2 = 0) : ws (l ++ m) = ws l + ws m := by
  have shift : ∀ (n : List Int) (j k : Nat), j % 2 = k % 2 → wsAux j n = wsAux k n := by
    intro n
    induction n with
    | nil => intros; rfl
    | cons c n ih => intro j k hjk; simp only [wsAux]; rw [ih (j + 1) (k + 1) (by omega), hjk]
  unfold ws
  rw [wsAux_append, shift m (0 + l.length) 0 (by omega)]

/-- The lowest n bytes of a number, the highest first. -/
def bytesOfN : Nat → Int → List Int
  | 0, _ => []
  | 1, x => [x % 256]
  | 2, x => [x / 256 % 256, x % 256]
  | 3, x => [x / 65536 % 256, x / 256 % 256, x % 256]
  | _, x => [x / 16777216 % 256, x / 65536 % 256, x / 256 % 256, x % 256]

theorem getD_append_left (l m : List Int) (k : Nat) (h : k < l.length) : (l ++ m).getD k 0 = l.getD k 0 := by
  simp [List.getD, List.getElem?_append_left h]

theorem fold65535 (x : Int) (h : 0 < x) : fold16 x = 65535 ↔ x % 65535 = 0 := by
  unfold fold16
  rw [if_neg (by omega)]
  omega
end Go.Proofs.YtafkkehcacdodaaGreat

namespace Go.Proofs.YtafkkehcacdodaaGreat
open Go.RowKit

/-- The lowest n bytes of a number, the highest first. -/
def bigE : Nat → Int → List Int
  | 0, _ => []
  | n + 1, x => bigE n (x / 256) ++ [x % 256]

theorem bigE_length (n : Nat) (x : Int) : (bigE n x).length = n := by
  induction n generalizing x with
  | zero => rfl
  | succ n ih => simp [bigE, ih]

theorem isBytes_snoc {l : List Int} {c : Int} (h : isBytes l) (h0 : 0 ≤ c) (h1 : c < 256) : isBytes (l ++ [c]) := by
  intro z hz
  rcases List.mem_append.1 hz with h' | h'
  · exact h z h'
  · rw [List.mem_singleton.1 h']; exact ⟨h0, h1⟩

theorem bigE_bytes (n : Nat) (x : Int) : isBytes (bigE n x) := by
  induction n generalizing x with
  | zero => intro z hz; cases hz
  | succ n ih => exact isBytes_snoc (ih _) (by omega) (by omega)

theorem num_bigE (n : Nat) (x : Int) : num (bigE n x) = x % 256 ^ n := by
  induction n generalizing x with
  | zero => simp [bigE, num, Int.emod_one]
  | succ n ih => unfold bigE; rw [num_snoc, ih]; exact emod_pow_succ x n

theorem bigE_num (l : List Int) (hb : isBytes l) : bigE l.length (num l) = l := by
  suffices H : ∀ (n : Nat) (l : List Int), l.length = n → isBytes l → bigE n (num l) = l from H _ l rfl hb
  intro n
  induction n with
  | zero => intro l hl _; rw [List.eq_nil_of_length_eq_zero hl]; rfl
  | succ n ih =>
    intro l hl hb
    obtain ⟨m, c, rfl⟩ : ∃ m c, l = m ++ [c] := ⟨l.dropLast, l.getLast (by intro h; subst h; cases hl), (List.dropLast_concat_getLast _).symm⟩
    have hm : m.length = n := by simpa using hl
    have hc := hb c (by simp)
    have hbm : isBytes m := fun z hz => hb z (by simp [hz])
    unfold bigE
    rw [num_snoc, show (num m * 256 + c) / 256 = num m by omega, show (num m * 256 + c) % 256 = c by omega, ih m hm hbm]

/-- The highest byte ahead. -/
theorem bigE_head (n : Nat) (x : Int) : bigE (n + 1) x = (x / 256 ^ n % 256) :: bigE n x := by
  induction n generalizing x with
  | zero => simp [bigE]
  | succ n ih =>
    rw [show bigE (n + 1 + 1) x = bigE (n + 1) (x / 256) ++ [x % 256] from rfl, ih (x / 256)]
    have : x / 256 / 256 ^ n = x / 256 ^ (n + 1) := by rw [Int.pow_succ, Int.mul_comm, Int.ediv_ediv_of_nonneg (by decide)]
    rw [this]
    rfl

theorem lay_mid (n : Nat) : ∀ (l : List Int) (p : Nat) (x : Int), p + n ≤ l.length → lay l p n x = l.take p ++ bigE n x ++ l.drop (p + n) := by
  induction n with
  | zero => intro l p x _; simp [lay, bigE]
  | succ n ih =>
    intro l p x h
    show lay (l.set (p + n) (x % 256)) p n (x / 256) = _
    rw [ih _ _ _ (by simp; omega), List.take_set_of_le (by omega), show bigE (n + 1) x = bigE n (x / 256) ++ [x % 256] from rfl]
    have : (l.set (p + n) (x % 256)).drop (p + n) = (x % 256) :: l.drop (p + (n + 1)) := by
      rw [List.drop_eq_getElem_cons (by simp; omega)]
      simp [List.drop_set, Nat.add_assoc]
    rw [this]
    simp

theorem lay_zero (n : Nat) (x : Int) : lay (List.replicate n 0) 0 n x = bigE n x := by
  rw [lay_mid n _ 0 x (by simp)]; simp

/-- An entry in numbers. -/
structure En where
  kind : Int
  time : Int
  sub : Int
  addr : Int
  block : Int

def En.zero : En := ⟨0, 0, 0, 0, 0⟩

/-- What the kinds of the numbers say. -/
structure En.Ok (e : En) : Prop where
  kind0 : -9223372036854775808 ≤ e.kind
  kind1 : e.kind ≤ 9223372036854775807
  time0 : -9223372036854775808 ≤ e.time
  time1 : e.time ≤ 9223372036854775807
  sub0 : 0 ≤ e.sub
  sub1 : e.sub < 4294967296
  addr0 : 0 ≤ e.addr
  addr1 : e.addr < 4294967296
  block0 : -9223372036854775808 ≤ e.block
  block1 : e.block ≤ 9223372036854775807

/-- An entry may be. -/
structure En.May (e : En) : Prop where
  time0 : 0 ≤ e.time
  time1 : e.time ≤ 1099511627776
  kind : (e.kind = 1 ∧ e.sub = 0 ∧ e.addr = 0 ∧ e.block = 0) ∨ (e.kind = 2 ∧ 0 ≤ e.block ∧ e.block ≤ 65535) ∨ (e.kind = 3 ∧ 0 ≤ e.block ∧ e.block ≤ 65535 ∧ e.sub = 0)

theorem may_iff (e : En) : e.May ↔ (0 ≤ e.time ∧ e.time ≤ 1099511627776) ∧ ((e.kind = 1 ∧ e.sub = 0 ∧ e.addr = 0 ∧ e.block = 0) ∨ (e.kind = 2 ∧ 0 ≤ e.block ∧ e.block ≤ 65535) ∨ (e.kind = 3 ∧ 0 ≤ e.block ∧ e.block ≤ 65535 ∧ e.sub = 0)) :=
  ⟨fun h => ⟨⟨h.1, h.2⟩, h.3⟩, fun h => ⟨h.1.1, h.1.2, h.2⟩⟩

instance (e : En) : Decidable e.May := decidable_of_iff _ (may_iff e).symm

def mayB (e : En) : Bool := decide e.May

def checkE (e : En) : Int := if mayB e then 0 else 1

/-- The entry's bytes. -/
def bytesE (e : En) : List Int :=
  if e.kind = 1 then bigE 1 e.kind ++ bigE 8 e.time
  else if e.kind = 2 then bigE 1 e.kind ++ bigE 8 e.time ++ bigE 4 e.sub ++ bigE 4 e.addr ++ bigE 2 e.block
  else bigE 1 e.kind ++ bigE 8 e.time ++ bigE 4 e.addr ++ bigE 2 e.block

/-- How many bytes a kind has. -/
def sizeK (k : Int) : Int := if k = 1 then 9 else if k = 2 then 19 else if k = 3 then 15 else 0

/-- What Decode says of the bytes. -/
def whyE (l : List Int) : Int :=
  if l.length = 0 then 2
  else if sizeK (b1 l 0) = 0 then 4
  else if (l.length : Int) < sizeK (b1 l 0) then 2
  else if sizeK (b1 l 0) < (l.length : Int) then 3
  else if 1099511627776 < num ((l.drop 1).take 8) then 1
  else 0

/-- The entry that the bytes are. -/
def entE (l : List Int) : En :=
  if whyE l = 0 then
    (if b1 l 0 = 1 then ⟨b1 l 0, num ((l.drop 1).take 8), 0, 0, 0⟩
     else if b1 l 0 = 2 then ⟨b1 l 0, num ((l.drop 1).take 8), num ((l.drop 9).take 4), num ((l.drop 13).take 4), num ((l.drop 17).take 2)⟩
     else ⟨b1 l 0, num ((l.drop 1).take 8), 0, num ((l.drop 9).take 4), num ((l.drop 13).take 2)⟩)
  else En.zero

theorem whyE_zero {l : List Int} (h : whyE l = 0) : (l.length : Int) = sizeK (b1 l 0) ∧ (b1 l 0 = 1 ∨ b1 l 0 = 2 ∨ b1 l 0 = 3) ∧ num ((l.drop 1).take 8) ≤ 1099511627776 := by
  unfold whyE at h
  split at h; · omega
  split at h; · omega
  split at h; · omega
  split at h; · omega
  split at h; · omega
  rename_i h1 h2 h3 h4 h5
  refine ⟨by omega, ?_, by omega⟩
  unfold sizeK at h2
  split at h2; · omega
  split at h2; · omega
  split at h2; · omega
  omega

theorem whyE_of {l : List Int} (h : (l.length : Int) = sizeK (b1 l 0)) (hk : b1 l 0 = 1 ∨ b1 l 0 = 2 ∨ b1 l 0 = 3) (ht : num ((l.drop 1).take 8) ≤ 1099511627776) : whyE l = 0 := by
  have hs : sizeK (b1 l 0) ≠ 0 := by unfold sizeK; rcases hk with h | h | h <;> rw [h] <;> decide
  unfold whyE
  rw [if_neg (by omega), if_neg hs, if_neg (by omega), if_neg (by omega), if_neg (by omega)]

theorem bigE_one (x : Int) (h0 : 0 ≤ x) (h1 : x < 256) : bigE 1 x = [x] := by
  show [] ++ [x % 256] = [x]
  rw [Int.emod_eq_of_lt h0 h1]; rfl

theorem num_bigE_id (n : Nat) (x m : Int) (hm : (256 : Int) ^ n = m) (h0 : 0 ≤ x) (h1 : x < m) : num (bigE n x) = x := by
  rw [num_bigE, hm, Int.emod_eq_of_lt h0 h1]

theorem drop_take_mid (a b c : List Int) (p n : Nat) (ha : a.length = p) (hb : b.length = n) : ((a ++ (b ++ c)).drop p).take n = b := by
  subst ha hb; simp

theorem bytesE_head {e : En} (hm : e.May) : b1 (bytesE e) 0 = e.kind := by
  unfold bytesE b1
  rcases hm.kind with ⟨h, _⟩ | ⟨h, _⟩ | ⟨h, _⟩ <;> simp [h, bigE]

theorem bytesE_length {e : En} (hm : e.May) : ((bytesE e).length : Int) = sizeK e.kind := by
  unfold bytesE sizeK
  rcases hm.kind with ⟨h, _⟩ | ⟨h, _⟩ | ⟨h, _⟩ <;> simp [h, bigE_length]

theorem bytesE_bytes (e : En) : isBytes (bytesE e) := by
  unfold bytesE
  split
  · exact isBytes_append (bigE_bytes _ _) (bigE_bytes _ _)
  split
  · exact isBytes_append (isBytes_append (isBytes_append (isBytes_append (bigE_bytes _ _) (bigE_bytes _ _)) (bigE_bytes _ _)) (bigE_bytes _ _)) (bigE_bytes _ _)
  · exact isBytes_append (isBytes_append (isBytes_append (bigE_bytes _ _) (bigE_bytes _ _)) (bigE_bytes _ _)) (bigE_bytes _ _)

/-- What was written is read back. -/
theorem entE_bytesE {e : En} (hm : e.May) (ho : e.Ok) : whyE (bytesE e) = 0 ∧ entE (bytesE e) = e := by
  have hh := bytesE_head hm
  have hl := bytesE_length hm
  have ht := hm.time1
  have ht0 := hm.time0
  have h8 : ∀ m : List Int, ((bigE 1 e.kind ++ (bigE 8 e.time ++ m)).drop 1).take 8 = bigE 8 e.time := fun m => drop_take_mid _ _ _ 1 8 (bigE_length _ _) (bigE_length _ _)
  have n8 : num (bigE 8 e.time) = e.time := num_bigE_id 8 _ 18446744073709551616 (by decide) ht0 (by omega)
  rcases hm.kind with ⟨k, hs, ha, hbl⟩ | ⟨k, hb0, hb1⟩ | ⟨k, hb0, hb1, hs⟩
  · have e0 : bytesE e = bigE 1 e.kind ++ (bigE 8 e.time ++ []) := by unfold bytesE; rw [if_pos k, List.append_nil]
    have hn : num (((bytesE e).drop 1).take 8) = e.time := by rw [e0, h8, n8]
    have hw : whyE (bytesE e) = 0 := whyE_of (by rw [hh, hl]) (by rw [hh]; exact .inl k) (by rw [hn]; exact ht)
    refine ⟨hw, ?_⟩
    unfold entE
    rw [if_pos hw, hh, if_pos k, hn]
    obtain ⟨k', t, s, a, b⟩ := e
    simp_all
  · have e0 : bytesE e = bigE 1 e.kind ++ (bigE 8 e.time ++ (bigE 4 e.sub ++ (bigE 4 e.addr ++ bigE 2 e.block))) := by unfold bytesE; rw [if_neg (by omega), if_pos k]; simp
    have hn : num (((bytesE e).drop 1).take 8) = e.time := by rw [e0, h8, n8]
    have hw : whyE (bytesE e) = 0 := whyE_of (by rw [hh, hl]) (by rw [hh]; exact .inr (.inl k)) (by rw [hn]; exact ht)
    have hn9 : num (((bytesE e).drop 9).take 4) = e.sub := by
      rw [e0, ← List.append_assoc, drop_take_mid _ _ _ 9 4 (by simp [bigE_length]) (bigE_length _ _)]
      exact num_bigE_id 4 _ 4294967296 (by decide) ho.sub0 ho.sub1
    have hn13 : num (((bytesE e).drop 13).take 4) = e.addr := by
      rw [e0, ← List.append_assoc, ← List.append_assoc, drop_take_mid _ _ _ 13 4 (by simp [bigE_length]) (bigE_length _ _)]
      exact num_bigE_id 4 _ 4294967296 (by decide) ho.addr0 ho.addr1
    have hn17 : num (((bytesE e).drop 17).take 2) = e.block := by
      rw [e0, ← List.append_nil (bigE 2 e.block), ← List.append_assoc, ← List.append_assoc, ← List.append_assoc, drop_take_mid _ _ _ 17 2 (by simp [bigE_length]) (bigE_length _ _)]
      exact num_bigE_id 2 _ 65536 (by decide) hb0 (by omega)
    refine ⟨hw, ?_⟩
    unfold entE
    rw [if_pos hw, hh, if_neg (by omega), if_pos k, hn, hn9, hn13, hn17]
  · have e0 : bytesE e = bigE 1 e.kind ++ (bigE 8 e.time ++ (bigE 4 e.addr ++ bigE 2 e.block)) := by unfold bytesE; rw [if_neg (by omega), if_neg (by omega)]; simp
    have hn : num (((bytesE e).drop 1).take 8) = e.time := by rw [e0, h8, n8]
    have hw : whyE (bytesE e) = 0 := whyE_of (by rw [hh, hl]) (by rw [hh]; exact .inr (.inr k)) (by rw [hn]; exact ht)
    have hn9 : num (((bytesE e).drop 9).take 4) = e.addr := by
      rw [e0, ← List.append_assoc, drop_take_mid _ _ _ 9 4 (by simp [bigE_length]) (bigE_length _ _)]
      exact num_bigE_id 4 _ 4294967296 (by decide) ho.addr0 ho.addr1
    have hn13 : num (((bytesE e).drop 13).take 2) = e.block := by
      rw [e0, ← List.append_nil (bigE 2 e.block), ← List.append_assoc, ← List.append_assoc, drop_take_mid _ _ _ 13 2 (by simp [bigE_length]) (bigE_length _ _)]
      exact num_bigE_id 2 _ 65536 (by decide) hb0 (by omega)
    refine ⟨hw, ?_⟩
    unfold entE
    rw [if_pos hw, hh, if_neg (by omega), if_neg (by omega), hn, hn9, hn13]
    obtain ⟨k', t, s, a, b⟩ := e
    simp_all

theorem num_part_bd (l : List Int) (hb : isBytes l) (p n : Nat) (m : Int) (hm : (256 : Int) ^ n = m) : 0 ≤ num ((l.drop p).take n) ∧ num ((l.drop p).take n) < m := by
  have h := num_bd _ (isBytes_part l hb p n)
  have hle : ((l.drop p).take n).length ≤ n := by simp; omega
  have h2 := Int.ofNat_le.2 (Nat.pow_le_pow_right (n := 256) (by decide) hle)
  rw [Int.natCast_pow, Int.natCast_pow] at h2
  have h3 : (256 : Int) ^ ((l.drop p).take n).length ≤ 256 ^ n := h2
  omega

theorem bigE_part (l : List Int) (hb : isBytes l) (p n : Nat) (h : p + n ≤ l.length) : bigE n (num ((l.drop p).take n)) = (l.drop p).take n := by
  have := bigE_num _ (isBytes_part l hb p n)
  rwa [show ((l.drop p).take n).length = n by simp; omega] at this

theorem entE_ok (l : List Int) (hb : isBytes l) : (entE l).Ok := by
  have h0 := b1_bd l hb 0
  have h8 := num_part_bd l hb 1 8 18446744073709551616 (by decide)
  have h9 := num_part_bd l hb 9 4 4294967296 (by decide)
  have h13 := num_part_bd l hb 13 4 4294967296 (by decide)
  have h132 := num_part_bd l hb 13 2 65536 (by decide)
  have h17 := num_part_bd l hb 17 2 65536 (by decide)
  unfold entE
  split
  · rename_i hw
    have ht := (whyE_zero hw).2.2
    split
    · constructor <;> dsimp only <;> omega
    split
    · constructor <;> dsimp only <;> omega
    · constructor <;> dsimp only <;> omega
  · constructor <;> decide

theorem take_cons1 (l : List Int) (h : 1 ≤ l.length) : l.take 1 = [b1 l 0] := by
  cases l with
  | nil => simp at h
  | cons a l => simp [b1]

/-- What was read is an entry that may be, and its bytes are those that were read. -/
theorem bytesE_entE {l : List Int} (hb : isBytes l) (hw : whyE l = 0) : (entE l).May ∧ bytesE (entE l) = l := by
  obtain ⟨hl, hk, ht⟩ := whyE_zero hw
  have h8 := num_part_bd l hb 1 8 18446744073709551616 (by decide)
  have h132 := num_part_bd l hb 13 2 65536 (by decide)
  have h17 := num_part_bd l hb 17 2 65536 (by decide)
  have g0 := b1_bd l hb 0
  have split3 : ∀ (p q : Nat), ∀ m : List Int, p + q ≤ m.length → m.take (p + q) = m.take p ++ (m.drop p).take q := by
    intro p q m _; rw [List.take_add]
  rcases hk with k | k | k
  · have hlen : l.length = 9 := by rw [k] at hl; simp [sizeK] at hl; omega
    have e : entE l = ⟨b1 l 0, num ((l.drop 1).take 8), 0, 0, 0⟩ := by unfold entE; rw [if_pos hw, if_pos k]
    rw [e]
    refine ⟨⟨h8.1, ht, .inl ⟨k, rfl, rfl, rfl⟩⟩, ?_⟩
    unfold bytesE
    dsimp only
    rw [if_pos k, bigE_one _ g0.1 g0.2, bigE_part l hb 1 8 (by omega), ← take_cons1 l (by omega), ← split3 1 8 l (by omega)]
    rw [List.take_of_length_le (by omega)]
  · have hlen : l.length = 19 := by rw [k] at hl; simp [sizeK] at hl; omega
    have e : entE l = ⟨b1 l 0, num ((l.drop 1).take 8), num ((l.drop 9).take 4), num ((l.drop 13).take 4), num ((l.drop 17).take 2)⟩ := by unfold entE; rw [if_pos hw, if_neg (by omega), if_pos k]
    rw [e]
    refine ⟨⟨h8.1, ht, .inr (.inl ⟨k, h17.1, by show num _ ≤ _; omega⟩)⟩, ?_⟩
    unfold bytesE
    dsimp only
    rw [if_neg (by omega), if_pos k, bigE_one _ g0.1 g0.2, bigE_part l hb 1 8 (by omega), bigE_part l hb 9 4 (by omega), bigE_part l hb 13 4 (by omega), bigE_part l hb 17 2 (by omega), ← take_cons1 l (by omega), ← split3 1 8 l (by omega), ← split3 9 4 l (by omega), ← split3 13 4 l (by omega), ← split3 17 2 l (by omega)]
    rw [List.take_of_length_le (by omega)]
  · have hlen : l.length = 15 := by rw [k] at hl; simp [sizeK] at hl; omega
    have e : entE l = ⟨b1 l 0, num ((l.drop 1).take 8), 0, num ((l.drop 9).take 4), num ((l.drop 13).take 2)⟩ := by unfold entE; rw [if_pos hw, if_neg (by omega), if_neg (by omega)]
    rw [e]
    refine ⟨⟨h8.1, ht, .inr (.inr ⟨k, h132.1, by show num _ ≤ _; omega, rfl⟩)⟩, ?_⟩
    unfold bytesE
    dsimp only
    rw [if_neg (by omega), if_neg (by omega), bigE_one _ g0.1 g0.2, bigE_part l hb 1 8 (by omega), bigE_part l hb 9 4 (by omega), bigE_part l hb 13 2 (by omega), ← take_cons1 l (by omega), ← split3 1 8 l (by omega), ← split3 9 4 l (by omega), ← split3 13 2 l (by omega)]
    rw [List.take_of_length_le (by omega)]

/-- A byte more is too long. -/
theorem whyE_more {l : List Int} (hw : whyE l = 0) (c : Int) : whyE (l ++ [c]) = 3 := by
  obtain ⟨hl, hk, ht⟩ := whyE_zero hw
  have hs : sizeK (b1 l 0) ≠ 0 := by unfold sizeK; rcases hk with h | h | h <;> rw [h] <;> decide
  have hp : 0 < l.length := by
    rcases Nat.eq_zero_or_pos l.length with h | h
    · omega
    · exact h
  have hh : b1 (l ++ [c]) 0 = b1 l 0 := getD_append_left l [c] 0 hp
  unfold whyE
  rw [hh, List.length_append, List.length_singleton, if_neg (by omega), if_neg hs, if_neg (by omega), if_pos (by omega)]

/-- A byte less is too short. -/
theorem whyE_less {l : List Int} (hw : whyE l = 0) : whyE (l.take (l.length - 1)) = 2 := by
  obtain ⟨hl, hk, ht⟩ := whyE_zero hw
  have hs : 9 ≤ sizeK (b1 l 0) := by unfold sizeK; rcases hk with h | h | h <;> rw [h] <;> decide
  have hh : b1 (l.take (l.length - 1)) 0 = b1 l 0 := by
    unfold b1; simp only [List.getD, List.getElem?_take]; rw [if_pos (by omega)]
  have hll : (l.take (l.length - 1)).length = l.length - 1 := by rw [List.length_take]; omega
  unfold whyE
  rw [hh, hll, if_neg (by omega), if_neg (by omega), if_pos (by omega)]

end Go.Proofs.YtafkkehcacdodaaGreat

namespace Go.Proofs.YtafkkehcacdodaaGreat
open Go.RowKit

/-- A span in numbers. -/
structure Sp where
  sub : Int
  addr : Int
  block : Int
  frm : Int
  til : Int
  opn : Bool
deriving DecidableEq, Inhabited

/-- What the kinds of the numbers say. -/
structure Sp.Ok (s : Sp) : Prop where
  sub0 : 0 ≤ s.sub
  sub1 : s.sub < 4294967296
  addr0 : 0 ≤ s.addr
  addr1 : s.addr < 4294967296
  block0 : -9223372036854775808 ≤ s.block
  block1 : s.block ≤ 9223372036854775807
  frm0 : -9223372036854775808 ≤ s.frm
  frm1 : s.frm ≤ 9223372036854775807
  til0 : -9223372036854775808 ≤ s.til
  til1 : s.til ≤ 9223372036854775807

def OkAll (l : List Sp) : Prop := ∀ s ∈ l, s.Ok

def Sp.here (s : Sp) (a k : Int) : Bool := decide (s.addr = a) && decide (s.block = k)

theorem here_iff {s : Sp} {a k : Int} : s.here a k = true ↔ s.addr = a ∧ s.block = k := by simp [Sp.here]

/-- The place of the open span of a block. -/
def openI (l : List Sp) (a k : Int) : Option Nat := l.findIdx? (fun s => s.opn && s.here a k)

def OpenAt (l : List Sp) (a k : Int) (i : Nat) : Prop := ∃ s, l[i]? = some s ∧ s.opn = true ∧ s.addr = a ∧ s.block = k

/-- No block has two open spans. -/
def Uniq (l : List Sp) : Prop := ∀ a k i j, OpenAt l a k i → OpenAt l a k j → i = j

theorem openI_at {l : List Sp} {a k : Int} {i : Nat} (h : openI l a k = some i) : OpenAt l a k i := by
  obtain ⟨hi, hp, _⟩ := List.findIdx?_eq_some_iff_getElem.1 h
  simp only [Bool.and_eq_true, here_iff] at hp
  exact ⟨l[i], List.getElem?_eq_getElem hi, hp.1, hp.2⟩

theorem openI_none {l : List Sp} {a k : Int} (h : openI l a k = none) (i : Nat) : ¬ OpenAt l a k i := by
  rintro ⟨s, hs, h1, h2⟩
  have := List.findIdx?_eq_none_iff.1 h s (List.mem_of_getElem? hs)
  simp [h1, here_iff.2 h2] at this

theorem openI_iff {l : List Sp} (hU : Uniq l) {a k : Int} {i : Nat} : openI l a k = some i ↔ OpenAt l a k i := by
  refine ⟨openI_at, fun h => ?_⟩
  cases ho : openI l a k with
  | none => exact absurd h (openI_none ho i)
  | some j => rw [hU a k j i (openI_at ho) h]

theorem openI_lt {l : List Sp} {a k : Int} {i : Nat} (h : openI l a k = some i) : i < l.length := by
  obtain ⟨s, hs, _⟩ := openI_at h
  exact (List.getElem?_eq_some_iff.1 hs).1

theorem openI_ext {l l' : List Sp} (hU' : Uniq l') {a k a' k' : Int} (h : ∀ i, OpenAt l' a' k' i ↔ OpenAt l a k i) : openI l' a' k' = openI l a k := by
  cases ho : openI l a k with
  | none =>
    cases ho' : openI l' a' k' with
    | none => rfl
    | some j => exact absurd ((h j).1 (openI_at ho')) (openI_none ho j)
  | some j => exact (openI_iff hU').2 ((h j).2 (openI_at ho))

def shutS (s : Sp) (t : Int) : Sp := ⟨s.sub, s.addr, s.block, s.frm, max s.frm t, false⟩

/-- The time before. -/
def aheadT (t : Int) : Int := max t (-9223372036854775807) - 1

/-- The span of a place is shut. -/
def shutAt (l : List Sp) (i : Nat) (t : Int) : List Sp := l.set i (shutS (l.getD i default) t)

theorem shutAt_length (l : List Sp) (i : Nat) (t : Int) : (shutAt l i t).length = l.length := by simp [shutAt]

def shutI (l : List Sp) (o : Option Nat) (t : Int) : List Sp :=
  match o with
  | some i => shutAt l i t
  | none => l

theorem shutI_length (l : List Sp) (o : Option Nat) (t : Int) : (shutI l o t).length = l.length := by
  cases o <;> simp [shutI, shutAt_length]

def newS (e : En) : Sp := ⟨e.sub, e.addr, e.block, e.time, 0, true⟩

/-- What one entry does. -/
def stepS (l : List Sp) (e : En) : List Sp :=
  if e.kind = 2 then shutI l (openI l e.addr e.block) (aheadT e.time) ++ [newS e]
  else if e.kind = 3 then shutI l (openI l e.addr e.block) e.time
  else l

def spans (l : List En) : List Sp := l.foldl stepS []

theorem spans_snoc (l : List En) (e : En) : spans (l ++ [e]) = stepS (spans l) e := by simp [spans, List.foldl_append]

theorem openAt_set {l : List Sp} {i : Nat} {t : Int} {a k : Int} {j : Nat} : OpenAt (shutAt l i t) a k j ↔ j ≠ i ∧ OpenAt l a k j := by
  unfold OpenAt shutAt
  constructor
  · rintro ⟨s, hs, h1, h2⟩
    rw [List.getElem?_set] at hs
    by_cases hij : i = j
    · subst hij
      simp only [if_pos] at hs
      split at hs
      · injection hs with hs
        subst hs
        cases h1
      · cases hs
    · rw [if_neg hij] at hs
      exact ⟨fun h => hij h.symm, s, hs, h1, h2⟩
  · rintro ⟨hne, s, hs, h1, h2⟩
    exact ⟨s, by rw [List.getElem?_set, if_neg (fun h => hne h.symm)]; exact hs, h1, h2⟩

theorem openAt_snoc {l : List Sp} {s : Sp} {a k : Int} {j : Nat} : OpenAt (l ++ [s]) a k j ↔ OpenAt l a k j ∨ (j = l.length ∧ s.opn = true ∧ s.addr = a ∧ s.block = k) := by
  unfold OpenAt
  constructor
  · rintro ⟨u, hu, h1, h2⟩
    rcases Nat.lt_trichotomy j l.length with h | h | h
    · rw [List.getElem?_append_left h] at hu
      exact .inl ⟨u, hu, h1, h2⟩
    · subst h
      simp at hu
      subst hu
      exact .inr ⟨rfl, h1, h2⟩
    · rw [List.getElem?_eq_none (by simp; omega)] at hu
      cases hu
  · rintro (⟨u, hu, h1, h2⟩ | ⟨rfl, h1, h2⟩)
    · exact ⟨u, by rw [List.getElem?_append_left (List.getElem?_eq_some_iff.1 hu).1]; exact hu, h1, h2⟩
    · exact ⟨s, by simp, h1, h2⟩

/-- Behind the shutting of what is open there: nothing is open there, all else is as it was. -/
theorem openAt_shutI {l : List Sp} (hU : Uniq l) {a k : Int} {t : Int} {a' k' : Int} {j : Nat} :
    OpenAt (shutI l (openI l a k) t) a' k' j ↔ (¬ (a' = a ∧ k' = k)) ∧ OpenAt l a' k' j := by
  cases ho : openI l a k with
  | none =>
    refine ⟨fun h => ⟨?_, h⟩, fun h => h.2⟩
    rintro ⟨rfl, rfl⟩
    exact openI_none ho j h
  | some i =>
    show OpenAt (shutAt l i t) a' k' j ↔ _
    rw [openAt_set]
    have hi := openI_at ho
    refine ⟨fun ⟨h1, h2⟩ => ⟨?_, h2⟩, fun ⟨h1, h2⟩ => ⟨?_, h2⟩⟩
    · rintro ⟨rfl, rfl⟩
      exact h1 (hU _ _ _ _ h2 hi)
    · rintro rfl
      obtain ⟨s, hs, _, h3, h4⟩ := hi
      obtain ⟨s', hs', _, h5, h6⟩ := h2
      rw [hs] at hs'
      injection hs' with hs'
      subst hs'
      exact h1 ⟨h5.symm.trans h3, h6.symm.trans h4⟩

theorem uniq_shutI {l : List Sp} (hU : Uniq l) (a k t : Int) : Uniq (shutI l (openI l a k) t) := fun a' k' i j h1 h2 =>
  hU a' k' i j ((openAt_shutI hU).1 h1).2 ((openAt_shutI hU).1 h2).2

theorem uniq_nil : Uniq [] := fun a k i j h => by obtain ⟨s, hs, _⟩ := h; simp at hs

theorem uniq_step {l : List Sp} (hU : Uniq l) (e : En) : Uniq (stepS l e) := by
  unfold stepS
  split
  · intro a k i j h1 h2
    rw [openAt_snoc, openAt_shutI hU] at h1 h2
    rcases h1 with ⟨h1a, h1⟩ | ⟨rfl, _, h1⟩ <;> rcases h2 with ⟨h2a, h2⟩ | ⟨rfl, _, h2⟩
    · exact hU _ _ _ _ h1 h2
    · exact absurd ⟨h2.1.symm, h2.2.symm⟩ h1a
    · exact absurd ⟨h1.1.symm, h1.2.symm⟩ h2a
    · rfl
  · split
    · exact uniq_shutI hU _ _ _
    · exact hU

theorem uniq_spans (l : List En) : Uniq (spans l) := by
  unfold spans
  suffices H : ∀ (l : List En) (acc : List Sp), Uniq acc → Uniq (l.foldl stepS acc) from H l [] uniq_nil
  intro l
  induction l with
  | nil => intro acc h; exact h
  | cons e l ih => intro acc h; exact ih _ (uniq_step h e)

/-- What is open behind a grant. -/
theorem openI_grant {l : List Sp} (hU : Uniq l) {e : En} (he : e.kind = 2) (a k : Int) :
    openI (stepS l e) a k = if a = e.addr ∧ k = e.block then some l.length else openI l a k := by
  have hU' := uniq_step hU e
  split
  · rename_i h
    rw [openI_iff hU']
    unfold stepS
    rw [if_pos he, openAt_snoc]
    exact .inr ⟨(shutI_length _ _ _).symm, rfl, h.1.symm, h.2.symm⟩
  · rename_i h
    refine openI_ext hU' fun i => ?_
    unfold stepS
    rw [if_pos he, openAt_snoc, openAt_shutI hU]
    refine ⟨?_, fun h' => .inl ⟨h, h'⟩⟩
    rintro (⟨_, h'⟩ | ⟨_, _, h1, h2⟩)
    · exact h'
    · exact absurd ⟨h1.symm, h2.symm⟩ h

theorem openI_release {l : List Sp} (hU : Uniq l) {e : En} (he : e.kind = 3) (a k : Int) :
    openI (stepS l e) a k = if a = e.addr ∧ k = e.block then none else openI l a k := by
  have hU' := uniq_step hU e
  have hs : stepS l e = shutI l (openI l e.addr e.block) e.time := by
    unfold stepS; rw [if_neg (by omega), if_pos he]
  split
  · rename_i h
    cases ho : openI (stepS l e) a k with
    | none => rfl
    | some j =>
      have := openI_at ho
      rw [hs, openAt_shutI hU] at this
      exact absurd h this.1
  · rename_i h
    refine openI_ext hU' fun i => ?_
    rw [hs, openAt_shutI hU]
    exact ⟨fun h' => h'.2, fun h' => ⟨h, h'⟩⟩

/-! ### The numbers stay in their kinds -/
theorem ok_shut {s : Sp} (h : s.Ok) {t : Int} (h0 : -9223372036854775808 ≤ t) (h1 : t ≤ 9223372036854775807) : (shutS s t).Ok :=
  ⟨h.sub0, h.sub1, h.addr0, h.addr1, h.block0, h.block1, h.frm0, h.frm1, by show _ ≤ max _ _; have := h.frm0; omega, by show max _ _ ≤ _; have := h.frm1; omega⟩

theorem ok_shutI {l : List Sp} (h : OkAll l) {o : Option Nat} (ho : ∀ i, o = some i → i < l.length) {t : Int} (h0 : -9223372036854775808 ≤ t) (h1 : t ≤ 9223372036854775807) : OkAll (shutI l o t) := by
  cases o with
  | none => exact h
  | some i =>
    intro s hs
    rcases List.mem_or_eq_of_mem_set hs with h' | rfl
    · exact h s h'
    · have hi := ho i rfl
      refine ok_shut (h _ ?_) h0 h1
      rw [List.getD_eq_getElem?_getD, List.getElem?_eq_getElem hi]
      exact List.getElem_mem hi

theorem aheadT_bd {t : Int} (h0 : -9223372036854775808 ≤ t) (h1 : t ≤ 9223372036854775807) : -9223372036854775808 ≤ aheadT t ∧ aheadT t ≤ 9223372036854775807 := by unfold aheadT; omega

theorem ok_new {e : En} (h : e.Ok) : (newS e).Ok := ⟨h.sub0, h.sub1, h.addr0, h.addr1, h.block0, h.block1, h.time0, h.time1, by simp [newS], by simp [newS]⟩

theorem ok_step {l : List Sp} (h : OkAll l) {e : En} (he : e.Ok) : OkAll (stepS l e) := by
  unfold stepS
  split
  · intro s hs
    rcases List.mem_append.1 hs with hs | hs
    · exact ok_shutI h (fun i hi => openI_lt hi) (aheadT_bd he.time0 he.time1).1 (aheadT_bd he.time0 he.time1).2 s hs
    · rw [List.mem_singleton.1 hs]; exact ok_new he
  · split
    · exact ok_shutI h (fun i hi => openI_lt hi) he.time0 he.time1
    · exact h

theorem ok_spans {l : List En} (h : ∀ e ∈ l, e.Ok) : OkAll (spans l) := by
  unfold spans
  suffices H : ∀ (l : List En) (acc : List Sp), (∀ e ∈ l, e.Ok) → OkAll acc → OkAll (l.foldl stepS acc) from H l [] h (fun s hs => by cases hs)
  intro l
  induction l with
  | nil => intro acc _ h; exact h
  | cons e l ih => intro acc h1 h2; exact ih _ (fun x hx => h1 x (by simp [hx])) (ok_step h2 (h1 e (by simp)))

theorem step_length (l : List Sp) (e : En) : (stepS l e).length ≤ l.length + 1 := by
  unfold stepS
  split
  · simp [shutI_length]
  · split
    · simp [shutI_length]
    · omega

theorem spans_length (l : List En) : (spans l).length ≤ l.length := by
  unfold spans
  suffices H : ∀ (l : List En) (acc : List Sp), (l.foldl stepS acc).length ≤ acc.length + l.length by simpa using H l []
  intro l
  induction l with
  | nil => intro acc; simp
  | cons e l ih => intro acc; have := ih (stepS acc e); have := step_length acc e; simp only [List.foldl_cons, List.length_cons]; omega

/-! ### Who had a block -/
def hit (s : Sp) (a k t : Int) : Bool := s.here a k && decide (s.frm ≤ t) && (s.opn || decide (t ≤ s.til))

theorem hit_iff {s : Sp} {a k t : Int} : hit s a k t = true ↔ (s.addr = a ∧ s.block = k) ∧ s.frm ≤ t ∧ (s.opn = true ∨ t ≤ s.til) := by
  simp [hit, here_iff, and_assoc]

/-- Who had a block at a time, as the spans come. -/
def subsAt (l : List Sp) (a k t : Int) : List Int := (l.filter (fun s => hit s a k t)).map Sp.sub

theorem mem_subsAt {l : List Sp} {a k t x : Int} : x ∈ subsAt l a k t ↔ ∃ s ∈ l, hit s a k t = true ∧ s.sub = x := by
  simp [subsAt, and_assoc]

/-- A strictly rising list of those. -/
structure WhoOf (l : List Sp) (a k t : Int) (r : List Int) : Prop where
  up : r.Pairwise (· < ·)
  mem : ∀ x, x ∈ r ↔ x ∈ subsAt l a k t

theorem rising_unique : ∀ {r r' : List Int}, r.Pairwise (· < ·) → r'.Pairwise (· < ·) → (∀ x, x ∈ r ↔ x ∈ r') → r = r'
  | [], [], _, _, _ => rfl
  | [], y :: r', _, _, h => by have := (h y).2 (by simp); cases this
  | x :: r, [], _, _, h => by have := (h x).1 (by simp); cases this
  | x :: r, y :: r', h1, h2, h => by
    obtain ⟨h1a, h1b⟩ := List.pairwise_cons.1 h1
    obtain ⟨h2a, h2b⟩ := List.pairwise_cons.1 h2
    have hxy : x = y := by
      rcases List.mem_cons.1 ((h x).1 (by simp)) with e | e
      · exact e
      · rcases List.mem_cons.1 ((h y).2 (by simp)) with e' | e'
        · exact e'.symm
        · have := h2a x e; have := h1a y e'; omega
    subst hxy
    congr 1
    refine rising_unique h1b h2b fun z => ?_
    constructor
    · intro hz
      rcases List.mem_cons.1 ((h z).1 (by simp [hz])) with e | e
      · subst e; have := h1a z hz; omega
      · exact e
    · intro hz
      rcases List.mem_cons.1 ((h z).2 (by simp [hz])) with e | e
      · subst e; have := h2a z hz; omega
      · exact e

theorem WhoOf.one {l : List Sp} {a k t : Int} {r r' : List Int} (h : WhoOf l a k t r) (h' : WhoOf l a k t r') : r = r' :=
  rising_unique h.up h'.up fun x => (h.mem x).trans (h'.mem x).symm

theorem rising_length {r : List Int} (h : r.Pairwise (· < ·)) : r.Nodup := h.imp (fun h => by omega)

/-! ### Entries behind -/
theorem subsAt_set {l : List Sp} {i : Nat} {s s' : Sp} {a k t : Int} (hi : l[i]? = some s) (hh : hit s' a k t = hit s a k t) (hs : s'.sub = s.sub) : subsAt (l.set i s') a k t = subsAt l a k t := by
  unfold subsAt
  induction l generalizing i with
  | nil => rfl
  | cons x l ih =>
    cases i with
    | zero =>
      simp at hi
      subst hi
      simp only [List.set_cons_zero, List.filter_cons, hh]
      split <;> simp [hs]
    | succ i =>
      simp only [List.getElem?_cons_succ] at hi
      have := ih hi
      simp only [List.set_cons_succ, List.filter_cons]
      split <;> simp [this]

theorem subsAt_shutI {l : List Sp} {a' k' u : Int} {a k t : Int} (h : t ≤ u) : subsAt (shutI l (openI l a' k') u) a k t = subsAt l a k t := by
  cases ho : openI l a' k' with
  | none => rfl
  | some i =>
    obtain ⟨s, hs, h1, _⟩ := openI_at ho
    have hi := (List.getElem?_eq_some_iff.1 hs).1
    have hd : l.getD i default = s := by rw [List.getD_eq_getElem?_getD, hs]; rfl
    refine subsAt_set hs ?_ ?_
    · rw [hd]
      apply Bool.eq_iff_iff.2
      rw [hit_iff, hit_iff]
      simp only [shutS, h1]
      constructor
      · rintro ⟨h1, h2, h3⟩; exact ⟨h1, h2, .inl trivial⟩
      · rintro ⟨h1, h2, h3⟩; exact ⟨h1, h2, .inr (by omega)⟩
    · rw [hd]; rfl

theorem subsAt_step {l : List Sp} {e : En} {a k t : Int} (h : t + 1 ≤ e.time) (h0 : -9223372036854775808 ≤ t) : subsAt (stepS l e) a k t = subsAt l a k t := by
  unfold stepS
  split
  · have : subsAt (shutI l (openI l e.addr e.block) (aheadT e.time) ++ [newS e]) a k t = subsAt (shutI l (openI l e.addr e.block) (aheadT e.time)) a k t := by
      unfold subsAt
      rw [List.filter_append]
      have : hit (newS e) a k t = false := by
        cases hh : hit (newS e) a k t
        · rfl
        · have := (hit_iff.1 hh).2.1
          simp only [newS] at this
          omega
      simp [this]
    rw [this]
    exact subsAt_shutI (by unfold aheadT; omega)
  · split
    · exact subsAt_shutI (by omega)
    · rfl

theorem subsAt_more {l more : List En} {a k t : Int} (h : ∀ e ∈ more, t + 1 ≤ e.time) (h0 : -9223372036854775808 ≤ t) : subsAt (spans (l ++ more)) a k t = subsAt (spans l) a k t := by
  unfold spans
  rw [List.foldl_append]
  generalize l.foldl stepS [] = acc
  induction more generalizing acc with
  | nil => rfl
  | cons e more ih => rw [List.foldl_cons, ih (fun x hx => h x (by simp [hx])), subsAt_step (h e (by simp)) h0]

/-! ### Spans apart -/
/-- The last time of a span. -/
def endS (s : Sp) : Int := if s.opn then 9223372036854775807 else s.til

def meetB (x y : Sp) : Bool := (x.opn || decide (x.til ≥ y.frm)) && (y.opn || decide (y.til ≥ x.frm)) && (x.opn || decide (x.til ≥ x.frm)) && (y.opn || decide (y.til ≥ y.frm))

def fullB (s : Sp) : Bool := decide (s.frm ≤ endS s)

theorem or_end {s : Sp} {x : Int} (hx : x ≤ 9223372036854775807) : (s.opn || decide (s.til ≥ x)) = decide (x ≤ endS s) := by
  unfold endS
  cases s.opn <;> simp [hx]

theorem meetB_eq {x y : Sp} (hx : x.Ok) (hy : y.Ok) : meetB x y = (decide (y.frm ≤ endS x) && decide (x.frm ≤ endS y) && fullB x && fullB y) := by
  unfold meetB fullB
  rw [or_end hy.frm1, or_end hx.frm1, or_end hx.frm1, or_end hy.frm1]

/-- Two spans of one block with a time in common. -/
def clash (x y : Sp) : Bool := decide (x.addr = y.addr) && decide (x.block = y.block) && meetB x y

def Apart (l : List Sp) : Prop := l.Pairwise (fun x y => clash x y = false)

theorem meetB_comm (x y : Sp) : meetB x y = meetB y x := by
  unfold meetB
  cases x.opn <;> cases y.opn <;> simp <;> grind

theorem clash_comm (x y : Sp) : clash x y = clash y x := by
  unfold clash
  rw [meetB_comm]
  congr 2
  · exact decide_eq_decide.2 ⟨Eq.symm, Eq.symm⟩
  · exact decide_eq_decide.2 ⟨Eq.symm, Eq.symm⟩

/-- If Apart, one at most is told. -/
theorem apart_one {l : List Sp} (h : Apart l) {a k t : Int} {r : List Int} (hr : WhoOf l a k t r) : r.length ≤ 1 := by
  match r, hr with
  | [], _ => simp
  | [_], _ => simp
  | x :: y :: r, hr =>
    exfalso
    have hxy : x < y := (List.pairwise_cons.1 hr.up).1 y (by simp)
    obtain ⟨s, hs, hs1, hs2⟩ := mem_subsAt.1 ((hr.mem x).1 (by simp))
    obtain ⟨u, hu, hu1, hu2⟩ := mem_subsAt.1 ((hr.mem y).1 (by simp))
    have hne : s ≠ u := by rintro rfl; omega
    have hc : clash s u = true := by
      rw [hit_iff] at hs1 hu1
      unfold clash meetB
      rcases hs1.2.2 with h1 | h1 <;> rcases hu1.2.2 with h2 | h2 <;> simp [h1, h2, hs1.1.1, hs1.1.2, hu1.1.1, hu1.1.2] <;> omega
    have hall : ∀ {l : List Sp}, Apart l → ∀ s ∈ l, ∀ u ∈ l, s ≠ u → clash s u = false := by
      intro l hl
      induction l with
      | nil => intro s hs; cases hs
      | cons z l ih =>
        obtain ⟨h1, h2⟩ := List.pairwise_cons.1 hl
        intro s hs u hu hne
        rcases List.mem_cons.1 hs with e1 | hs
        · rcases List.mem_cons.1 hu with e2 | hu
          · exact absurd (e1.trans e2.symm) hne
          · rw [e1]; exact h1 u hu
        · rcases List.mem_cons.1 hu with e2 | hu
          · rw [e2, clash_comm]; exact h1 s hs
          · exact ih h2 s hs u hu hne
    rw [hall h s hs u hu hne] at hc
    cases hc

/-! ### The rows of the blocks -/
/-- The spans of a block that have a time. -/
def rowOf (l : List Sp) (a k : Int) : List Sp := l.filter (fun s => s.here a k && fullB s)

theorem rowOf_snoc (l : List Sp) (s : Sp) (a k : Int) : rowOf (l ++ [s]) a k = rowOf l a k ++ if (s.here a k && fullB s) = true then [s] else [] := by
  unfold rowOf
  rw [List.filter_append]
  congr 1
  simp [List.filter_cons]

theorem mem_rowOf {l : List Sp} {a k : Int} {s : Sp} : s ∈ rowOf l a k ↔ s ∈ l ∧ (s.addr = a ∧ s.block = k) ∧ fullB s = true := by
  simp [rowOf, here_iff]

theorem pair_filter {α : Type} {R : α → α → Prop} {p : α → Bool} : ∀ {l : List α}, (l.filter p).Pairwise R ↔ l.Pairwise (fun x y => p x = true → p y = true → R x y) := List.pairwise_filter

/-- Apart, block by block. -/
theorem apart_rows {l : List Sp} (hok : OkAll l) : Apart l ↔ ∀ a k, (rowOf l a k).Pairwise (fun x y => ¬ (y.frm ≤ endS x ∧ x.frm ≤ endS y)) := by
  constructor
  · intro h a k
    unfold rowOf
    rw [pair_filter]
    refine List.Pairwise.imp_of_mem ?_ h
    intro x y hx hy hxy h1 h2 h3
    simp only [Bool.and_eq_true, here_iff] at h1 h2
    have : clash x y = true := by
      unfold clash
      rw [meetB_eq (hok x hx) (hok y hy)]
      simp [h1.1.1, h1.1.2, h2.1.1, h2.1.2, h1.2, h2.2, h3.1, h3.2]
    rw [hxy] at this
    cases this
  · intro h
    unfold Apart
    have : l.Pairwise (fun x y => x ∈ l ∧ y ∈ l ∧ ((x.addr = y.addr ∧ x.block = y.block) → fullB x = true → fullB y = true → ¬ (y.frm ≤ endS x ∧ x.frm ≤ endS y))) := by
      have hall : ∀ a k, l.Pairwise (fun x y => (x.here a k && fullB x) = true → (y.here a k && fullB y) = true → ¬ (y.frm ≤ endS x ∧ x.frm ≤ endS y)) := fun a k => pair_filter.1 (h a k)
      refine List.Pairwise.imp_of_mem (R := fun x y => ∀ a k, (x.here a k && fullB x) = true → (y.here a k && fullB y) = true → ¬ (y.frm ≤ endS x ∧ x.frm ≤ endS y)) ?_ ?_
      · intro x y hx hy hxy
        refine ⟨hx, hy, fun he h1 h2 => hxy y.addr y.block ?_ ?_⟩
        · simp [here_iff, he, h1]
        · simp [here_iff, h2]
      · clear h hok
        induction l with
        | nil => exact List.Pairwise.nil
        | cons x l ih =>
          refine List.pairwise_cons.2 ⟨fun y hy a k => ?_, ih fun a k => (List.pairwise_cons.1 (hall a k)).2⟩
          exact (List.pairwise_cons.1 (hall a k)).1 y hy
    refine this.imp ?_
    rintro x y ⟨hx, hy, hxy⟩
    cases hc : clash x y
    · rfl
    · exfalso
      unfold clash at hc
      rw [meetB_eq (hok x hx) (hok y hy)] at hc
      simp only [Bool.and_eq_true, decide_eq_true_eq] at hc
      exact hxy hc.1 hc.2.1.2 hc.2.2 hc.2.1.1

/-- Of spans in the order of their beginnings, each with a time: no two meet where no neighbours do. -/
theorem chain_apart : ∀ {r : List Sp}, r.Pairwise (fun x y => x.frm ≤ y.frm) → (∀ s ∈ r, s.frm ≤ endS s) → (∀ i x y, r[i]? = some x → r[i + 1]? = some y → endS x < y.frm) → r.Pairwise (fun x y => endS x < y.frm)
  | [], _, _, _ => List.Pairwise.nil
  | [x], _, _, _ => by simp
  | x :: y :: r, hs, hf, ha => by
    have ih := chain_apart (List.pairwise_cons.1 hs).2 (fun s h => hf s (by simp [h])) (fun i u v hu hv => ha (i + 1) u v (by simpa using hu) (by simpa using hv))
    refine List.pairwise_cons.2 ⟨fun z hz => ?_, ih⟩
    have h0 := ha 0 x y rfl rfl
    rcases List.mem_cons.1 hz with rfl | hz
    · exact h0
    · have h1 := (List.pairwise_cons.1 ih).1 z hz
      have h2 := hf y (by simp)
      omega

theorem row_apart {r r' : List Sp} (hp : r.Perm r') (hs : r.Pairwise (fun x y => x.frm ≤ y.frm)) (hf : ∀ s ∈ r, s.frm ≤ endS s) :
    r'.Pairwise (fun x y => ¬ (y.frm ≤ endS x ∧ x.frm ≤ endS y)) ↔ ∀ i x y, r[i]? = some x → r[i + 1]? = some y → endS x < y.frm := by
  have hsym : ∀ {x y : Sp}, ¬ (y.frm ≤ endS x ∧ x.frm ≤ endS y) → ¬ (x.frm ≤ endS y ∧ y.frm ≤ endS x) := fun h h' => h ⟨h'.2, h'.1⟩
  rw [← hp.pairwise_iff hsym]
  constructor
  · intro h i x y hx hy
    have hi := (List.getElem?_eq_some_iff.1 hx)
    have hi1 := (List.getElem?_eq_some_iff.1 hy)
    have h1 := List.pairwise_iff_getElem.1 h i (i + 1) hi.1 hi1.1 (by omega)
    have h2 := List.pairwise_iff_getElem.1 hs i (i + 1) hi.1 hi1.1 (by omega)
    rw [hi.2, hi1.2] at h1 h2
    have h3 := hf y (List.mem_of_getElem? hy)
    by_cases hc : endS x < y.frm
    · exact hc
    · exact absurd ⟨by omega, by omega⟩ h1
  · intro h
    exact (chain_apart hs hf h).imp (fun h h' => by omega)

end Go.Proofs.YtafkkehcacdodaaGreat

namespace Go.Proofs.YtafkkehcacdodaaGreat
open Go.RowKit

/-- A panic of an error's number. -/
def chainOf (x : Int) : List PanicEntry := [{ v := .iface 26 (.int .i64 x), recovered := false }]

theorem getV_bd (l : List Int) (hb : isBytes l) (p n : Int) (hn : n ≤ 4) : 0 ≤ getV l p n ∧ getV l p n < 4294967296 := by
  unfold getV
  split
  · have h := num_bd _ (isBytes_part l hb p.toNat n.toNat)
    have hle : ((l.drop p.toNat).take n.toNat).length ≤ 4 := by simp; omega
    have : (256 : Int) ^ ((l.drop p.toNat).take n.toNat).length ≤ 256 ^ 4 := by
      have h := Int.ofNat_le.2 (Nat.pow_le_pow_right (n := 256) (by decide) hle)
      rw [Int.natCast_pow, Int.natCast_pow] at h
      exact h
    have e : (256 : Int) ^ 4 = 4294967296 := by decide
    omega
  · omega

end Go.Proofs.YtafkkehcacdodaaGreat

namespace Go.Proofs.YtafkkehcacdodaaGreat
open Go.RowKit

/-- The cells of two variables that were made, in a later world. -/
theorem two_cells {v w' : World} {C C' : Array Value} {t t' : TypeId} (hb : Below ((v.alloc (.cells C t)).alloc (.cells C' t')).heap.size ((v.alloc (.cells C t)).alloc (.cells C' t')) w') :
    (∀ i x, C[i]? = some x → w'.cell? ⟨v.heap.size, i, none⟩ = some x) ∧ (∀ i, w'.frozen? ⟨v.heap.size, i, none⟩ = false) ∧
    (∀ i x, C'[i]? = some x → w'.cell? ⟨v.heap.size + 1, i, none⟩ = some x) ∧ (∀ i, w'.frozen? ⟨v.heap.size + 1, i, none⟩ = false) := by
  have hsz : ((v.alloc (.cells C t)).alloc (.cells C' t')).heap.size = v.heap.size + 1 + 1 := by simp
  have b1 : Below (v.alloc (.cells C t)).heap.size (v.alloc (.cells C t)) w' := below_trans (below_alloc _ _) hb
  refine ⟨fun i x hx => ?_, fun i => ?_, fun i x hx => ?_, fun i => ?_⟩
  · refine cell_later b1 ?_
    rw [World.cell?_alloc_mark v C t (0, 0) i]; exact hx
  · rw [b1.frozen (by simp), World.frozen?_alloc_mark v C t 0 0 i]; simp
  · refine cell_later hb ?_
    have := World.cell?_alloc_mark (v.alloc (.cells C t)) C' t' (0, 0) i
    rw [show (v.alloc (.cells C t)).heap.size = v.heap.size + 1 by simp] at this
    rw [this]; exact hx
  · rw [hb.frozen (by rw [hsz]; exact Nat.lt_succ_self _)]
    have := World.frozen?_alloc_mark (v.alloc (.cells C t)) C' t' 0 0 i
    rw [show (v.alloc (.cells C t)).heap.size = v.heap.size + 1 by simp] at this
    rw [this]; simp

theorem assert_errno (v : Value) (w : World) : (Instr.typeAssert (.iface 26 v) 20 26 false).run Tryz.prog w = .ok v w := by
  simp [Instr.typeAssert, run_underlying Tryz.underlying26]

end Go.Proofs.YtafkkehcacdodaaGreat
