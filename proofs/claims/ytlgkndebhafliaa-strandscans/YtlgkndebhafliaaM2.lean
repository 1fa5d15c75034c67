/- The contracts of the functions that only reckon: fold, turned, Plus, Update, in octet and in the document's own answer. -/
import Derived.Test.YtlgkndebhafliaaRows
import Derived.Test.YtlgkndebhafliaaM1
import Derived.WalkKit
import Derived.WalkSpells
import Derived.WalkLawsBesides
import Derived.Laws.BitsAllLaws
set_option maxRecDepth 100000
namespace Go.Proofs.Ytlgkndebhafliaa
open Go.RowKit

theorem ret_int {k : IntKind} {a b : Int} (h : a = b) : Ending.returned (.int k a) = .returned (.int k b) := by rw [h]

theorem u64_and16 (x : Int) : bits .and .u64 x 65535 = x % 65536 := by
  have h1 : (BitVec.ofInt 64 65535).toNat = 2 ^ 16 - 1 := by decide
  have key : (BitVec.ofInt 64 x &&& BitVec.ofInt 64 65535).toNat = (x % ((2 ^ 64 : Nat) : Int)).toNat % 2 ^ 16 := by
    rw [BitVec.toNat_and, BitVec.toNat_ofInt, h1, Nat.and_two_pow_sub_one_eq_mod]
  show IntKind.u64.wrap ((BitVec.ofInt 64 x &&& BitVec.ofInt 64 65535).toNat : Nat) = _
  rw [key, IntKind.wrap_u64]
  omega
theorem i64_and16 (x : Int) : bits .and .i64 x 65535 = x % 65536 := by
  have h1 : (BitVec.ofInt 64 65535).toNat = 2 ^ 16 - 1 := by decide
  have key : (BitVec.ofInt 64 x &&& BitVec.ofInt 64 65535).toNat = (x % ((2 ^ 64 : Nat) : Int)).toNat % 2 ^ 16 := by
    rw [BitVec.toNat_and, BitVec.toNat_ofInt, h1, Nat.and_two_pow_sub_one_eq_mod]
  show IntKind.i64.wrap ((BitVec.ofInt 64 x &&& BitVec.ofInt 64 65535).toNat : Nat) = _
  rw [key, IntKind.wrap_i64]
  omega
attribute [local go_sem] u64_and16 i64_and16

theorem u64_id (x : Int) (h0 : 0 ≤ x) (h1 : x < 18446744073709551616) : IntKind.u64.wrap x = x := by rw [IntKind.wrap_u64]; omega

end Go.Proofs.Ytlgkndebhafliaa

namespace Go.Proofs.Ytlgkndebhafliaa
open Go.RowKit

def holdsB (len : Nat) (at_ n : Int) : Bool := decide (1 ≤ n ∧ n ≤ 8 ∧ 0 ≤ at_ ∧ at_ ≤ len - n)

theorem ret_bool {a b : Bool} (h : a = b) : Ending.returned (.bool a) = .returned (.bool b) := by rw [h]

set_option maxHeartbeats 400000 in
theorem holds_any (a : Option Addr) (len cap : Nat) (p n : Int) (w : World) (hl : len ≤ maxLen) :
    Calls Try.prog 67 #[.slice a len cap, .int .i64 p, .int .i64 n] w fun e w' => e = .returned (.bool (holdsB len p n)) ∧ w' = w := by
  unfold maxLen at hl
  by_cases h1 : 1 ≤ n
  · by_cases h2 : n ≤ 8
    · by_cases h3 : 0 ≤ p
      · go_enter Try.func67, Try.ntmps67
        go_wp2
        go_ret
        exact ⟨ret_bool (by unfold holdsB; simp [h1, h2, h3]), rfl⟩
      · go_enter Try.func67, Try.ntmps67
        go_wp2
        go_ret
        exact ⟨ret_bool (by unfold holdsB; simp; omega), rfl⟩
    · go_enter Try.func67, Try.ntmps67
      go_wp2
      go_ret
      exact ⟨ret_bool (by unfold holdsB; simp; omega), rfl⟩
  · go_enter Try.func67, Try.ntmps67
    go_wp2
    go_ret
    exact ⟨ret_bool (by unfold holdsB; simp; omega), rfl⟩

/-- The number of bytes, the highest first. -/
def num (l : List Int) : Int := l.foldl (fun x c => x * 256 + c) 0

theorem num_snoc (l : List Int) (c : Int) : num (l ++ [c]) = num l * 256 + c := by unfold num; simp

theorem num_bd (l : List Int) (h : isBytes l) : 0 ≤ num l ∧ num l < 256 ^ l.length := by
  suffices H : ∀ (l : List Int) (x : Int) (m : Nat), isBytes l → 0 ≤ x → x < 256 ^ m → 0 ≤ l.foldl (fun x c => x * 256 + c) x ∧ l.foldl (fun x c => x * 256 + c) x < 256 ^ (m + l.length) by
    have := H l 0 0 h (by omega) (by simp)
    simpa [num] using this
  intro l
  induction l with
  | nil => intro x m _ h0 h1; simpa using ⟨h0, h1⟩
  | cons c l ih =>
    intro x m hb h0 h1
    have hc := hb c (by simp)
    have := ih (x * 256 + c) (m + 1) (fun z hz => hb z (by simp [hz])) (by omega) (by rw [Int.pow_succ]; omega)
    simpa [Nat.add_comm, Nat.add_left_comm, Nat.add_assoc] using this

/-- The bytes that a slice shows: it leads to a row of cells. -/
def Sees (w : World) (b off : Nat) (l : List Int) : Prop := ∀ i, i < l.length → w.cell? ⟨b, off + i, none⟩ = some (.int .u8 (l.getD i 0))

set_option maxHeartbeats 400000 in
theorem get_no (a : Option Addr) (len cap : Nat) (p n : Int) (w : World) (hl : len ≤ maxLen) (h : holdsB len p n = false) :
    Calls Try.prog 74 #[.slice a len cap, .int .i64 p, .int .i64 n] w fun e w' => e = .returned (.tuple #[.int .u64 0, .bool false]) ∧ w' = w := by
  go_enter Try.func74, Try.ntmps74
  go_wp2_with (go_at_call 67; refine (holds_any _ _ _ _ _ _ hl).mono ?_; rintro e w' ⟨rfl, rfl⟩)
  go_ret2
  exact ⟨rfl, rfl⟩

theorem or_low (x c : Int) (h0 : 0 ≤ x) (h1 : x < 72057594037927936) (h2 : 0 ≤ c) (h3 : c < 256) : bits .or .u64 (x * 256) c = x * 256 + c :=
  bits_join .u64 64 (by decide) (fun n a b => u64_id n a b) 8 (x * 256) c (by omega) (by omega) (by omega) h2 (by omega) (by omega)

theorem take_next (l : List Int) (p k : Nat) (h : p + k < l.length) : (l.drop p).take (k + 1) = (l.drop p).take k ++ [l.getD (p + k) 0] := by
  rw [List.take_succ_eq_append_getElem (by simp; omega)]
  simp [List.getElem_drop, List.getElem?_eq_getElem h]

theorem isBytes_part (l : List Int) (hb : isBytes l) (p n : Nat) : isBytes ((l.drop p).take n) :=
  fun z hz => hb z (List.mem_of_mem_drop (List.mem_of_mem_take hz))

theorem num_small (l : List Int) (hb : isBytes l) (p k : Nat) (hk : k ≤ 7) : 0 ≤ num ((l.drop p).take k) ∧ num ((l.drop p).take k) < 72057594037927936 := by
  have h := num_bd _ (isBytes_part l hb p k)
  have hle : ((l.drop p).take k).length ≤ 7 := by simp; omega
  have : (256 : Int) ^ ((l.drop p).take k).length ≤ 256 ^ 7 := by
    have h := Int.ofNat_le.2 (Nat.pow_le_pow_right (n := 256) (by decide) hle)
    rw [Int.natCast_pow, Int.natCast_pow] at h
    exact h
  exact ⟨h.1, by have e : (256 : Int) ^ 7 = 72057594037927936 := by decide
                 omega⟩

set_option maxHeartbeats 400000 in
theorem get_yes (b off len cap : Nat) (l : List Int) (p n : Nat) (w : World) (hl : len ≤ maxLen) (hc : len ≤ cap) (hcm : cap ≤ maxLen) (hL : l.length = len) (hb : isBytes l)
    (hs : Sees w b off l) (h1 : 1 ≤ n) (h2 : n ≤ 8) (h3 : p + n ≤ len) :
    Calls Try.prog 74 #[.slice (some ⟨b, off, none⟩) len cap, .int .i64 p, .int .i64 n] w fun e w' => e = .returned (.tuple #[.int .u64 (num ((l.drop p).take n)), .bool true]) ∧ w' = w := by
  have hh : holdsB len p n = true := by unfold holdsB; simp; omega
  unfold maxLen at hl hcm
  have HL : Hid (l.length = len) := hL
  clear hL
  go_enter Try.func74, Try.ntmps74
  go_wp2_with (go_at_call 67; refine (holds_any _ _ _ _ _ _ (by unfold maxLen; exact hl)).mono ?_; rintro e w' ⟨rfl, rfl⟩)
  go_loop [8, 23] (fun x i => ∃ k : Nat, k ≤ n ∧ i = .int .i64 k ∧ x = .int .u64 (num ((l.drop p).take k))) (fun _ i => n - (intOf i).toNat)
  case atStart => exact ⟨0, Nat.zero_le _, rfl, by simp [num]⟩
  case round =>
    obtain ⟨k, hk, rfl, rfl⟩ := hrel
    by_cases hlt : k < n
    · have hcell := hs (p + k) (by rw [HL.out]; omega)
      have hbyte := getD_byte l hb (p + k)
      have hnb := num_small l hb p k (by omega)
      have hnext := num_snoc ((l.drop p).take k) (l.getD (p + k) 0)
      rw [← take_next l p k (by rw [HL.out]; omega)] at hnext
      have HN : Hid (num ((l.drop p).take (k + 1)) = num ((l.drop p).take k) * 256 + l.getD (p + k) 0) := hnext
      clear hnext
      generalize hX : num ((l.drop p).take k) = X at *
      generalize hC : l.getD (p + k) 0 = c at *
      clear hX hC
      rw [← Nat.add_assoc] at hcell
      obtain ⟨hc0, hc1⟩ := hbyte
      obtain ⟨hx0, hx1⟩ := hnb
      have hor := or_low X c hx0 hx1 hc0 hc1
      go_wp2
      go_round
      case rel => exact ⟨k + 1, by omega, by go_num, by rw [HN.out]⟩
      case measure => simp [intOf]; omega
    · have hkn : k = n := by omega
      subst hkn
      go_wp2
      go_ret2
      exact ⟨rfl, rfl⟩

/-- What Get answers. -/
def getV (l : List Int) (p n : Int) : Int := if holdsB l.length p n then num ((l.drop p.toNat).take n.toNat) else 0

theorem get_any (a : Option Addr) (b off len cap : Nat) (l : List Int) (p n : Int) (w : World) (hc : len ≤ cap) (hcm : cap ≤ maxLen) (hL : l.length = len) (hb : isBytes l)
    (ha : a = some ⟨b, off, none⟩ ∨ l = []) (hs : Sees w b off l) :
    Calls Try.prog 74 #[.slice a len cap, .int .i64 p, .int .i64 n] w fun e w' => e = .returned (.tuple #[.int .u64 (getV l p n), .bool (holdsB len p n)]) ∧ w' = w := by
  have hl : len ≤ maxLen := Nat.le_trans hc hcm
  cases hh : holdsB len p n
  · have e : getV l p n = 0 := by unfold getV; rw [hL, hh]; rfl
    rw [e]
    exact get_no a len cap p n w hl hh
  · have e : getV l p n = num ((l.drop p.toNat).take n.toNat) := by unfold getV; rw [hL, hh]; rfl
    rw [e]
    unfold holdsB at hh
    have hd := of_decide_eq_true hh
    obtain ⟨p', rfl⟩ := Int.eq_ofNat_of_zero_le hd.2.2.1
    obtain ⟨n', rfl⟩ := Int.eq_ofNat_of_zero_le (Int.le_trans (by decide) hd.1)
    rcases ha with rfl | rfl
    · exact get_yes b off len cap l p' n' w hl hc hcm hL hb hs (by omega) (by omega) (by omega)
    · simp at hL; omega

set_option maxHeartbeats 400000 in
theorem rget_no (a : Option Addr) (len cap : Nat) (p n : Int) (w : World) (hl : len ≤ maxLen) (h : holdsB len p n = false) :
    Calls Try.prog 76 #[.slice a len cap, .int .i64 p, .int .i64 n] w fun e w' => e = .returned (.tuple #[.int .u64 0, .bool false]) ∧ w' = w := by
  unfold maxLen at hl
  unfold holdsB at h
  have h := of_decide_eq_false h
  by_cases h1 : n < 1
  · go_enter Try.func76, Try.ntmps76
    go_wp2
    go_ret2
    exact ⟨rfl, rfl⟩
  by_cases h2 : 8 < n
  · go_enter Try.func76, Try.ntmps76
    go_wp2
    go_ret2
    exact ⟨rfl, rfl⟩
  by_cases h3 : p < 0
  · go_enter Try.func76, Try.ntmps76
    go_wp2
    go_ret2
    exact ⟨rfl, rfl⟩
  have h4 : (len : Int) - n < p := by omega
  clear h
  go_enter Try.func76, Try.ntmps76
  go_wp2
  go_ret2
  exact ⟨rfl, rfl⟩

set_option maxHeartbeats 400000 in
theorem rget_yes (b off len cap : Nat) (l : List Int) (p n : Nat) (w : World) (hl : len ≤ maxLen) (hL : l.length = len) (hb : isBytes l)
    (hs : Sees w b off l) (h1 : 1 ≤ n) (h2 : n ≤ 8) (h3 : p + n ≤ len) :
    Calls Try.prog 76 #[.slice (some ⟨b, off, none⟩) len cap, .int .i64 p, .int .i64 n] w fun e w' => e = .returned (.tuple #[.int .u64 (num ((l.drop p).take n)), .bool true]) ∧ w' = w := by
  unfold maxLen at hl
  have HL : Hid (l.length = len) := hL
  clear hL
  have g1 : ¬ (n : Int) < 1 := by omega
  have g2 : ¬ (8 : Int) < n := by omega
  have g3 : ¬ (p : Int) < 0 := by omega
  have g4 : ¬ (len : Int) - n < p := by omega
  go_enter Try.func76, Try.ntmps76
  go_wp2
  go_loop [8, 9] (fun x i => ∃ k : Nat, k ≤ n ∧ i = .int .i64 k ∧ x = .int .u64 (num ((l.drop p).take k))) (fun _ i => n - (intOf i).toNat)
  case atStart => exact ⟨0, Nat.zero_le _, rfl, by simp [num]⟩
  case round =>
    obtain ⟨k, hk, rfl, rfl⟩ := hrel
    by_cases hlt : k < n
    · have hcell := hs (p + k) (by rw [HL.out]; omega)
      have hbyte := getD_byte l hb (p + k)
      have hnb := num_small l hb p k (by omega)
      have hnext := num_snoc ((l.drop p).take k) (l.getD (p + k) 0)
      rw [← take_next l p k (by rw [HL.out]; omega)] at hnext
      have HN : Hid (num ((l.drop p).take (k + 1)) = num ((l.drop p).take k) * 256 + l.getD (p + k) 0) := hnext
      clear hnext
      generalize hX : num ((l.drop p).take k) = X at *
      generalize hC : l.getD (p + k) 0 = c at *
      clear hX hC
      obtain ⟨hc0, hc1⟩ := hbyte
      obtain ⟨hx0, hx1⟩ := hnb
      have hor := or_low X c hx0 hx1 hc0 hc1
      have hpk : (p : Int) + k < len := by omega
      go_wp2
      go_round
      case rel => exact ⟨k + 1, by omega, by go_num, by rw [HN.out]⟩
      case measure => simp [intOf]; omega
    · have hkn : k = n := by omega
      subst hkn
      go_wp2
      go_ret2
      exact ⟨rfl, rfl⟩

theorem rget_any (a : Option Addr) (b off len cap : Nat) (l : List Int) (p n : Int) (w : World) (hc : len ≤ cap) (hcm : cap ≤ maxLen) (hL : l.length = len) (hb : isBytes l)
    (ha : a = some ⟨b, off, none⟩ ∨ l = []) (hs : Sees w b off l) :
    Calls Try.prog 76 #[.slice a len cap, .int .i64 p, .int .i64 n] w fun e w' => e = .returned (.tuple #[.int .u64 (getV l p n), .bool (holdsB len p n)]) ∧ w' = w := by
  have hl : len ≤ maxLen := Nat.le_trans hc hcm
  cases hh : holdsB len p n
  · have e : getV l p n = 0 := by unfold getV; rw [hL, hh]; rfl
    rw [e]
    exact rget_no a len cap p n w hl hh
  · have e : getV l p n = num ((l.drop p.toNat).take n.toNat) := by unfold getV; rw [hL, hh]; rfl
    rw [e]
    unfold holdsB at hh
    have hd := of_decide_eq_true hh
    obtain ⟨p', rfl⟩ := Int.eq_ofNat_of_zero_le hd.2.2.1
    obtain ⟨n', rfl⟩ := Int.eq_ofNat_of_zero_le (Int.le_trans (by decide) hd.1)
    rcases ha with rfl | rfl
    · exact rget_yes b off len cap l p' n' w hl hL hb hs (by omega) (by omega) (by omega)
    · simp at hL; omega

end Go.Proofs.Ytlgkndebhafliaa

namespace Go.Proofs.Ytlgkndebhafliaa
open Go.RowKit

/-- A value is a slice that shows the bytes l. -/
def Bts (w : World) (v : Value) (l : List Int) : Prop :=
  ∃ (a : Option Addr) (cap b off : Nat), v = .slice a l.length cap ∧ l.length ≤ cap ∧ cap ≤ maxLen ∧ isBytes l ∧ (a = some ⟨b, off, none⟩ ∨ l = []) ∧ Sees w b off l

/-- A row of cells, each a slice of bytes. -/
def Pts (w : World) (B O : Nat) (ls : List (List Int)) : Prop := ∀ i, i < ls.length → ∃ v, w.cell? ⟨B, O + i, none⟩ = some v ∧ Bts w v (ls.getD i [])

theorem Sees.later {w wx : World} {b off : Nat} {l : List Int} (h : Sees w b off l) (hb : Below w.heap.size w wx) : Sees wx b off l :=
  fun i hi => cell_later hb (h i hi)

theorem Bts.later {w wx : World} {v : Value} {l : List Int} (h : Bts w v l) (hb : Below w.heap.size w wx) : Bts wx v l := by
  obtain ⟨a, cap, b, off, h1, h2, h3, h4, h5, h6⟩ := h
  exact ⟨a, cap, b, off, h1, h2, h3, h4, h5, h6.later hb⟩

theorem Bts.shape {w : World} {v : Value} {l : List Int} (h : Bts w v l) : ∃ a N c, v = .slice a N c := by
  obtain ⟨a, c, _, _, rfl, _⟩ := h; exact ⟨_, _, _, rfl⟩

theorem below_trans {a b c : World} (h : Below a.heap.size a b) (k : Below b.heap.size b c) : Below a.heap.size a c := h.trans (k.mono h.size)

theorem Pts.later {w wx : World} {B O : Nat} {ls : List (List Int)} (h : Pts w B O ls) (hb : Below w.heap.size w wx) : Pts wx B O ls := by
  intro i hi
  obtain ⟨v, h1, h2⟩ := h i hi
  exact ⟨v, cell_later hb h1, h2.later hb⟩

theorem below_alloc (w : World) (o : Obj) : Below w.heap.size w (w.alloc o) := (Below.refl _ _).alloc (Nat.le_refl _) _

theorem pts_one {w : World} {v : Value} {l : List Int} (t : TypeId) (h : Bts w v l) : Pts (w.alloc (.cells #[v] t)) w.heap.size 0 [l] := by
  intro i hi
  have : i = 0 := by simp at hi; omega
  subst this
  exact ⟨v, by simp, h.later (below_alloc _ _)⟩

end Go.Proofs.Ytlgkndebhafliaa

namespace Go.Proofs.Ytlgkndebhafliaa
open Go.RowKit

theorem u32_xor_nat' (a b : Nat) (ha : a < 4294967296) (hb : b < 4294967296) : bits .xor .u32 (a : Int) (b : Int) = ((a ^^^ b : Nat) : Int) := by
  have hx : a ^^^ b < 2 ^ 32 := Nat.xor_lt_two_pow (by omega) (by omega)
  have h1 : (BitVec.ofInt 32 (a : Int)).toNat = a := by
    rw [BitVec.ofInt_natCast, BitVec.toNat_ofNat]; exact Nat.mod_eq_of_lt (by omega)
  have h2 : (BitVec.ofInt 32 (b : Int)).toNat = b := by
    rw [BitVec.ofInt_natCast, BitVec.toNat_ofNat]; exact Nat.mod_eq_of_lt (by omega)
  show IntKind.u32.wrap ((BitVec.ofInt 32 (a : Int) ^^^ BitVec.ofInt 32 (b : Int)).toNat : Int) = _
  rw [BitVec.toNat_xor, h1, h2, IntKind.wrap_u32]
  omega

theorem u32_and1 (a : Nat) (ha : a < 4294967296) : bits .and .u32 (a : Int) 1 = ((a % 2 : Nat) : Int) := by
  have := bits_mask .u32 32 (by decide) (fun n a b => by rw [IntKind.wrap_u32]; omega) 1 (by decide) (a : Int) (by omega) (by omega)
  simpa using this

theorem u32_xorP (a : Nat) (ha : a < 4294967296) : bits .xor .u32 ((a : Int) / 2) 3988292384 = ((a / 2 ^^^ 3988292384 : Nat) : Int) := by
  have := u32_xor_nat' (a / 2) 3988292384 (by omega) (by decide)
  simpa using this

set_option maxHeartbeats 1000000 in
theorem step_any (G : Nat) (r c : Nat) (w : World) (hcell : w.cell? ⟨G, 0, none⟩ = some (.int .u32 r)) (hfr : w.frozen? ⟨G, 0, none⟩ = false) (hr : r < 4294967296) (hc : c < 256) :
    Calls Try.prog 68 #[.pointer (some ⟨G, 0, none⟩), .int .u8 c] w fun e w' => e = .returned (.tuple #[]) ∧ w' = w.setCell ⟨G, 0, none⟩ (.int .u32 (crcByte r c)) := by
  have hx := u32_xor_nat' r c hr (by omega)
  have hlt : r ^^^ c < 4294967296 := Nat.xor_lt_two_pow (n := 32) hr (by omega)
  go_enter Try.func68, Try.ntmps68
  go_wp2
  generalize hX0 : r ^^^ c = X0 at *
  have HX : Hid (r ^^^ c = X0) := hX0
  clear hX0
  go_loop [4, 12] (fun x i => ∃ k : Nat, k ≤ 8 ∧ i = .int .i64 k ∧ x = .int .u32 (crcSteps k X0 : Nat)) (fun _ i => 8 - (intOf i).toNat)
  case atStart => exact ⟨0, by decide, rfl, rfl⟩
  case round =>
    obtain ⟨k, hk, rfl, rfl⟩ := hrel
    by_cases hk8 : k < 8
    · have hlt' := crcSteps_lt k X0 hlt
      have HS : Hid (crcSteps (k + 1) X0 = crcStep (crcSteps k X0)) := crcSteps_snoc k X0
      generalize hY : crcSteps k X0 = Y at *
      clear hY
      have ha := u32_and1 Y hlt'
      by_cases hodd : Y % 2 = 1
      · have HE : Hid (crcStep Y = Y / 2 ^^^ 3988292384) := by show crcStep Y = _; unfold crcStep; rw [if_pos hodd]
        rw [hodd] at ha
        have hxp := u32_xorP Y hlt'
        go_wp2
        go_round
        case rel => exact ⟨k + 1, by omega, by go_num, by rw [HS.out, HE.out]⟩
        case measure => simp [intOf]; omega
      · have h0 : Y % 2 = 0 := by omega
        have HE : Hid (crcStep Y = Y / 2) := by show crcStep Y = _; unfold crcStep; rw [if_neg hodd]
        rw [h0] at ha
        go_wp2
        go_round
        case rel => exact ⟨k + 1, by omega, by go_num, by rw [HS.out, HE.out]; simp⟩
        case measure => simp [intOf]; omega
    · have hke : k = 8 := by omega
      subst hke
      go_wp2
      go_end0
      exact ⟨rfl, by unfold crcByte; rw [HX.out]⟩

/-- What Crc answers. -/
def crcV (l : List Int) : Int := bits .xor .u32 IntKind.u32.max (crcL 4294967295 l : Nat)

set_option maxHeartbeats 1000000 in
theorem crc_any (a : Option Addr) (b off len cap : Nat) (l : List Int) (w : World) (hc : len ≤ cap) (hcm : cap ≤ maxLen) (hL : l.length = len) (hb : isBytes l)
    (ha : a = some ⟨b, off, none⟩ ∨ l = []) (hs : Sees w b off l) :
    Calls Try.prog 35 #[.slice a len cap] w fun e w' => e = .returned (.int .u32 (crcV l)) ∧ Below w.heap.size w w' := by
  unfold maxLen at hcm
  have HL : Hid (l.length = len) := hL
  clear hL
  go_enter Try.func35, Try.ntmps35
  go_wp2
  go_loopw [10] (fun i wr => ∃ k : Nat, k ≤ len ∧ i = .int .i64 k ∧ wr.cell? ⟨w.heap.size, 0, none⟩ = some (.int .u32 (crcL 4294967295 (l.take k) : Nat)) ∧ wr.frozen? ⟨w.heap.size, 0, none⟩ = false ∧ Below w.heap.size w wr) (fun i _ => len - (intOf i).toNat)
  case atStart => exact ⟨0, Nat.zero_le _, rfl, by simp [crcL], by simp [go_sem], below_alloc _ _⟩
  case round =>
    obtain ⟨k, hk, rfl, hcell, hfr, hbel⟩ := hrel
    by_cases hlt : k < len
    · rcases ha with rfl | hnil
      case inr => exact absurd HL.out (by rw [hnil]; simp; omega)
      have hc2 : wr.cell? ⟨b, off + k, none⟩ = some (.int .u8 (l.getD k 0)) := cell_later hbel (hs k (by rw [HL.out]; omega))
      have hbyte := getD_byte l hb k
      have hsn := crcL_snoc 4294967295 (l.take k) (l.getD k 0)
      rw [← take_snoc l k (by rw [HL.out]; omega)] at hsn
      have hrl := crcL_lt 4294967295 (l.take k) (by decide) (isBytes_take hb k)
      generalize hZ : l.getD k 0 = z at *
      clear hZ
      obtain ⟨c, rfl⟩ := Int.eq_ofNat_of_zero_le hbyte.1
      rw [Int.toNat_natCast] at hsn
      have HS : Hid (crcL 4294967295 (l.take (k + 1)) = crcByte (crcL 4294967295 (l.take k)) c) := hsn
      clear hsn
      generalize hR : crcL 4294967295 (l.take k) = r at *
      clear hR
      go_wp2_with fail
      refine (step_any w.heap.size r c _ hcell hfr hrl (by omega)).mono ?_
      rintro e w2 ⟨rfl, hw2⟩
      have k1 : w2.cell? ⟨w.heap.size, 0, none⟩ = some (.int .u32 (crcByte r c : Nat)) := by rw [hw2]; simp [go_sem, hcell]
      have k2 : w2.frozen? ⟨w.heap.size, 0, none⟩ = false := by rw [hw2]; simp [go_sem, hfr]
      have k3 : Below w.heap.size w w2 := by rw [hw2]; exact hbel.setCell (Nat.le_refl _) _
      clear hw2
      go_wp2
      go_roundw
      case rel => exact ⟨k + 1, by omega, by go_num, by rw [HS.out]; exact k1, k2, k3⟩
      case measure => simp [intOf]; omega
    · have hke : k = len := by omega
      subst hke
      have hte : l.take k = l := by rw [List.take_of_length_le]; rw [HL.out]; exact Nat.le_refl _
      rw [hte] at hcell
      clear hte
      go_wp2
      go_ret
      exact ⟨rfl, hbel⟩

end Go.Proofs.Ytlgkndebhafliaa

namespace Go.Proofs.Ytlgkndebhafliaa
open Go.RowKit

theorem crcV_inj (l m : List Int) (hl : isBytes l) (hm : isBytes m) (h : crcV l = crcV m) : crcL 4294967295 l = crcL 4294967295 m := by
  have h1 := crcL_lt 4294967295 l (by decide) hl
  have h2 := crcL_lt 4294967295 m (by decide) hm
  have e : IntKind.u32.max = ((4294967295 : Nat) : Int) := by decide
  unfold crcV at h
  rw [e, u32_xor_nat' _ _ (by decide) h1, u32_xor_nat' _ _ (by decide) h2] at h
  exact xor_cancel_left _ _ _ (Int.ofNat_inj.1 h)

theorem u32_xorP' (a : Nat) (ha : a < 4294967296) : bits .xor .u32 ((a : Int) / 2) 3988292384 = ((a / 2 ^^^ 3988292384 : Nat) : Int) := u32_xorP a ha

set_option maxHeartbeats 1000000 in
theorem rcrc_any (a : Option Addr) (b off len cap : Nat) (l : List Int) (w : World) (hc : len ≤ cap) (hcm : cap ≤ maxLen) (hL : l.length = len) (hb : isBytes l)
    (ha : a = some ⟨b, off, none⟩ ∨ l = []) (hs : Sees w b off l) :
    Calls Try.prog 47 #[.slice a len cap] w fun e w' => e = .returned (.int .u32 (crcV l)) ∧ w' = w := by
  unfold maxLen at hcm
  have HL : Hid (l.length = len) := hL
  clear hL
  go_enter Try.func47, Try.ntmps47
  go_wp2
  go_loop [3, 4] (fun x i => ∃ k : Nat, k ≤ len ∧ i = .int .i64 k ∧ x = .int .u32 (crcL 4294967295 (l.take k) : Nat)) (fun _ i => len - (intOf i).toNat)
  case atStart => exact ⟨0, Nat.zero_le _, rfl, by simp [crcL]⟩
  case round =>
    obtain ⟨k, hk, rfl, rfl⟩ := hrel
    by_cases hlt : k < len
    · rcases ha with rfl | hnil
      case inr => exact absurd HL.out (by rw [hnil]; simp; omega)
      have hc2 := hs k (by rw [HL.out]; omega)
      have hbyte := getD_byte l hb k
      have hsn := crcL_snoc 4294967295 (l.take k) (l.getD k 0)
      rw [← take_snoc l k (by rw [HL.out]; omega)] at hsn
      have hrl := crcL_lt 4294967295 (l.take k) (by decide) (isBytes_take hb k)
      generalize hZ : l.getD k 0 = z at *
      clear hZ
      obtain ⟨c, rfl⟩ := Int.eq_ofNat_of_zero_le hbyte.1
      rw [Int.toNat_natCast] at hsn
      have HS : Hid (crcL 4294967295 (l.take (k + 1)) = crcByte (crcL 4294967295 (l.take k)) c) := hsn
      clear hsn
      generalize hR : crcL 4294967295 (l.take k) = r at *
      clear hR
      have hx := u32_xor_nat' r c hrl (by omega)
      have hlt2 : r ^^^ c < 4294967296 := Nat.xor_lt_two_pow (n := 32) hrl (by omega)
      have HB : Hid (crcByte r c = crcSteps 8 (r ^^^ c)) := rfl
      generalize hX0 : r ^^^ c = X0 at *
      clear hX0
      go_wp2
      go_loop [3, 5] (fun x i => ∃ j : Nat, j ≤ 8 ∧ i = .int .i64 j ∧ x = .int .u32 (crcSteps j X0 : Nat)) (fun _ i => 8 - (intOf i).toNat)
      case atStart => exact ⟨0, by decide, rfl, rfl⟩
      case round =>
        obtain ⟨j, hj, rfl, rfl⟩ := hrel
        by_cases hk8 : j < 8
        · have hlt' := crcSteps_lt j X0 hlt2
          have HT : Hid (crcSteps (j + 1) X0 = crcStep (crcSteps j X0)) := crcSteps_snoc j X0
          generalize hY : crcSteps j X0 = Y at *
          clear hY
          have hand := u32_and1 Y hlt'
          by_cases hodd : Y % 2 = 1
          · have HE : Hid (crcStep Y = Y / 2 ^^^ 3988292384) := by show crcStep Y = _; unfold crcStep; rw [if_pos hodd]
            rw [hodd] at hand
            have hxp := u32_xorP Y hlt'
            go_wp2
            go_round
            case rel => exact ⟨j + 1, by omega, by go_num, by rw [HT.out, HE.out]⟩
            case measure => simp [intOf]; omega
          · have h0 : Y % 2 = 0 := by omega
            have HE : Hid (crcStep Y = Y / 2) := by show crcStep Y = _; unfold crcStep; rw [if_neg hodd]
            rw [h0] at hand
            go_wp2
            go_round
            case rel => exact ⟨j + 1, by omega, by go_num, by rw [HT.out, HE.out]; simp⟩
            case measure => simp [intOf]; omega
        · have hje : j = 8 := by omega
          subst hje
          go_wp2
          go_round
          case rel => exact ⟨k + 1, by omega, by go_num, by rw [HS.out, HB.out]⟩
          case measure => simp [intOf]; omega
    · have hke : k = len := by omega
      subst hke
      have hte : l.take k = l := by rw [List.take_of_length_le]; rw [HL.out]; exact Nat.le_refl _
      rw [hte]
      clear hte
      go_wp2
      go_ret
      exact ⟨rfl, rfl⟩

end Go.Proofs.Ytlgkndebhafliaa

namespace Go.Proofs.Ytlgkndebhafliaa
open Go.RowKit

theorem sees_new3 (w : World) (x y z : Int) : Sees (w.alloc (.cells #[.int .u8 x, .int .u8 y, .int .u8 z] 5)) w.heap.size 0 [x, y, z] := by
  intro i hi
  have : i = 0 ∨ i = 1 ∨ i = 2 := by simp at hi; omega
  rcases this with rfl | rfl | rfl <;> simp [go_sem]

theorem bts_new1 (w : World) (N : Nat) (x : Int) (hN : N = w.heap.size) (hx : 0 ≤ x ∧ x < 256) : Bts (w.alloc (.cells #[.int .u8 x] 5)) (.slice (some ⟨N, 0, none⟩) 1 1) [x] := by
  subst hN
  refine ⟨_, 1, w.heap.size, 0, rfl, by simp, by decide, ?_, .inl rfl, ?_⟩
  · intro z hz; simp at hz; subst hz; exact hx
  · intro i hi
    have : i = 0 := by simp at hi; omega
    subst this
    simp

end Go.Proofs.Ytlgkndebhafliaa

namespace Go.Proofs.Ytlgkndebhafliaa
open Go.RowKit

/-- The lowest n bytes of x laid from p on, the last byte first. -/
def lay (l : List Int) (p : Nat) : Nat → Int → List Int
  | 0, _ => l
  | n + 1, x => lay (l.set (p + n) (x % 256)) p n (x / 256)

theorem lay_length (l : List Int) (p n : Nat) (x : Int) : (lay l p n x).length = l.length := by
  induction n generalizing l x with
  | zero => rfl
  | succ n ih => simp [lay, ih]

theorem lay_bytes (l : List Int) (p n : Nat) (x : Int) (h : isBytes l) : isBytes (lay l p n x) := by
  induction n generalizing l x with
  | zero => exact h
  | succ n ih =>
    refine ih _ _ ?_
    intro z hz
    rcases List.mem_or_eq_of_mem_set hz with h1 | rfl
    · exact h z h1
    · omega

theorem lay_past (l : List Int) (p n : Nat) (x : Int) (i : Nat) (hi : p + n ≤ i) : (lay l p n x).getD i 0 = l.getD i 0 := by
  induction n generalizing l x with
  | zero => rfl
  | succ n ih =>
    show (lay (l.set (p + n) (x % 256)) p n (x / 256)).getD i 0 = _
    rw [ih _ _ (by omega)]
    simp only [List.getD, List.getElem?_set]
    rw [if_neg (by omega)]

theorem emod_pow_succ (x : Int) (n : Nat) : (x / 256) % 256 ^ n * 256 + x % 256 = x % 256 ^ (n + 1) := by
  have h1 : x = 256 * (x / 256) + x % 256 := by omega
  have hp : (0 : Int) < 256 ^ n := Int.pow_pos (by decide)
  have h2 := Int.mul_ediv_add_emod (x / 256) (256 ^ n)
  have h3 := Int.emod_nonneg (x / 256) (Int.ne_of_gt hp)
  have h4 := Int.emod_lt_of_pos (x / 256) hp
  generalize (x / 256) % 256 ^ n = r at *
  generalize (x / 256) / 256 ^ n = q at *
  have h5 : x = (r * 256 + x % 256) + 256 ^ (n + 1) * q := by
    rw [Int.pow_succ]
    have : 256 ^ n * 256 * q = 256 * (256 ^ n * q) := by rw [Int.mul_comm (256 ^ n) 256, Int.mul_assoc]
    omega
  conv => rhs; rw [h5]
  rw [Int.add_mul_emod_self_left]
  symm
  apply Int.emod_eq_of_lt
  · omega
  · rw [Int.pow_succ]; omega

theorem num_lay (l : List Int) (p n : Nat) (x : Int) (h : p + n ≤ l.length) : num (((lay l p n x).drop p).take n) = x % 256 ^ n := by
  induction n generalizing l x with
  | zero => simp [num, Int.emod_one]
  | succ n ih =>
    have hl : (lay l p (n + 1) x).length = l.length := lay_length _ _ _ _
    rw [take_next _ _ _ (by omega), num_snoc]
    show num (List.take n (List.drop p (lay (l.set (p + n) (x % 256)) p n (x / 256)))) * 256 + (lay (l.set (p + n) (x % 256)) p n (x / 256)).getD (p + n) 0 = _
    rw [ih _ _ (by simp; omega), lay_past _ _ _ _ _ (Nat.le_refl _)]
    have : (l.set (p + n) (x % 256)).getD (p + n) 0 = x % 256 := by
      have : p + n < l.length := by omega
      simp [this]
    rw [this]
    exact emod_pow_succ x n

theorem getV_lay (l : List Int) (p n : Nat) (x : Int) (h1 : 1 ≤ n) (h2 : n ≤ 8) (h : p + n ≤ l.length) : getV (lay l p n x) p n = x % 256 ^ n := by
  unfold getV
  have : holdsB (lay l p n x).length p n = true := by rw [lay_length]; unfold holdsB; simp; omega
  rw [if_pos this, Int.toNat_natCast, Int.toNat_natCast]
  exact num_lay l p n x h


theorem wsAux_set (k : Nat) (l : List Int) (i : Nat) (c : Int) (h : i < l.length) : wsAux k (l.set i c) = wsAux k l + (if (k + i) % 2 = 0 then (c - l.getD i 0) * 256 else c - l.getD i 0) := by
  induction l generalizing k i with
  | nil => simp at h
  | cons a l ih =>
    cases i with
    | zero => simp only [List.set_cons_zero, wsAux, Nat.add_zero, List.getD_cons_zero]; split <;> omega
    | succ i =>
      have := ih (k + 1) i (by simpa using h)
      simp only [List.set_cons_succ, wsAux, List.getD_cons_succ, this]
      rw [show k + 1 + i = k + (i + 1) by omega]
      omega

theorem ws_lay2 (l : List Int) (p : Nat) (x : Int) (hp : p % 2 = 0) (h : p + 2 ≤ l.length) :
    ws (lay l p 2 x) = ws l - getV l p 2 + (x % 65536) := by
  have hg : getV l p 2 = l.getD p 0 * 256 + l.getD (p + 1) 0 := by
    unfold getV
    have : holdsB l.length p 2 = true := by unfold holdsB; simp; omega
    rw [if_pos this, Int.toNat_natCast]
    show num ((l.drop p).take 2) = _
    rw [take_next l p 1 (by omega), num_snoc, take_next l p 0 (by omega), num_snoc]
    simp [num]
  show ws ((l.set (p + 1) (x % 256)).set (p + 0) (x / 256 % 256)) = _
  unfold ws
  rw [wsAux_set _ _ _ _ (by simp; omega), wsAux_set _ _ _ _ (by omega), if_neg (by omega), if_pos (by omega), hg]
  have : (l.set (p + 1) (x % 256)).getD (p + 0) 0 = l.getD p 0 := by
    simp only [List.getD, List.getElem?_set, Nat.add_zero]; rw [if_neg (by omega)]
  rw [this]
  omega

theorem wsAux_zero (k : Nat) (l : List Int) (hb : isBytes l) (h : wsAux k l = 0) : ∀ z ∈ l, z = 0 := by
  induction l generalizing k with
  | nil => intro z hz; cases hz
  | cons a l ih =>
    have ha := hb a (by simp)
    have hl : isBytes l := fun z hz => hb z (by simp [hz])
    have h1 := wsAux_bd (k + 1) l hl
    simp only [wsAux] at h
    have h0 : a = 0 ∧ wsAux (k + 1) l = 0 := by split at h <;> omega
    intro z hz
    rcases List.mem_cons.1 hz with rfl | hz
    · exact h0.1
    · exact ih (k + 1) hl h0.2 z hz

def allz (l : List Int) : Bool := l.all (· == 0)

theorem allz_of_ws (l : List Int) (hb : isBytes l) (h : ws l = 0) : allz l = true := by
  unfold allz; rw [List.all_eq_true]; intro z hz; simp [wsAux_zero 0 l hb h z hz]

theorem allz_snoc (l : List Int) (c : Int) : allz (l ++ [c]) = (allz l && (c == 0)) := by unfold allz; simp

/-- P1.5: the check is brought along. -/
theorem upd_eq (S o n : Int) (h0 : 0 ≤ o) (h1 : o ≤ 65535) (h2 : o ≤ S) (h3 : 0 ≤ n) (h4 : n ≤ 65535) (h5 : 0 < S - o + n) :
    upd16 (turn16 (fold16 S)) o n = turn16 (fold16 (S - o + n)) := by
  unfold upd16 plus16 turn16 fold16
  split <;> split <;> split <;> split <;> omega

theorem upd_zero (S o n : Int) (h0 : 0 ≤ o) (h1 : o ≤ 65535) (h2 : o ≤ S) (h3 : 0 ≤ n) (h4 : n ≤ 65535) (h5 : S - o + n = 0) :
    upd16 (turn16 (fold16 S)) o n = 0 := by
  unfold upd16 plus16 turn16 fold16
  split <;> split <;> split <;> omega

end Go.Proofs.Ytlgkndebhafliaa

namespace Go.Proofs.Ytlgkndebhafliaa
open Go.RowKit

def b1 (l : List Int) (k : Nat) : Int := l.getD k 0
def w2 (l : List Int) (k : Nat) : Int := l.getD k 0 * 256 + l.getD (k + 1) 0
def w4 (l : List Int) (k : Nat) : Int := ((l.getD k 0 * 256 + l.getD (k + 1) 0) * 256 + l.getD (k + 2) 0) * 256 + l.getD (k + 3) 0

def inB (x m : Int) : Prop := 0 ≤ x ∧ x ≤ m

instance (x m : Int) : Decidable (inB x m) := by unfold inB; infer_instance

def inBb (x m : Int) : Bool := decide (inB x m)

theorem getV1 (l : List Int) (k : Nat) (h : k + 1 ≤ l.length) : getV l k 1 = b1 l k := by
  unfold getV b1
  have : holdsB l.length k 1 = true := by unfold holdsB; simp; omega
  rw [if_pos this, Int.toNat_natCast]
  show num ((l.drop k).take 1) = _
  rw [take_next l k 0 (by omega), num_snoc]
  simp [num]

theorem getV2 (l : List Int) (k : Nat) (h : k + 2 ≤ l.length) : getV l k 2 = w2 l k := by
  unfold getV w2
  have : holdsB l.length k 2 = true := by unfold holdsB; simp; omega
  rw [if_pos this, Int.toNat_natCast]
  show num ((l.drop k).take 2) = _
  rw [take_next l k 1 (by omega), num_snoc, take_next l k 0 (by omega), num_snoc]
  simp [num]

theorem getV4 (l : List Int) (k : Nat) (h : k + 4 ≤ l.length) : getV l k 4 = w4 l k := by
  unfold getV w4
  have : holdsB l.length k 4 = true := by unfold holdsB; simp; omega
  rw [if_pos this, Int.toNat_natCast]
  show num ((l.drop k).take 4) = _
  rw [take_next l k 3 (by omega), num_snoc, take_next l k 2 (by omega), num_snoc, take_next l k 1 (by omega), num_snoc, take_next l k 0 (by omega), num_snoc]
  simp [num]

theorem b1_bd (l : List Int) (hb : isBytes l) (k : Nat) : 0 ≤ b1 l k ∧ b1 l k < 256 := getD_byte l hb k

theorem w2_bd (l : List Int) (hb : isBytes l) (k : Nat) : 0 ≤ w2 l k ∧ w2 l k < 65536 := by
  have h1 := getD_byte l hb k
  have h2 := getD_byte l hb (k + 1)
  unfold w2
  omega

theorem w4_bd (l : List Int) (hb : isBytes l) (k : Nat) : 0 ≤ w4 l k ∧ w4 l k < 4294967296 := by
  have h1 := getD_byte l hb k
  have h2 := getD_byte l hb (k + 1)
  have h3 := getD_byte l hb (k + 2)
  have h4 := getD_byte l hb (k + 3)
  unfold w4
  omega

theorem i64_id (x : Int) (h0 : 0 ≤ x) (h1 : x < 2 ^ 63) : IntKind.i64.wrap x = x := by rw [IntKind.wrap_i64]; omega
theorem u8_id (x : Int) (h0 : 0 ≤ x) (h1 : x < 2 ^ 8) : IntKind.u8.wrap x = x := by rw [IntKind.wrap_u8]; omega
theorem u32_id (x : Int) (h0 : 0 ≤ x) (h1 : x < 2 ^ 32) : IntKind.u32.wrap x = x := by rw [IntKind.wrap_u32]; omega

theorem or_i64 (i : Nat) (x y : Int) (h0 : 0 ≤ x) (hx : x % 2 ^ i = 0) (h1 : x < 2 ^ 63) (h2 : 0 ≤ y) (h3 : y < 2 ^ i) (h4 : y < 2 ^ 63) : bits .or .i64 x y = x + y :=
  bits_join .i64 63 (by decide) i64_id i x y h0 hx h1 h2 h3 h4

theorem or_u32 (i : Nat) (x y : Int) (h0 : 0 ≤ x) (hx : x % 2 ^ i = 0) (h1 : x < 2 ^ 32) (h2 : 0 ≤ y) (h3 : y < 2 ^ i) (h4 : y < 2 ^ 32) : bits .or .u32 x y = x + y :=
  bits_join .u32 32 (by decide) u32_id i x y h0 hx h1 h2 h3 h4

theorem mask_i64 (i : Nat) (hi : i ≤ 63) (x : Int) (h0 : 0 ≤ x) (h1 : x < 2 ^ 63) : bits .and .i64 x (2 ^ i - 1) = x % 2 ^ i := bits_mask .i64 63 (by decide) i64_id i hi x h0 h1
theorem mask_u8 (i : Nat) (hi : i ≤ 8) (x : Int) (h0 : 0 ≤ x) (h1 : x < 2 ^ 8) : bits .and .u8 x (2 ^ i - 1) = x % 2 ^ i := bits_mask .u8 8 (by decide) u8_id i hi x h0 h1

theorem ws_append_even (l m : List Int) (h : l.length % 2 = 0) : ws (l ++ m) = ws l + ws m := by
  have shift : ∀ (n : List Int) (j k : Nat), j % 2 = k % 2 → wsAux j n = wsAux k n := by
    intro n
    induction n with
    | nil => intros; rfl
    | cons c n ih => intro j k hjk; simp only [wsAux]; rw [ih (j + 1) (k + 1) (by omega), hjk]
  unfold ws
  rw [wsAux_append, shift m (0 + l.length) 0 (by omega)]

/-- The lowest n bytes of a number, the highest first. -/
def bytesOfN : Nat → Int → List Int
  | 0, _ => []
  | 1, x => [x % 256]
  | 2, x => [x / 256 % 256, x % 256]
  | 3, x => [x / 65536 % 256, x / 256 % 256, x % 256]
  | _, x => [x / 16777216 % 256, x / 65536 % 256, x / 256 % 256, x % 256]

theorem getD_append_left (l m : List Int) (k : Nat) (h : k < l.length) : (l ++ m).getD k 0 = l.getD k 0 := by
  simp [List.getD, List.getElem?_append_left h]

theorem fold65535 (x : Int) (h : 0 < x) : fold16 x = 65535 ↔ x % 65535 = 0 := by
  unfold fold16
  rw [if_neg (by omega)]
  omega
end Go.Proofs.Ytlgkndebhafliaa
