/- The contracts of holds and Get, in octet and in the document's own answer. -/
import Derived.Test.YtafkkehcacdodaaGreatFold
import Derived.Test.YtafkkehcacdodaaGreatWords
set_option maxRecDepth 100000
namespace Go.Proofs.YtafkkehcacdodaaGreat
open Go.RowKit

def holdsB (len : Nat) (at_ n : Int) : Bool := decide (1 ≤ n ∧ n ≤ 8 ∧ 0 ≤ at_ ∧ at_ ≤ len - n)

theorem ret_bool {a b : Bool} (h : a = b) : Ending.returned (.bool a) = .returned (.bool b) := by rw [h]

set_option maxHeartbeats 400000 in
theorem holds_any (a : Option Addr) (len cap : Nat) (p n : Int) (w : World) (hl : len ≤ maxLen) :
    Calls Tryz.prog 141 #[.slice a len cap, .int .i64 p, .int .i64 n] w fun e w' => e = .returned (.bool (holdsB len p n)) ∧ w' = w := by
  unfold maxLen at hl
  by_cases h1 : 1 ≤ n
  · by_cases h2 : n ≤ 8
    · by_cases h3 : 0 ≤ p
      · go_enter Tryz.func141, Tryz.ntmps141
        go_wp2
        go_ret
        exact ⟨ret_bool (by unfold holdsB; simp [h1, h2, h3]), rfl⟩
      · go_enter Tryz.func141, Tryz.ntmps141
        go_wp2
        go_ret
        exact ⟨ret_bool (by unfold holdsB; simp; omega), rfl⟩
    · go_enter Tryz.func141, Tryz.ntmps141
      go_wp2
      go_ret
      exact ⟨ret_bool (by unfold holdsB; simp; omega), rfl⟩
  · go_enter Tryz.func141, Tryz.ntmps141
    go_wp2
    go_ret
    exact ⟨ret_bool (by unfold holdsB; simp; omega), rfl⟩

/-- The number of bytes, the highest first. -/
def num (l : List Int) : Int := l.foldl (fun x c => x * 256 + c) 0

theorem num_snoc (l : List Int) (c : Int) : num (l ++ [c]) = num l * 256 + c := by unfold num; simp

theorem num_bd (l : List Int) (h : isBytes l) : 0 ≤ num l ∧ num l < 256 ^ l.length := by
  suffices H : ∀ (l : List Int) (x : Int) (m : Nat), isBytes l → 0 ≤ x → x < 256 ^ m → 0 ≤ l.foldl (fun x c => x * 256 + c) x ∧ l.foldl (fun x c => x * 256 + c) x < 256 ^ (m + l.length) by
    have := H l 0 0 h (by omega) (by simp)
    simpa [num] using this
  intro l
  induction l with
  | nil => intro x m _ h0 h1; simpa using ⟨h0, h1⟩
  | cons c l ih =>
    intro x m hb h0 h1
    have hc := hb c (by simp)
    have := ih (x * 256 + c) (m + 1) (fun z hz => hb z (by simp [hz])) (by omega) (by rw [Int.pow_succ]; omega)
    simpa [Nat.add_comm, Nat.add_left_comm, Nat.add_assoc] using this

/-- The bytes that a slice shows: it leads to a row of cells. -/
def Sees (w : World) (b off : Nat) (l : List Int) : Prop := ∀ i, i < l.length → w.cell? ⟨b, off + i, none⟩ = some (.int .u8 (l.getD i 0))

set_option maxHeartbeats 400000 in
theorem get_no (a : Option Addr) (len cap : Nat) (p n : Int) (w : World) (hl : len ≤ maxLen) (h : holdsB len p n = false) :
    Calls Tryz.prog 115 #[.slice a len cap, .int .i64 p, .int .i64 n] w fun e w' => e = .returned (.tuple #[.int .u64 0, .bool false]) ∧ w' = w := by
  go_enter Tryz.func115, Tryz.ntmps115
  go_wp2_with (go_at_call 141; refine (holds_any _ _ _ _ _ _ hl).mono ?_; rintro e w' ⟨rfl, rfl⟩)
  go_ret2
  exact ⟨rfl, rfl⟩

theorem or_low (x c : Int) (h0 : 0 ≤ x) (h1 : x < 72057594037927936) (h2 : 0 ≤ c) (h3 : c < 256) : bits .or .u64 (x * 256) c = x * 256 + c :=
  bits_join .u64 64 (by decide) (fun n a b => u64_id n a b) 8 (x * 256) c (by omega) (by omega) (by omega) h2 (by omega) (by omega)

theorem take_next (l : List Int) (p k : Nat) (h : p + k < l.length) : (l.drop p).take (k + 1) = (l.drop p).take k ++ [l.getD (p + k) 0] := by
  rw [List.take_succ_eq_append_getElem (by simp; omega)]
  simp [List.getElem_drop, List.getElem?_eq_getElem h]

theorem isBytes_part (l : List Int) (hb : isBytes l) (p n : Nat) : isBytes ((l.drop p).take n) :=
  fun z hz => hb z (List.mem_of_mem_drop (List.mem_of_mem_take hz))

theorem num_small (l : List Int) (hb : isBytes l) (p k : Nat) (hk : k ≤ 7) : 0 ≤ num ((l.drop p).take k) ∧ num ((l.drop p).take k) < 72057594037927936 := by
  have h := num_bd _ (isBytes_part l hb p k)
  have hle : ((l.drop p).take k).length ≤ 7 := by simp; omega
  have : (256 : Int) ^ ((l.drop p).take k).length ≤ 256 ^ 7 := by
    have h := Int.ofNat_le.2 (Nat.pow_le_pow_right (n := 256) (by decide) hle)
    rw [Int.natCast_pow, Int.natCast_pow] at h
    exact h
  exact ⟨h.1, by have e : (256 : Int) ^ 7 = 72057594037927936 := by decide
                 omega⟩

set_option maxHeartbeats 400000 in
theorem get_yes (b off len cap : Nat) (l : List Int) (p n : Nat) (w : World) (hl : len ≤ maxLen) (hc : len ≤ cap) (hcm : cap ≤ maxLen) (hL : l.length = len) (hb : isBytes l)
    (hs : Sees w b off l) (h1 : 1 ≤ n) (h2 : n ≤ 8) (h3 : p + n ≤ len) :
    Calls Tryz.prog 115 #[.slice (some ⟨b, off, none⟩) len cap, .int .i64 p, .int .i64 n] w fun e w' => e = .returned (.tuple #[.int .u64 (num ((l.drop p).take n)), .bool true]) ∧ w' = w := by
  have hh : holdsB len p n = true := by unfold holdsB; simp; omega
  unfold maxLen at hl hcm
  have HL : Hid (l.length = len) := hL
  clear hL
  go_enter Tryz.func115, Tryz.ntmps115
  go_wp2_with (go_at_call 141; refine (holds_any _ _ _ _ _ _ (by unfold maxLen; exact hl)).mono ?_; rintro e w' ⟨rfl, rfl⟩)
  go_loop [8, 23] (fun x i => ∃ k : Nat, k ≤ n ∧ i = .int .i64 k ∧ x = .int .u64 (num ((l.drop p).take k))) (fun _ i => n - (intOf i).toNat)
  case atStart => exact ⟨0, Nat.zero_le _, rfl, by simp [num]⟩
  case round =>
    obtain ⟨k, hk, rfl, rfl⟩ := hrel
    by_cases hlt : k < n
    · have hcell := hs (p + k) (by rw [HL.out]; omega)
      have hbyte := getD_byte l hb (p + k)
      have hnb := num_small l hb p k (by omega)
      have hnext := num_snoc ((l.drop p).take k) (l.getD (p + k) 0)
      rw [← take_next l p k (by rw [HL.out]; omega)] at hnext
      have HN : Hid (num ((l.drop p).take (k + 1)) = num ((l.drop p).take k) * 256 + l.getD (p + k) 0) := hnext
      clear hnext
      generalize hX : num ((l.drop p).take k) = X at *
      generalize hC : l.getD (p + k) 0 = c at *
      clear hX hC
      rw [← Nat.add_assoc] at hcell
      obtain ⟨hc0, hc1⟩ := hbyte
      obtain ⟨hx0, hx1⟩ := hnb
      have hor := or_low X c hx0 hx1 hc0 hc1
      go_wp2
      go_round
      case rel => exact ⟨k + 1, by omega, by go_num, by rw [HN.out]⟩
      case measure => simp [intOf]; omega
    · have hkn : k = n := by omega
      subst hkn
      go_wp2
      go_ret2
      exact ⟨rfl, rfl⟩

/-- What Get answers. -/
def getV (l : List Int) (p n : Int) : Int := if holdsB l.length p n then num ((l.drop p.toNat).take n.toNat) else 0

theorem get_any (a : Option Addr) (b off len cap : Nat) (l : List Int) (p n : Int) (w : World) (hc : len ≤ cap) (hcm : cap ≤ maxLen) (hL : l.length = len) (hb : isBytes l)
    (ha : a = some ⟨b, off, none⟩ ∨ l = []) (hs : Sees w b off l) :
    Calls Tryz.prog 115 #[.slice a len cap, .int .i64 p, .int .i64 n] w fun e w' => e = .returned (.tuple #[.int .u64 (getV l p n), .bool (holdsB len p n)]) ∧ w' = w := by
  have hl : len ≤ maxLen := Nat.le_trans hc hcm
  cases hh : holdsB len p n
  · have e : getV l p n = 0 := by unfold getV; rw [hL, hh]; rfl
    rw [e]
    exact get_no a len cap p n w hl hh
  · have e : getV l p n = num ((l.drop p.toNat).take n.toNat) := by unfold getV; rw [hL, hh]; rfl
    rw [e]
    unfold holdsB at hh
    have hd := of_decide_eq_true hh
    obtain ⟨p', rfl⟩ := Int.eq_ofNat_of_zero_le hd.2.2.1
    obtain ⟨n', rfl⟩ := Int.eq_ofNat_of_zero_le (Int.le_trans (by decide) hd.1)
    rcases ha with rfl | rfl
    · exact get_yes b off len cap l p' n' w hl hc hcm hL hb hs (by omega) (by omega) (by omega)
    · simp at hL; omega

set_option maxHeartbeats 400000 in
theorem rget_no (a : Option Addr) (len cap : Nat) (p n : Int) (w : World) (hl : len ≤ maxLen) (h : holdsB len p n = false) :
    Calls Tryz.prog 77 #[.slice a len cap, .int .i64 p, .int .i64 n] w fun e w' => e = .returned (.tuple #[.int .u64 0, .bool false]) ∧ w' = w := by
  unfold maxLen at hl
  unfold holdsB at h
  have h := of_decide_eq_false h
  by_cases h1 : n < 1
  · go_enter Tryz.func77, Tryz.ntmps77
    go_wp2
    go_ret2
    exact ⟨rfl, rfl⟩
  by_cases h2 : 8 < n
  · go_enter Tryz.func77, Tryz.ntmps77
    go_wp2
    go_ret2
    exact ⟨rfl, rfl⟩
  by_cases h3 : p < 0
  · go_enter Tryz.func77, Tryz.ntmps77
    go_wp2
    go_ret2
    exact ⟨rfl, rfl⟩
  have h4 : (len : Int) - n < p := by omega
  clear h
  go_enter Tryz.func77, Tryz.ntmps77
  go_wp2
  go_ret2
  exact ⟨rfl, rfl⟩

set_option maxHeartbeats 400000 in
theorem rget_yes (b off len cap : Nat) (l : List Int) (p n : Nat) (w : World) (hl : len ≤ maxLen) (hL : l.length = len) (hb : isBytes l)
    (hs : Sees w b off l) (h1 : 1 ≤ n) (h2 : n ≤ 8) (h3 : p + n ≤ len) :
    Calls Tryz.prog 77 #[.slice (some ⟨b, off, none⟩) len cap, .int .i64 p, .int .i64 n] w fun e w' => e = .returned (.tuple #[.int .u64 (num ((l.drop p).take n)), .bool true]) ∧ w' = w := by
  unfold maxLen at hl
  have HL : Hid (l.length = len) := hL
  clear hL
  have g1 : ¬ (n : Int) < 1 := by omega
  have g2 : ¬ (8 : Int) < n := by omega
  have g3 : ¬ (p : Int) < 0 := by omega
  have g4 : ¬ (len : Int) - n < p := by omega
  go_enter Tryz.func77, Tryz.ntmps77
  go_wp2
  go_loop [8, 9] (fun x i => ∃ k : Nat, k ≤ n ∧ i = .int .i64 k ∧ x = .int .u64 (num ((l.drop p).take k))) (fun _ i => n - (intOf i).toNat)
  case atStart => exact ⟨0, Nat.zero_le _, rfl, by simp [num]⟩
  case round =>
    obtain ⟨k, hk, rfl, rfl⟩ := hrel
    by_cases hlt : k < n
    · have hcell := hs (p + k) (by rw [HL.out]; omega)
      have hbyte := getD_byte l hb (p + k)
      have hnb := num_small l hb p k (by omega)
      have hnext := num_snoc ((l.drop p).take k) (l.getD (p + k) 0)
      rw [← take_next l p k (by rw [HL.out]; omega)] at hnext
      have HN : Hid (num ((l.drop p).take (k + 1)) = num ((l.drop p).take k) * 256 + l.getD (p + k) 0) := hnext
      clear hnext
      generalize hX : num ((l.drop p).take k) = X at *
      generalize hC : l.getD (p + k) 0 = c at *
      clear hX hC
      obtain ⟨hc0, hc1⟩ := hbyte
      obtain ⟨hx0, hx1⟩ := hnb
      have hor := or_low X c hx0 hx1 hc0 hc1
      have hpk : (p : Int) + k < len := by omega
      go_wp2
      go_round
      case rel => exact ⟨k + 1, by omega, by go_num, by rw [HN.out]⟩
      case measure => simp [intOf]; omega
    · have hkn : k = n := by omega
      subst hkn
      go_wp2
      go_ret2
      exact ⟨rfl, rfl⟩

theorem rget_any (a : Option Addr) (b off len cap : Nat) (l : List Int) (p n : Int) (w : World) (hc : len ≤ cap) (hcm : cap ≤ maxLen) (hL : l.length = len) (hb : isBytes l)
    (ha : a = some ⟨b, off, none⟩ ∨ l = []) (hs : Sees w b off l) :
    Calls Tryz.prog 77 #[.slice a len cap, .int .i64 p, .int .i64 n] w fun e w' => e = .returned (.tuple #[.int .u64 (getV l p n), .bool (holdsB len p n)]) ∧ w' = w := by
  have hl : len ≤ maxLen := Nat.le_trans hc hcm
  cases hh : holdsB len p n
  · have e : getV l p n = 0 := by unfold getV; rw [hL, hh]; rfl
    rw [e]
    exact rget_no a len cap p n w hl hh
  · have e : getV l p n = num ((l.drop p.toNat).take n.toNat) := by unfold getV; rw [hL, hh]; rfl
    rw [e]
    unfold holdsB at hh
    have hd := of_decide_eq_true hh
    obtain ⟨p', rfl⟩ := Int.eq_ofNat_of_zero_le hd.2.2.1
    obtain ⟨n', rfl⟩ := Int.eq_ofNat_of_zero_le (Int.le_trans (by decide) hd.1)
    rcases ha with rfl | rfl
    · exact rget_yes b off len cap l p' n' w hl hL hb hs (by omega) (by omega) (by omega)
    · simp at hL; omega

end Go.Proofs.YtafkkehcacdodaaGreat
