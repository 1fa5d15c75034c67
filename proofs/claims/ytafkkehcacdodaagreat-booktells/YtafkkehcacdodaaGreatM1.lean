/- Plain mathematics of sums: what the folding of carries comes to. No program in sight. -/
import Derived.Below
set_option maxRecDepth 100000
namespace Go.Proofs.YtafkkehcacdodaaGreat

/-- What a number comes to when its carries are folded in till nothing is beyond 16 bits. -/
def fold16 (x : Int) : Int := if x ≤ 0 then 0 else (x - 1) % 65535 + 1

theorem fold16_small (x : Int) (h0 : 0 ≤ x) (h : x ≤ 65535) : fold16 x = x := by
  unfold fold16; split <;> omega

theorem fold16_step (x : Int) (h0 : 65535 < x) : fold16 (x / 65536 + x % 65536) = fold16 x := by
  unfold fold16; split <;> split <;> omega

theorem fold16_bd (x : Int) : 0 ≤ fold16 x ∧ fold16 x ≤ 65535 := by
  unfold fold16; split <;> omega

theorem fold16_less (x : Int) (h : 65535 < x) : x / 65536 + x % 65536 < x ∧ 0 ≤ x / 65536 + x % 65536 := by omega

/-- Plus, of any numbers. -/
def plus16 (a b : Int) : Int := fold16 (a % 65536 + b % 65536)

theorem plus16_comm (a b : Int) : plus16 a b = plus16 b a := by unfold plus16; rw [Int.add_comm]

theorem plus16_bd (a b : Int) : 0 ≤ plus16 a b ∧ plus16 a b ≤ 65535 := fold16_bd _

theorem plus16_assoc (a b c : Int) : plus16 (plus16 a b) c = plus16 a (plus16 b c) := by
  unfold plus16 fold16; split <;> split <;> split <;> split <;> omega

/-- 65535 less the lowest 16 bits. -/
def turn16 (x : Int) : Int := 65535 - x % 65536

theorem turn_fold (x : Int) : turn16 (fold16 x) = 65535 - fold16 x := by
  have := fold16_bd x
  unfold turn16; omega

def upd16 (c o n : Int) : Int := turn16 (plus16 (plus16 (turn16 c) (turn16 o)) n)

end Go.Proofs.YtafkkehcacdodaaGreat

namespace Go.Proofs.YtafkkehcacdodaaGreat

/-- What the bytes of l add, the first of them at place k. -/
def wsAux : Nat → List Int → Int
  | _, [] => 0
  | k, c :: l => (if k % 2 = 0 then c * 256 else c) + wsAux (k + 1) l

def ws (l : List Int) : Int := wsAux 0 l

theorem wsAux_append (k : Nat) (l m : List Int) : wsAux k (l ++ m) = wsAux k l + wsAux (k + l.length) m := by
  induction l generalizing k with
  | nil => simp [wsAux]
  | cons c l ih => simp only [List.cons_append, wsAux, ih, List.length_cons]; rw [show k + 1 + l.length = k + (l.length + 1) by omega]; omega

theorem ws_snoc (l : List Int) (c : Int) : ws (l ++ [c]) = ws l + (if l.length % 2 = 0 then c * 256 else c) := by
  unfold ws; rw [wsAux_append]; simp [wsAux]

def isBytes (l : List Int) : Prop := ∀ z ∈ l, 0 ≤ z ∧ z < 256

theorem wsAux_bd (k : Nat) (l : List Int) (h : isBytes l) : 0 ≤ wsAux k l ∧ wsAux k l ≤ 65280 * l.length := by
  induction l generalizing k with
  | nil => simp [wsAux]
  | cons c l ih =>
    have hc := h c (by simp)
    have := ih (k + 1) (fun z hz => h z (by simp [hz]))
    simp only [wsAux, List.length_cons]
    split <;> omega

theorem ws_bd (l : List Int) (h : isBytes l) : 0 ≤ ws l ∧ ws l ≤ 65280 * l.length := wsAux_bd 0 l h

def shiftOf (n : Nat) : Int := if n % 2 = 0 then 8 else 0

theorem isBytes_append {l m : List Int} (h : isBytes l) (k : isBytes m) : isBytes (l ++ m) := by
  intro z hz; rcases List.mem_append.1 hz with h1 | h1
  · exact h z h1
  · exact k z h1
theorem isBytes_take {l : List Int} (h : isBytes l) (n : Nat) : isBytes (l.take n) := fun z hz => h z (List.mem_of_mem_take hz)
theorem isBytes_drop {l : List Int} (h : isBytes l) (n : Nat) : isBytes (l.drop n) := fun z hz => h z (List.mem_of_mem_drop hz)

theorem getD_byte (l : List Int) (hb : isBytes l) (i : Nat) : 0 ≤ l.getD i 0 ∧ l.getD i 0 < 256 := by
  by_cases h : i < l.length
  · have := hb l[i] (List.getElem_mem h); simpa [List.getD, List.getElem?_eq_getElem h] using this
  · simp [List.getD, List.getElem?_eq_none (Nat.le_of_not_lt h)]

theorem take_snoc (l : List Int) (k : Nat) (h : k < l.length) : l.take (k + 1) = l.take k ++ [l.getD k 0] := by
  rw [List.take_succ_eq_append_getElem h]; simp [List.getElem?_eq_getElem h]

theorem flatten_take_snoc (ls : List (List Int)) (k : Nat) (h : k < ls.length) : (ls.take (k + 1)).flatten = (ls.take k).flatten ++ ls.getD k [] := by
  rw [List.take_succ_eq_append_getElem h, List.flatten_append]; simp [List.getElem?_eq_getElem h]

theorem flatten_take_le (ls : List (List Int)) (k : Nat) : (ls.take k).flatten.length ≤ ls.flatten.length := by
  induction ls generalizing k with
  | nil => simp
  | cons a ls ih => cases k with
    | zero => simp
    | succ k => have := ih k; simp at *; omega

end Go.Proofs.YtafkkehcacdodaaGreat

namespace Go.Proofs.YtafkkehcacdodaaGreat

/-- One step of the register. -/
def crcStep (r : Nat) : Nat := if r % 2 = 1 then r / 2 ^^^ 3988292384 else r / 2

def crcSteps : Nat → Nat → Nat
  | 0, r => r
  | n + 1, r => crcSteps n (crcStep r)

/-- A byte taken in. -/
def crcByte (r c : Nat) : Nat := crcSteps 8 (r ^^^ c)

def crcL (r : Nat) (l : List Int) : Nat := l.foldl (fun r c => crcByte r c.toNat) r

theorem crcStep_lt (r : Nat) (h : r < 4294967296) : crcStep r < 4294967296 := by
  unfold crcStep; split
  · exact Nat.xor_lt_two_pow (n := 32) (by omega) (by decide)
  · omega

theorem crcSteps_lt (n r : Nat) (h : r < 4294967296) : crcSteps n r < 4294967296 := by
  induction n generalizing r with
  | zero => exact h
  | succ n ih => exact ih _ (crcStep_lt r h)

theorem crcSteps_snoc (n r : Nat) : crcSteps (n + 1) r = crcStep (crcSteps n r) := by
  induction n generalizing r with
  | zero => rfl
  | succ n ih => exact ih (crcStep r)

theorem crcByte_lt (r c : Nat) (h : r < 4294967296) (hc : c < 256) : crcByte r c < 4294967296 :=
  crcSteps_lt _ _ (Nat.xor_lt_two_pow (n := 32) h (by omega))

theorem crcL_snoc (r : Nat) (l : List Int) (c : Int) : crcL r (l ++ [c]) = crcByte (crcL r l) c.toNat := by unfold crcL; simp

theorem crcL_lt (r : Nat) (l : List Int) (h : r < 4294967296) (hb : isBytes l) : crcL r l < 4294967296 := by
  induction l generalizing r with
  | nil => exact h
  | cons c l ih =>
    have hc := hb c (by simp)
    exact ih _ (crcByte_lt r _ h (by omega)) (fun z hz => hb z (by simp [hz]))

theorem crcStep_top (r : Nat) (h : r < 4294967296) : (crcStep r).testBit 31 = decide (r % 2 = 1) := by
  unfold crcStep
  have h2 : (r / 2).testBit 31 = false := Nat.testBit_lt_two_pow (by omega)
  split
  · rename_i h1; rw [Nat.testBit_xor, h2]; simp [h1]; decide
  · rename_i h1; rw [h2]; simp [h1]

theorem xor_cancel (a b c : Nat) (h : a ^^^ c = b ^^^ c) : a = b := by
  have := congrArg (· ^^^ c) h
  simpa [Nat.xor_assoc] using this

theorem xor_cancel_left (a b c : Nat) (h : c ^^^ a = c ^^^ b) : a = b := by
  rw [Nat.xor_comm c a, Nat.xor_comm c b] at h; exact xor_cancel a b c h

theorem crcStep_inj (a b : Nat) (ha : a < 4294967296) (hb : b < 4294967296) (h : crcStep a = crcStep b) : a = b := by
  have h1 := crcStep_top a ha
  have h2 := crcStep_top b hb
  rw [h, h2] at h1
  have hp : a % 2 = b % 2 := by
    have : (b % 2 = 1) ↔ (a % 2 = 1) := by simpa using h1
    omega
  have hq : a / 2 = b / 2 := by
    unfold crcStep at h
    by_cases h3 : a % 2 = 1
    · rw [if_pos h3, if_pos (by omega)] at h; exact xor_cancel _ _ _ h
    · rw [if_neg h3, if_neg (by omega)] at h; exact h
  omega

theorem crcSteps_inj (n a b : Nat) (ha : a < 4294967296) (hb : b < 4294967296) (h : crcSteps n a = crcSteps n b) : a = b := by
  induction n generalizing a b with
  | zero => exact h
  | succ n ih => exact crcStep_inj a b ha hb (ih _ _ (crcStep_lt a ha) (crcStep_lt b hb) h)

theorem crcByte_inj (a b c : Nat) (ha : a < 4294967296) (hb : b < 4294967296) (hc : c < 256) (h : crcByte a c = crcByte b c) : a = b :=
  xor_cancel _ _ _ (crcSteps_inj 8 _ _ (Nat.xor_lt_two_pow (n := 32) ha (by omega)) (Nat.xor_lt_two_pow (n := 32) hb (by omega)) h)

theorem crcByte_inj2 (a c d : Nat) (ha : a < 4294967296) (hc : c < 256) (hd : d < 256) (h : crcByte a c = crcByte a d) : c = d :=
  xor_cancel_left _ _ _ (crcSteps_inj 8 _ _ (Nat.xor_lt_two_pow (n := 32) ha (by omega)) (Nat.xor_lt_two_pow (n := 32) ha (by omega)) h)

theorem crcL_inj (a b : Nat) (l : List Int) (ha : a < 4294967296) (hb : b < 4294967296) (hl : isBytes l) (h : crcL a l = crcL b l) : a = b := by
  induction l generalizing a b with
  | nil => exact h
  | cons c l ih =>
    have hc := hl c (by simp)
    exact crcByte_inj a b c.toNat ha hb (by omega) (ih _ _ (crcByte_lt a _ ha (by omega)) (crcByte_lt b _ hb (by omega)) (fun z hz => hl z (by simp [hz])) h)

/-- A byte that is changed turns the CRC. -/
theorem crcL_set (r : Nat) (l : List Int) (i : Nat) (c : Int) (hr : r < 4294967296) (hl : isBytes l) (hc : 0 ≤ c ∧ c < 256) (hi : i < l.length) (hne : c ≠ l.getD i 0) : crcL r (l.set i c) ≠ crcL r l := by
  induction l generalizing r i with
  | nil => simp at hi
  | cons a l ih =>
    have ha := hl a (by simp)
    have hl' : isBytes l := fun z hz => hl z (by simp [hz])
    cases i with
    | zero =>
      intro h
      have := crcL_inj _ _ l (crcByte_lt r c.toNat hr (by omega)) (crcByte_lt r a.toNat hr (by omega)) hl' h
      have := crcByte_inj2 r _ _ hr (by omega) (by omega) this
      simp at hne
      omega
    | succ i => exact ih (crcByte r a.toNat) i (crcByte_lt r _ hr (by omega)) hl' (by simpa using hi) (by simpa using hne)

end Go.Proofs.YtafkkehcacdodaaGreat
