/- Plain mathematics of the CRC's register. -/
import Derived.Test.YtafkkehcacdodaaGreatWords
set_option maxRecDepth 100000
namespace Go.Proofs.YtafkkehcacdodaaGreat

/-- One step of the register. -/
def crcStep (r : Nat) : Nat := if r % 2 = 1 then r / 2 ^^^ 3988292384 else r / 2

def crcSteps : Nat → Nat → Nat
  | 0, r => r
  | n + 1, r => crcSteps n (crcStep r)

/-- A byte taken in. -/
def crcByte (r c : Nat) : Nat := crcSteps 8 (r ^^^ c)

def crcL (r : Nat) (l : List Int) : Nat := l.foldl (fun r c => crcByte r c.toNat) r

theorem crcStep_lt (r : Nat) (h : r < 4294967296) : crcStep r < 4294967296 := by
  unfold crcStep; split
  · exact Nat.xor_lt_two_pow (n := 32) (by omega) (by decide)
  · omega

theorem crcSteps_lt (n r : Nat) (h : r < 4294967296) : crcSteps n r < 4294967296 := by
  induction n generalizing r with
  | zero => exact h
  | succ n ih => exact ih _ (crcStep_lt r h)

theorem crcSteps_snoc (n r : Nat) : crcSteps (n + 1) r = crcStep (crcSteps n r) := by
  induction n generalizing r with
  | zero => rfl
  | succ n ih => exact ih (crcStep r)

theorem crcByte_lt (r c : Nat) (h : r < 4294967296) (hc : c < 256) : crcByte r c < 4294967296 :=
  crcSteps_lt _ _ (Nat.xor_lt_two_pow (n := 32) h (by omega))

theorem crcL_snoc (r : Nat) (l : List Int) (c : Int) : crcL r (l ++ [c]) = crcByte (crcL r l) c.toNat := by unfold crcL; simp

theorem crcL_lt (r : Nat) (l : List Int) (h : r < 4294967296) (hb : isBytes l) : crcL r l < 4294967296 := by
  induction l generalizing r with
  | nil => exact h
  | cons c l ih =>
    have hc := hb c (by simp)
    exact ih _ (crcByte_lt r _ h (by omega)) (fun z hz => hb z (by simp [hz]))

theorem crcStep_top (r : Nat) (h : r < 4294967296) : (crcStep r).testBit 31 = decide (r % 2 = 1) := by
  unfold crcStep
  have h2 : (r / 2).testBit 31 = false := Nat.testBit_lt_two_pow (by omega)
  split
  · rename_i h1; rw [Nat.testBit_xor, h2]; simp [h1]; decide
  · rename_i h1; rw [h2]; simp [h1]

theorem xor_cancel (a b c : Nat) (h : a ^^^ c = b ^^^ c) : a = b := by
  have := congrArg (· ^^^ c) h
  simpa [Nat.xor_assoc] using this

theorem xor_cancel_left (a b c : Nat) (h : c ^^^ a = c ^^^ b) : a = b := by
  rw [Nat.xor_comm c a, Nat.xor_comm c b] at h; exact xor_cancel a b c h

theorem crcStep_inj (a b : Nat) (ha : a < 4294967296) (hb : b < 4294967296) (h : crcStep a = crcStep b) : a = b := by
  have h1 := crcStep_top a ha
  have h2 := crcStep_top b hb
  rw [h, h2] at h1
  have hp : a % 2 = b % 2 := by
    have : (b % 2 = 1) ↔ (a % 2 = 1) := by simpa using h1
    omega
  have hq : a / 2 = b / 2 := by
    unfold crcStep at h
    by_cases h3 : a % 2 = 1
    · rw [if_pos h3, if_pos (by omega)] at h; exact xor_cancel _ _ _ h
    · rw [if_neg h3, if_neg (by omega)] at h; exact h
  omega

theorem crcSteps_inj (n a b : Nat) (ha : a < 4294967296) (hb : b < 4294967296) (h : crcSteps n a = crcSteps n b) : a = b := by
  induction n generalizing a b with
  | zero => exact h
  | succ n ih => exact crcStep_inj a b ha hb (ih _ _ (crcStep_lt a ha) (crcStep_lt b hb) h)

theorem crcByte_inj (a b c : Nat) (ha : a < 4294967296) (hb : b < 4294967296) (hc : c < 256) (h : crcByte a c = crcByte b c) : a = b :=
  xor_cancel _ _ _ (crcSteps_inj 8 _ _ (Nat.xor_lt_two_pow (n := 32) ha (by omega)) (Nat.xor_lt_two_pow (n := 32) hb (by omega)) h)

theorem crcByte_inj2 (a c d : Nat) (ha : a < 4294967296) (hc : c < 256) (hd : d < 256) (h : crcByte a c = crcByte a d) : c = d :=
  xor_cancel_left _ _ _ (crcSteps_inj 8 _ _ (Nat.xor_lt_two_pow (n := 32) ha (by omega)) (Nat.xor_lt_two_pow (n := 32) ha (by omega)) h)

theorem crcL_inj (a b : Nat) (l : List Int) (ha : a < 4294967296) (hb : b < 4294967296) (hl : isBytes l) (h : crcL a l = crcL b l) : a = b := by
  induction l generalizing a b with
  | nil => exact h
  | cons c l ih =>
    have hc := hl c (by simp)
    exact crcByte_inj a b c.toNat ha hb (by omega) (ih _ _ (crcByte_lt a _ ha (by omega)) (crcByte_lt b _ hb (by omega)) (fun z hz => hl z (by simp [hz])) h)

/-- A byte that is changed turns the CRC. -/
theorem crcL_set (r : Nat) (l : List Int) (i : Nat) (c : Int) (hr : r < 4294967296) (hl : isBytes l) (hc : 0 ≤ c ∧ c < 256) (hi : i < l.length) (hne : c ≠ l.getD i 0) : crcL r (l.set i c) ≠ crcL r l := by
  induction l generalizing r i with
  | nil => simp at hi
  | cons a l ih =>
    have ha := hl a (by simp)
    have hl' : isBytes l := fun z hz => hl z (by simp [hz])
    cases i with
    | zero =>
      intro h
      have := crcL_inj _ _ l (crcByte_lt r c.toNat hr (by omega)) (crcByte_lt r a.toNat hr (by omega)) hl' h
      have := crcByte_inj2 r _ _ hr (by omega) (by omega) this
      simp at hne
      omega
    | succ i => exact ih (crcByte r a.toNat) i (crcByte_lt r _ hr (by omega)) hl' (by simpa using hi) (by simpa using hne)

end Go.Proofs.YtafkkehcacdodaaGreat
