/- Plain mathematics: numbers laid in bytes. -/
import Derived.Test.YtafkkehcacdodaaGreatGet
set_option maxRecDepth 100000
namespace Go.Proofs.YtafkkehcacdodaaGreat
open Go.RowKit

/-- The lowest n bytes of x laid from p on, the last byte first. -/
def lay (l : List Int) (p : Nat) : Nat → Int → List Int
  | 0, _ => l
  | n + 1, x => lay (l.set (p + n) (x % 256)) p n (x / 256)

theorem lay_length (l : List Int) (p n : Nat) (x : Int) : (lay l p n x).length = l.length := by
  induction n generalizing l x with
  | zero => rfl
  | succ n ih => simp [lay, ih]

theorem lay_bytes (l : List Int) (p n : Nat) (x : Int) (h : isBytes l) : isBytes (lay l p n x) := by
  induction n generalizing l x with
  | zero => exact h
  | succ n ih =>
    refine ih _ _ ?_
    intro z hz
    rcases List.mem_or_eq_of_mem_set hz with h1 | rfl
    · exact h z h1
    · omega

theorem lay_past (l : List Int) (p n : Nat) (x : Int) (i : Nat) (hi : p + n ≤ i) : (lay l p n x).getD i 0 = l.getD i 0 := by
  induction n generalizing l x with
  | zero => rfl
  | succ n ih =>
    show (lay (l.set (p + n) (x % 256)) p n (x / 256)).getD i 0 = _
    rw [ih _ _ (by omega)]
    simp only [List.getD, List.getElem?_set]
    rw [if_neg (by omega)]

theorem emod_pow_succ (x : Int) (n : Nat) : (x / 256) % 256 ^ n * 256 + x % 256 = x % 256 ^ (n + 1) := by
  have h1 : x = 256 * (x / 256) + x % 256 := by omega
  have hp : (0 : Int) < 256 ^ n := Int.pow_pos (by decide)
  have h2 := Int.mul_ediv_add_emod (x / 256) (256 ^ n)
  have h3 := Int.emod_nonneg (x / 256) (Int.ne_of_gt hp)
  have h4 := Int.emod_lt_of_pos (x / 256) hp
  generalize (x / 256) % 256 ^ n = r at *
  generalize (x / 256) / 256 ^ n = q at *
  have h5 : x = (r * 256 + x % 256) + 256 ^ (n + 1) * q := by
    rw [Int.pow_succ]
    have : 256 ^ n * 256 * q = 256 * (256 ^ n * q) := by rw [Int.mul_comm (256 ^ n) 256, Int.mul_assoc]
    omega
  conv => rhs; rw [h5]
  rw [Int.add_mul_emod_self_left]
  symm
  apply Int.emod_eq_of_lt
  · omega
  · rw [Int.pow_succ]; omega

theorem num_lay (l : List Int) (p n : Nat) (x : Int) (h : p + n ≤ l.length) : num (((lay l p n x).drop p).take n) = x % 256 ^ n := by
  induction n generalizing l x with
  | zero => simp [num, Int.emod_one]
  | succ n ih =>
    have hl : (lay l p (n + 1) x).length = l.length := lay_length _ _ _ _
    rw [take_next _ _ _ (by omega), num_snoc]
    show num (List.take n (List.drop p (lay (l.set (p + n) (x % 256)) p n (x / 256)))) * 256 + (lay (l.set (p + n) (x % 256)) p n (x / 256)).getD (p + n) 0 = _
    rw [ih _ _ (by simp; omega), lay_past _ _ _ _ _ (Nat.le_refl _)]
    have : (l.set (p + n) (x % 256)).getD (p + n) 0 = x % 256 := by
      have : p + n < l.length := by omega
      simp [this]
    rw [this]
    exact emod_pow_succ x n

theorem getV_lay (l : List Int) (p n : Nat) (x : Int) (h1 : 1 ≤ n) (h2 : n ≤ 8) (h : p + n ≤ l.length) : getV (lay l p n x) p n = x % 256 ^ n := by
  unfold getV
  have : holdsB (lay l p n x).length p n = true := by rw [lay_length]; unfold holdsB; simp; omega
  rw [if_pos this, Int.toNat_natCast, Int.toNat_natCast]
  exact num_lay l p n x h


theorem wsAux_set (k : Nat) (l : List Int) (i : Nat) (c : Int) (h : i < l.length) : wsAux k (l.set i c) = wsAux k l + (if (k + i) % 2 = 0 then (c - l.getD i 0) * 256 else c - l.getD i 0) := by
  induction l generalizing k i with
  | nil => simp at h
  | cons a l ih =>
    cases i with
    | zero => simp only [List.set_cons_zero, wsAux, Nat.add_zero, List.getD_cons_zero]; split <;> omega
    | succ i =>
      have := ih (k + 1) i (by simpa using h)
      simp only [List.set_cons_succ, wsAux, List.getD_cons_succ, this]
      rw [show k + 1 + i = k + (i + 1) by omega]
      omega

theorem ws_lay2 (l : List Int) (p : Nat) (x : Int) (hp : p % 2 = 0) (h : p + 2 ≤ l.length) :
    ws (lay l p 2 x) = ws l - getV l p 2 + (x % 65536) := by
  have hg : getV l p 2 = l.getD p 0 * 256 + l.getD (p + 1) 0 := by
    unfold getV
    have : holdsB l.length p 2 = true := by unfold holdsB; simp; omega
    rw [if_pos this, Int.toNat_natCast]
    show num ((l.drop p).take 2) = _
    rw [take_next l p 1 (by omega), num_snoc, take_next l p 0 (by omega), num_snoc]
    simp [num]
  show ws ((l.set (p + 1) (x % 256)).set (p + 0) (x / 256 % 256)) = _
  unfold ws
  rw [wsAux_set _ _ _ _ (by simp; omega), wsAux_set _ _ _ _ (by omega), if_neg (by omega), if_pos (by omega), hg]
  have : (l.set (p + 1) (x % 256)).getD (p + 0) 0 = l.getD p 0 := by
    simp only [List.getD, List.getElem?_set, Nat.add_zero]; rw [if_neg (by omega)]
  rw [this]
  omega

theorem wsAux_zero (k : Nat) (l : List Int) (hb : isBytes l) (h : wsAux k l = 0) : ∀ z ∈ l, z = 0 := by
  induction l generalizing k with
  | nil => intro z hz; cases hz
  | cons a l ih =>
    have ha := hb a (by simp)
    have hl : isBytes l := fun z hz => hb z (by simp [hz])
    have h1 := wsAux_bd (k + 1) l hl
    simp only [wsAux] at h
    have h0 : a = 0 ∧ wsAux (k + 1) l = 0 := by split at h <;> omega
    intro z hz
    rcases List.mem_cons.1 hz with rfl | hz
    · exact h0.1
    · exact ih (k + 1) hl h0.2 z hz

def allz (l : List Int) : Bool := l.all (· == 0)

theorem allz_of_ws (l : List Int) (hb : isBytes l) (h : ws l = 0) : allz l = true := by
  unfold allz; rw [List.all_eq_true]; intro z hz; simp [wsAux_zero 0 l hb h z hz]

theorem allz_snoc (l : List Int) (c : Int) : allz (l ++ [c]) = (allz l && (c == 0)) := by unfold allz; simp

/-- P1.5: the check is brought along. -/
theorem upd_eq (S o n : Int) (h0 : 0 ≤ o) (h1 : o ≤ 65535) (h2 : o ≤ S) (h3 : 0 ≤ n) (h4 : n ≤ 65535) (h5 : 0 < S - o + n) :
    upd16 (turn16 (fold16 S)) o n = turn16 (fold16 (S - o + n)) := by
  unfold upd16 plus16 turn16 fold16
  split <;> split <;> split <;> split <;> omega

theorem upd_zero (S o n : Int) (h0 : 0 ≤ o) (h1 : o ≤ 65535) (h2 : o ≤ S) (h3 : 0 ≤ n) (h4 : n ≤ 65535) (h5 : S - o + n = 0) :
    upd16 (turn16 (fold16 S)) o n = 0 := by
  unfold upd16 plus16 turn16 fold16
  split <;> split <;> split <;> omega

end Go.Proofs.YtafkkehcacdodaaGreat
