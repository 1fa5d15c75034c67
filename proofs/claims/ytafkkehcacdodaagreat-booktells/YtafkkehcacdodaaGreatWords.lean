/- Plain mathematics: the words of 16 bits that bytes make. -/
import Derived.Test.YtafkkehcacdodaaGreatMath
set_option maxRecDepth 100000
namespace Go.Proofs.YtafkkehcacdodaaGreat

/-- What the bytes of l add, the first of them at place k. -/
def wsAux : Nat → List Int → Int
  | _, [] => 0
  | k, c :: l => (if k % 2 = 0 then c * 256 else c) + wsAux (k + 1) l

def ws (l : List Int) : Int := wsAux 0 l

theorem wsAux_append (k : Nat) (l m : List Int) : wsAux k (l ++ m) = wsAux k l + wsAux (k + l.length) m := by
  induction l generalizing k with
  | nil => simp [wsAux]
  | cons c l ih => simp only [List.cons_append, wsAux, ih, List.length_cons]; rw [show k + 1 + l.length = k + (l.length + 1) by omega]; omega

theorem ws_snoc (l : List Int) (c : Int) : ws (l ++ [c]) = ws l + (if l.length % 2 = 0 then c * 256 else c) := by
  unfold ws; rw [wsAux_append]; simp [wsAux]

def isBytes (l : List Int) : Prop := ∀ z ∈ l, 0 ≤ z ∧ z < 256

theorem wsAux_bd (k : Nat) (l : List Int) (h : isBytes l) : 0 ≤ wsAux k l ∧ wsAux k l ≤ 65280 * l.length := by
  induction l generalizing k with
  | nil => simp [wsAux]
  | cons c l ih =>
    have hc := h c (by simp)
    have := ih (k + 1) (fun z hz => h z (by simp [hz]))
    simp only [wsAux, List.length_cons]
    split <;> omega

theorem ws_bd (l : List Int) (h : isBytes l) : 0 ≤ ws l ∧ ws l ≤ 65280 * l.length := wsAux_bd 0 l h

def shiftOf (n : Nat) : Int := if n % 2 = 0 then 8 else 0

theorem isBytes_append {l m : List Int} (h : isBytes l) (k : isBytes m) : isBytes (l ++ m) := by
  intro z hz; rcases List.mem_append.1 hz with h1 | h1
  · exact h z h1
  · exact k z h1
theorem isBytes_take {l : List Int} (h : isBytes l) (n : Nat) : isBytes (l.take n) := fun z hz => h z (List.mem_of_mem_take hz)
theorem isBytes_drop {l : List Int} (h : isBytes l) (n : Nat) : isBytes (l.drop n) := fun z hz => h z (List.mem_of_mem_drop hz)

theorem getD_byte (l : List Int) (hb : isBytes l) (i : Nat) : 0 ≤ l.getD i 0 ∧ l.getD i 0 < 256 := by
  by_cases h : i < l.length
  · have := hb l[i] (List.getElem_mem h); simpa [List.getD, List.getElem?_eq_getElem h] using this
  · simp [List.getD, List.getElem?_eq_none (Nat.le_of_not_lt h)]

theorem take_snoc (l : List Int) (k : Nat) (h : k < l.length) : l.take (k + 1) = l.take k ++ [l.getD k 0] := by
  rw [List.take_succ_eq_append_getElem h]; simp [List.getElem?_eq_getElem h]

theorem flatten_take_snoc (ls : List (List Int)) (k : Nat) (h : k < ls.length) : (ls.take (k + 1)).flatten = (ls.take k).flatten ++ ls.getD k [] := by
  rw [List.take_succ_eq_append_getElem h, List.flatten_append]; simp [List.getElem?_eq_getElem h]

theorem flatten_take_le (ls : List (List Int)) (k : Nat) : (ls.take k).flatten.length ≤ ls.flatten.length := by
  induction ls generalizing k with
  | nil => simp
  | cons a ls ih => cases k with
    | zero => simp
    | succ k => have := ih k; simp at *; omega

end Go.Proofs.YtafkkehcacdodaaGreat
