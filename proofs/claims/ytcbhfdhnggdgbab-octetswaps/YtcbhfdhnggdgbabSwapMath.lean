/- Plain mathematics: words changed about, bytes of words turned round. -/
import Derived.Test.YtcbhfdhnggdgbabWords
namespace Go.Proofs.Ytcbhfdhnggdgbab

theorem wsAux_set' (k : Nat) (l : List Int) (i : Nat) (c : Int) (h : i < l.length) : wsAux k (l.set i c) = wsAux k l + (if (k + i) % 2 = 0 then (c - l.getD i 0) * 256 else c - l.getD i 0) := by
  induction l generalizing k i with
  | nil => simp at h
  | cons a l ih =>
    cases i with
    | zero => simp only [List.set_cons_zero, wsAux, Nat.add_zero, List.getD_cons_zero]; split <;> omega
    | succ i =>
      have := ih (k + 1) i (by simpa using h)
      simp only [List.set_cons_succ, wsAux, List.getD_cons_succ, this]
      rw [show k + 1 + i = k + (i + 1) by omega]
      omega

theorem ws_set_even (l : List Int) (i : Nat) (c : Int) (h : i < l.length) (he : i % 2 = 0) : ws (l.set i c) = ws l + (c - l.getD i 0) * 256 := by
  unfold ws; rw [wsAux_set' 0 l i c h, if_pos (by omega)]

theorem ws_set_odd (l : List Int) (i : Nat) (c : Int) (h : i < l.length) (he : i % 2 = 1) : ws (l.set i c) = ws l + (c - l.getD i 0) := by
  unfold ws; rw [wsAux_set' 0 l i c h, if_neg (by omega)]

theorem getD_set_ne (l : List Int) (i j : Nat) (c : Int) (h : i ≠ j) : (l.set i c).getD j 0 = l.getD j 0 := by
  simp only [List.getD, List.getElem?_set]; rw [if_neg h]

theorem getD_set_eq (l : List Int) (i : Nat) (c : Int) (h : i < l.length) : (l.set i c).getD i 0 = c := by
  simp [h]

theorem getD_set_same (l : List Int) (i j : Nat) (c : Int) (hi : i < l.length) (h : i = j → c = l.getD j 0) : (l.set i c).getD j 0 = l.getD j 0 := by
  by_cases e : i = j
  · subst e; rw [getD_set_eq _ _ _ hi]; exact h rfl
  · exact getD_set_ne _ _ _ _ e

/-- With two words changed about the sum stays. -/
theorem ws_swap (l : List Int) (I K : Nat) (hI : I % 2 = 0) (hK : K % 2 = 0) (h1 : I + 1 < l.length) (h2 : K + 1 < l.length) :
    ws ((((l.set I (l.getD K 0)).set (I + 1) (l.getD (K + 1) 0)).set K (l.getD I 0)).set (K + 1) (l.getD (I + 1) 0)) = ws l := by
  rw [ws_set_odd _ _ _ (by simp; omega) (by omega), ws_set_even _ _ _ (by simp; omega) (by omega), ws_set_odd _ _ _ (by simp; omega) (by omega), ws_set_even _ _ _ (by omega) (by omega)]
  have e1 : (l.set I (l.getD K 0)).getD (I + 1) 0 = l.getD (I + 1) 0 := getD_set_ne _ _ _ _ (by omega)
  have e2 : ((l.set I (l.getD K 0)).set (I + 1) (l.getD (K + 1) 0)).getD K 0 = l.getD K 0 := by
    rw [getD_set_ne _ _ _ _ (by omega)]
    exact getD_set_same _ _ _ _ (by omega) (fun _ => rfl)
  have e3 : (((l.set I (l.getD K 0)).set (I + 1) (l.getD (K + 1) 0)).set K (l.getD I 0)).getD (K + 1) 0 = l.getD (K + 1) 0 := by
    rw [getD_set_ne _ _ _ _ (by omega)]
    have e : (l.set I (l.getD K 0)).getD (K + 1) 0 = l.getD (K + 1) 0 := getD_set_ne _ _ _ _ (by omega)
    by_cases h : I + 1 = K + 1
    · rw [h, getD_set_eq _ _ _ (by simp; omega)]
    · rw [getD_set_ne _ _ _ _ h, e]
  rw [e1, e2, e3]
  omega

/-- The first m words with their bytes turned round. -/
def swapTo : Nat → List Int → List Int
  | 0, l => l
  | m + 1, l => ((swapTo m l).set (2 * m) ((swapTo m l).getD (2 * m + 1) 0)).set (2 * m + 1) ((swapTo m l).getD (2 * m) 0)

theorem swapTo_length (m : Nat) (l : List Int) : (swapTo m l).length = l.length := by
  induction m with
  | zero => rfl
  | succ m ih => simp [swapTo, ih]

theorem swapTo_past (m : Nat) (l : List Int) (i : Nat) (h : 2 * m ≤ i) : (swapTo m l).getD i 0 = l.getD i 0 := by
  induction m with
  | zero => rfl
  | succ m ih =>
    unfold swapTo
    rw [getD_set_ne _ _ _ _ (by omega), getD_set_ne _ _ _ _ (by omega)]
    exact ih (by omega)

theorem isBytes_set {l : List Int} (h : isBytes l) (i : Nat) (c : Int) (hc : 0 ≤ c ∧ c < 256) : isBytes (l.set i c) := by
  intro z hz
  rcases List.mem_or_eq_of_mem_set hz with h1 | rfl
  · exact h z h1
  · exact hc

theorem swapTo_bytes (m : Nat) (l : List Int) (h : isBytes l) : isBytes (swapTo m l) := by
  induction m with
  | zero => exact h
  | succ m ih => exact isBytes_set (isBytes_set ih _ _ (getD_byte _ ih _)) _ _ (getD_byte _ ih _)

def hsum : Nat → List Int → Int
  | 0, _ => 0
  | m + 1, l => hsum m l + l.getD (2 * m) 0

def lsum : Nat → List Int → Int
  | 0, _ => 0
  | m + 1, l => lsum m l + l.getD (2 * m + 1) 0

theorem ws_take (m : Nat) (l : List Int) (h : 2 * m ≤ l.length) : ws (l.take (2 * m)) = 256 * hsum m l + lsum m l := by
  induction m with
  | zero => simp [hsum, lsum, ws, wsAux]
  | succ m ih =>
    have e1 : l.take (2 * (m + 1)) = (l.take (2 * m) ++ [l.getD (2 * m) 0]) ++ [l.getD (2 * m + 1) 0] := by
      rw [show 2 * (m + 1) = (2 * m + 1) + 1 by omega, take_snoc l _ (by omega), take_snoc l _ (by omega)]
    rw [e1, ws_snoc, ws_snoc, ih (by omega)]
    have l1 : (l.take (2 * m)).length = 2 * m := by simp; omega
    have l2 : (l.take (2 * m) ++ [l.getD (2 * m) 0]).length = 2 * m + 1 := by rw [List.length_append, l1]; rfl
    rw [l1, l2, if_pos (by omega), if_neg (by omega)]
    simp only [hsum, lsum]
    omega

theorem ws_swapTo (m : Nat) (l : List Int) (h : 2 * m ≤ l.length) : ws (swapTo m l) = ws l + 255 * (lsum m l - hsum m l) := by
  induction m with
  | zero => simp [hsum, lsum, swapTo]
  | succ m ih =>
    have hl := swapTo_length m l
    unfold swapTo
    rw [ws_set_odd _ _ _ (by simp; omega) (by omega), ws_set_even _ _ _ (by omega) (by omega), getD_set_ne _ _ _ _ (by omega), ih (by omega),
      swapTo_past m l (2 * m) (by omega), swapTo_past m l (2 * m + 1) (by omega)]
    simp only [hsum, lsum]
    omega

theorem hsum_nonneg (m : Nat) (l : List Int) (h : isBytes l) : 0 ≤ hsum m l := by
  induction m with
  | zero => simp [hsum]
  | succ m ih => have := getD_byte l h (2 * m); simp only [hsum]; omega

theorem lsum_nonneg (m : Nat) (l : List Int) (h : isBytes l) : 0 ≤ lsum m l := by
  induction m with
  | zero => simp [lsum]
  | succ m ih => have := getD_byte l h (2 * m + 1); simp only [lsum]; omega

theorem fold_rot (H L : Int) (h1 : 0 ≤ H) (h2 : 0 ≤ L) : fold16 (256 * L + H) = fold16 (256 * H + L) / 256 + fold16 (256 * H + L) % 256 * 256 := by
  unfold fold16; split <;> split <;> omega

/-- With all bytes of words turned round the sum is turned round itself. -/
theorem fold_swapAll (n : Nat) (l : List Int) (hl : l.length = 2 * n) (hb : isBytes l) : fold16 (ws (swapTo n l)) = fold16 (ws l) / 256 + fold16 (ws l) % 256 * 256 := by
  have e := ws_take n l (by omega)
  rw [List.take_of_length_le (by omega)] at e
  rw [ws_swapTo n l (by omega), e, ← fold_rot _ _ (hsum_nonneg n l hb) (lsum_nonneg n l hb)]
  congr 1
  omega

end Go.Proofs.Ytcbhfdhnggdgbab
