/- Counts of the sectors, gathered by segments. Plain mathematics. -/
import Derived.Test.YtafkkehcacdodaaGreatStrRState
import Derived.Test.YtafkkehcacdodaaGreatStrSeg
set_option maxRecDepth 100000
namespace Go.Proofs.YtafkkehcacdodaaGreat
open Go.RowKit

def cntN (rs : List (Nat × List Int)) (i : Nat) : Nat := rs.countP fun x => x.1 == i
def segCi (rs : List (Nat × List Int)) (i j : Nat) : Nat := rs.countP fun x => x.1 / 16 == j && decide (x.1 < i)

theorem segCi_step (rs : List (Nat × List Int)) (i j : Nat) : segCi rs (i + 1) j = segCi rs i j + if i / 16 = j then cntN rs i else 0 := by
  unfold segCi cntN
  induction rs with
  | nil => simp
  | cons x rs ih =>
    rw [List.countP_cons, List.countP_cons, List.countP_cons, ih]
    by_cases h1 : x.1 = i
    · subst h1
      by_cases h2 : x.1 / 16 = j
      · simp [h2]; omega
      · simp [h2]
    · by_cases h2 : x.1 / 16 = j
      · by_cases h3 : x.1 < i
        · simp [h1, h2, h3, show x.1 < i + 1 by omega]; split <;> omega
        · simp [h1, h2, h3, show ¬ x.1 < i + 1 by omega]
      · simp [h1, h2]

theorem segCi_zero (rs : List (Nat × List Int)) (i j : Nat) (h : i ≤ 16 * j) : segCi rs i j = 0 := by
  unfold segCi
  rw [List.countP_eq_zero]
  intro x _
  simp
  omega

theorem segCi_all (rs : List (Nat × List Int)) (n j : Nat) (h : ∀ x ∈ rs, x.1 < n) : segCi rs n j = segC rs j := by
  unfold segCi segC
  apply List.countP_congr
  intro x hx
  have := h x hx
  simp [this]

def outI (rs : List (Nat × List Int)) (i : Nat) : List Int := (List.range ((i + 15) / 16)).map fun j => (segCi rs i j : Int)
def outP (rs : List (Nat × List Int)) (i : Nat) : List Int := if i % 16 = 0 then outI rs i ++ [0] else outI rs i

theorem outI_len (rs : List (Nat × List Int)) (i : Nat) : (outI rs i).length = (i + 15) / 16 := by simp [outI]
theorem outP_len (rs : List (Nat × List Int)) (i : Nat) : (outP rs i).length = i / 16 + 1 := by
  unfold outP
  split
  · rw [List.length_append, outI_len, List.length_singleton]; omega
  · rw [outI_len]; omega

theorem outI_get (rs : List (Nat × List Int)) (i j : Nat) (h : j < (i + 15) / 16) : (outI rs i).getD j 0 = segCi rs i j := by
  simp [outI, List.getD, h]

theorem outP_get (rs : List (Nat × List Int)) (i j : Nat) (h : j < i / 16 + 1) : (outP rs i).getD j 0 = segCi rs i j := by
  unfold outP
  split
  · rename_i h0
    by_cases hj : j < (i + 15) / 16
    · rw [getD_app_left _ _ _ (by rw [outI_len]; exact hj), outI_get _ _ _ hj]
    · rw [getD_app_right _ _ _ (by rw [outI_len]; omega), outI_len, segCi_zero _ _ _ (by omega), show j - (i + 15) / 16 = 0 by omega]
      rfl
  · rw [outI_get _ _ _ (by omega)]

theorem outI_step (rs : List (Nat × List Int)) (i : Nat) : (outP rs i).set (i / 16) ((outP rs i).getD (i / 16) 0 + (cntN rs i : Int)) = outI rs (i + 1) := by
  apply List.ext_getElem
  · rw [List.length_set, outP_len, outI_len]; omega
  · intro j h1 h2
    rw [List.length_set, outP_len] at h1
    rw [List.getElem_set]
    have e1 : (outI rs (i + 1))[j] = (segCi rs (i + 1) j : Int) := by simp [outI]
    have e2 : (outP rs i)[j]'(by rw [outP_len]; exact h1) = (segCi rs i j : Int) := by
      rw [← outP_get rs i j h1]; simp [List.getD, List.getElem?_eq_getElem (show j < (outP rs i).length by rw [outP_len]; exact h1)]
    rw [e1, segCi_step]
    by_cases e : i / 16 = j
    · rw [if_pos e, if_pos e, e, outP_get rs i j h1]; omega
    · rw [if_neg e, if_neg e, e2]; omega

def mostI (rs : List (Nat × List Int)) : Nat → Nat
  | 0 => 0
  | i + 1 => if 0 < cntN rs i then i / 16 + 1 else mostI rs i

theorem cnt_pos (rs : List (Nat × List Int)) (i : Nat) : 0 < cntN rs i ↔ ∃ x ∈ rs, x.1 = i := by
  unfold cntN
  rw [List.countP_pos_iff]
  simp

theorem most_bounds (rs : List (Nat × List Int)) : ∀ i, (∀ x ∈ rs, x.1 < i → x.1 / 16 + 1 ≤ mostI rs i) ∧ (mostI rs i = 0 ∨ ∃ x ∈ rs, x.1 < i ∧ x.1 / 16 + 1 = mostI rs i) ∧ mostI rs i ≤ (i + 15) / 16 := by
  intro i
  induction i with
  | zero => exact ⟨fun x _ h => by omega, .inl rfl, Nat.zero_le _⟩
  | succ i ih =>
    obtain ⟨h1, h2, h3⟩ := ih
    unfold mostI
    by_cases hc : 0 < cntN rs i
    · rw [if_pos hc]
      obtain ⟨x, hx, rfl⟩ := (cnt_pos rs i).1 hc
      exact ⟨fun y _ hy => by omega, .inr ⟨x, hx, by omega, rfl⟩, by omega⟩
    · rw [if_neg hc]
      refine ⟨fun x hx hlt => ?_, ?_, by omega⟩
      · by_cases e : x.1 = i
        · exact absurd ((cnt_pos rs i).2 ⟨x, hx, e⟩) hc
        · exact h1 x hx (by omega)
      · rcases h2 with h2 | ⟨x, hx, h4, h5⟩
        · exact .inl h2
        · exact .inr ⟨x, hx, by omega, h5⟩

theorem fold_le (rs : List (Nat × List Int)) (m : Nat) (h : ∀ x ∈ rs, x.1 / 16 + 1 ≤ m) : ∀ k, k ≤ m → rs.foldl (fun m x => max m (x.1 / 16 + 1)) k ≤ m := by
  induction rs with
  | nil => intro k hk; exact hk
  | cons x rs ih =>
    intro k hk
    have := h x (by simp)
    exact ih (fun y hy => h y (by simp [hy])) _ (by show max k (x.1 / 16 + 1) ≤ m; omega)

theorem most_all (rs : List (Nat × List Int)) (n : Nat) (h : ∀ x ∈ rs, x.1 < n) : mostI rs n = segM rs := by
  obtain ⟨h1, h2, _⟩ := most_bounds rs n
  have a : segM rs ≤ mostI rs n := fold_le rs _ (fun x hx => h1 x hx (h x hx)) 0 (Nat.zero_le _)
  rcases h2 with h2 | ⟨x, hx, _, h3⟩
  · omega
  · have := segM_ge rs 0 x hx
    unfold segM at a ⊢
    omega

theorem seg_all (rs : List (Nat × List Int)) (n : Nat) (h : ∀ x ∈ rs, x.1 < n) : (outI rs n).take (mostI rs n) = segL rs := by
  have hm := (most_bounds rs n).2.2
  rw [most_all rs n h] at hm ⊢
  unfold outI segL
  rw [← List.map_take, List.take_range, Nat.min_eq_left hm]
  apply List.map_congr_left
  intro j _
  rw [segCi_all rs n j h]

theorem cnt_le (rs : List (Nat × List Int)) (i : Nat) : cntN rs i ≤ rs.length := List.countP_le_length
theorem segCi_le (rs : List (Nat × List Int)) (i j : Nat) : segCi rs i j ≤ rs.length := List.countP_le_length

theorem cntL_cnt (rs : List (Nat × List Int)) (n k : Nat) (h : k < n) : (cntL rs n).getD k 0 = (cntN rs k : Int) := cntL_get rs n k h

end Go.Proofs.YtafkkehcacdodaaGreat
