/- Segments. -/
import Derived.Test.YtafkkehcacdodaaGreatStrAll
set_option maxRecDepth 100000
namespace Go.Proofs.YtafkkehcacdodaaGreat
open Go.RowKit

def segM (rs : List (Nat × List Int)) : Nat := rs.foldl (fun m x => max m (x.1 / 16 + 1)) 0
def segC (rs : List (Nat × List Int)) (j : Nat) : Nat := rs.countP fun x => x.1 / 16 == j
/-- How many records each segment has. -/
def segL (rs : List (Nat × List Int)) : List Int := (List.range (segM rs)).map fun j => (segC rs j : Int)

theorem segM_snoc (rs : List (Nat × List Int)) (x : Nat × List Int) : segM (rs ++ [x]) = max (segM rs) (x.1 / 16 + 1) := by simp [segM]
theorem segC_snoc (rs : List (Nat × List Int)) (x : Nat × List Int) (j : Nat) : segC (rs ++ [x]) j = segC rs j + if x.1 / 16 = j then 1 else 0 := by
  simp only [segC, List.countP_append, List.countP_singleton]
  simp
theorem segL_len (rs : List (Nat × List Int)) : (segL rs).length = segM rs := by simp [segL]

theorem segM_mono (rs : List (Nat × List Int)) : ∀ (m : Nat), m ≤ rs.foldl (fun m x => max m (x.1 / 16 + 1)) m := by
  induction rs with
  | nil => intro m; exact Nat.le_refl _
  | cons x r ih => intro m; exact Nat.le_trans (Nat.le_max_left _ _) (ih _)

theorem segM_ge (rs : List (Nat × List Int)) : ∀ (m : Nat) (x : Nat × List Int), x ∈ rs → x.1 / 16 + 1 ≤ rs.foldl (fun m x => max m (x.1 / 16 + 1)) m := by
  induction rs with
  | nil => intro m x hx; cases hx
  | cons y r ih =>
    intro m x hx
    rcases List.mem_cons.1 hx with rfl | hx
    · exact Nat.le_trans (Nat.le_max_right _ _) (segM_mono r _)
    · exact ih _ x hx

theorem segC_past (rs : List (Nat × List Int)) (j : Nat) (h : segM rs ≤ j) : segC rs j = 0 := by
  unfold segC
  rw [List.countP_eq_zero]
  intro x hx
  have := segM_ge rs 0 x hx
  unfold segM at h
  simp; omega

theorem segM_le (rs : List (Nat × List Int)) (n : Nat) (h : ∀ x ∈ rs, x.1 < n) : ∀ m, m ≤ n → rs.foldl (fun m x => max m (x.1 / 16 + 1)) m ≤ n := by
  induction rs with
  | nil => intro m hm; exact hm
  | cons y r ih =>
    intro m hm
    have := h y (by simp)
    exact ih (fun x hx => h x (by simp [hx])) _ (by show max m (y.1 / 16 + 1) ≤ n; omega)

theorem segL_step (rs : List (Nat × List Int)) (x : Nat × List Int) (j : Nat) (h : segM rs + j = max (segM rs) (x.1 / 16 + 1)) :
    (segL rs ++ List.replicate j 0).set (x.1 / 16) ((segL rs ++ List.replicate j 0).getD (x.1 / 16) 0 + 1) = segL (rs ++ [x]) := by
  have hl : (segL rs ++ List.replicate j (0 : Int)).length = segM rs + j := by simp [segL_len]
  have hg : ∀ i, i < segM rs + j → (segL rs ++ List.replicate j (0 : Int)).getD i 0 = segC rs i := by
    intro i hi
    by_cases hi2 : i < segM rs
    · rw [getD_app_left _ _ _ (by rw [segL_len]; exact hi2)]
      simp [segL, List.getD, hi2]
    · rw [getD_app_right _ _ _ (by rw [segL_len]; omega), segC_past rs i (by omega)]
      simp [List.getD, List.getElem?_replicate]
      split <;> rfl
  apply List.ext_getElem
  · rw [List.length_set, hl, segL_len, segM_snoc]; exact h
  · intro i h1 h2
    rw [List.length_set, hl] at h1
    rw [List.getElem_set]
    have hR : (segL (rs ++ [x]))[i] = (segC (rs ++ [x]) i : Int) := by simp [segL]
    rw [hR, segC_snoc]
    have hgi := hg i h1
    have hgi' : (segL rs ++ List.replicate j (0 : Int))[i]'(by rw [hl]; exact h1) = segC rs i := by
      rw [← hgi]; simp [List.getD, List.getElem?_eq_getElem (show i < (segL rs ++ List.replicate j (0 : Int)).length by rw [hl]; exact h1)]
    by_cases e : x.1 / 16 = i
    · rw [if_pos e, if_pos e, e, hgi]; simp
    · rw [if_neg e, if_neg e, hgi']; simp

theorem info3 : (Tryz.prog.info? 3).map (fun i => (i.zero, i.size, i.bytes)) = some (some (.int .i64 0), 1, 8) := by kernel_rfl

/-- A row of numbers of the call's own. -/
def OwnI (w : World) (base : Nat) (v : Value) (l : List Int) : Prop := w.ownsRow base 3 1 v l.length (l.map (Value.int .i64))

theorem OwnI.cell {w : World} {base g cap n : Nat} {l : List Int} (h : OwnI w base (.slice (some ⟨g, 0, none⟩) n cap) l) (hn : l.length = n) (j : Nat) (hj : j < l.length) : w.cell? ⟨g, j, none⟩ = some (.int .i64 (l.getD j 0)) := by
  subst hn
  have h' : w.ownsRow base 3 1 (.slice (some ⟨g, 0, none⟩) l.length cap) l.length (l.map (Value.int .i64)) := h
  rw [h'.cellAt j (by omega)]
  simp [List.getElem?_eq_getElem hj]

theorem segL_nonneg (rs : List (Nat × List Int)) (j i : Nat) : 0 ≤ (segL rs ++ List.replicate j (0 : Int)).getD i 0 ∧ (segL rs ++ List.replicate j (0 : Int)).getD i 0 ≤ rs.length := by
  by_cases hi2 : i < segM rs
  · rw [getD_app_left _ _ _ (by rw [segL_len]; exact hi2)]
    have := List.countP_le_length (p := fun x : Nat × List Int => x.1 / 16 == i) (l := rs)
    simp [segL, List.getD, hi2, segC]
    omega
  · rw [getD_app_right _ _ _ (by rw [segL_len]; omega)]
    simp [List.getD, List.getElem?_replicate]
    split <;> simp <;> omega

end Go.Proofs.YtafkkehcacdodaaGreat
