/- Records are those of the sectors, one behind the other; segments count them all. Plain mathematics. -/
import Derived.Test.YtafkkehcacdodaaGreatStrSeg
set_option maxRecDepth 100000
namespace Go.Proofs.YtafkkehcacdodaaGreat
open Go.RowKit

theorem openK_bodies (now : List Int) (k : Nat) : (openK now (k + 1)).recs.map Prod.snd = (openK now k).recs.map Prod.snd ++ scanB (sec now k) := by
  simp only [openK, List.map_append, List.map_map]
  congr 1
  exact List.map_id _

/-- The bodies of the sectors ahead of one. -/
def recB (now : List Int) (k : Nat) : List (List Int) := (openK now k).recs.map Prod.snd

theorem recB_succ (now : List Int) (k : Nat) : recB now (k + 1) = recB now k ++ scanB (sec now k) := openK_bodies now k
theorem recB_len (now : List Int) (k : Nat) : (recB now k).length = (openK now k).recs.length := by simp [recB]

theorem sum_set (l : List Int) : ∀ (i : Nat), i < l.length → (l.set i (l.getD i 0 + 1)).sum = l.sum + 1 := by
  induction l with
  | nil => intro i h; simp at h
  | cons x l ih =>
    intro i h
    cases i with
    | zero => simp only [List.set_cons_zero, List.sum_cons, List.getD_cons_zero]; omega
    | succ i =>
      have := ih i (by simpa using h)
      simp only [List.set_cons_succ, List.sum_cons, List.getD_cons_succ]
      omega

theorem sum_zeros (n : Nat) : (List.replicate n (0 : Int)).sum = 0 := by
  induction n with
  | zero => rfl
  | succ n ih => rw [List.replicate_succ, List.sum_cons, ih]; rfl

theorem segL_sum (rs : List (Nat × List Int)) : ∀ m, m ≤ rs.length → (segL (rs.take m)).sum = m := by
  intro m
  induction m with
  | zero => intro _; rfl
  | succ m ih =>
    intro hm
    have h := ih (by omega)
    rw [List.take_succ_eq_append_getElem (by omega)]
    have hs := segL_step (rs.take m) rs[m] (max (segM (rs.take m)) (rs[m].1 / 16 + 1) - segM (rs.take m)) (by omega)
    rw [← hs, sum_set _ _ (by simp [segL_len]; omega), List.sum_append, sum_zeros, h]
    omega

theorem segL_all (rs : List (Nat × List Int)) : (segL rs).sum = rs.length := by
  have := segL_sum rs rs.length (Nat.le_refl _)
  rwa [List.take_length] at this

theorem sum_take (l : List Int) (k : Nat) (h : k < l.length) : (l.take (k + 1)).sum = (l.take k).sum + l.getD k 0 := by
  rw [List.take_succ_eq_append_getElem h, List.sum_append]
  simp [List.getD, List.getElem?_eq_getElem h]

theorem segL_bounds (rs : List (Nat × List Int)) (i : Nat) : 0 ≤ (segL rs).getD i 0 ∧ (segL rs).getD i 0 ≤ rs.length := by
  have := segL_nonneg rs 0 i
  simpa using this

theorem segL_part (rs : List (Nat × List Int)) : ∀ k, k ≤ (segL rs).length → 0 ≤ ((segL rs).take k).sum ∧ ((segL rs).take k).sum ≤ k * rs.length := by
  intro k
  induction k with
  | zero => intro _; simp
  | succ k ih =>
    intro hk
    have h := ih (by omega)
    have hb := segL_bounds rs k
    rw [sum_take _ _ (by omega)]
    refine ⟨by omega, ?_⟩
    have : ((k + 1 : Nat) : Int) * (rs.length : Int) = (k : Int) * rs.length + rs.length := by
      rw [Int.natCast_succ, Int.add_mul, Int.one_mul]
    omega

end Go.Proofs.YtafkkehcacdodaaGreat
