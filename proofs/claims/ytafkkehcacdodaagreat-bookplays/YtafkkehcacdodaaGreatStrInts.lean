/- ints: are two lists of numbers one? Rows of slices joined. -/
import Derived.Test.YtafkkehcacdodaaGreatStrSame
import Derived.Test.YtafkkehcacdodaaGreatStrSeg
import Derived.BigQuiet
set_option maxRecDepth 100000
namespace Go.Proofs.YtafkkehcacdodaaGreat
open Go.RowKit
attribute [local go_sem ↓] Go.wp_at_zero Go.wp_at_succ

/-- A row of numbers, wherever it lies. -/
def WinI (w : World) (v : Value) (l : List Int) : Prop := Win w 1 v l.length (l.map (Value.int .i64))

theorem OwnI.win {w : World} {base : Nat} {v : Value} {l : List Int} (h : OwnI w base v l) : WinI w v l := win_of_owns h

theorem WinI.later {w w' : World} {v : Value} {l : List Int} (h : WinI w v l) (hb : Below w.heap.size w w') : WinI w' v l := Win.later h hb

theorem WinI.read {w : World} {v : Value} {l : List Int} (h : WinI w v l) (hne : 0 < l.length) : ∃ B O c, v = .slice (some ⟨B, O, none⟩) l.length c ∧ l.length ≤ c ∧ c ≤ maxLen ∧ ∀ i, i < l.length → w.cell? ⟨B, O + i, none⟩ = some (.int .i64 (l.getD i 0)) := by
  rcases h.2 with ⟨_, h0⟩ | ⟨B, O, c, cs, e, hb, h2, h3, h4, h5⟩
  · omega
  refine ⟨B, O, c, e, h2, h3, fun i hi => ?_⟩
  exact hb.range O (l.length * 1) i (.int .i64 (l.getD i 0)) (by rw [h5]; simp [List.getD, List.getElem?_eq_getElem hi])

theorem app_getD {α : Type} (l m : List α) (d : α) (i : Nat) : (l ++ m).getD i d = if i < l.length then l.getD i d else m.getD (i - l.length) d := by
  split
  · rename_i h; simp only [List.getD, List.getElem?_append_left h]
  · rename_i h; simp only [List.getD, List.getElem?_append_right (Nat.not_lt.1 h)]

/-- A row of slices behind another one. -/
theorem Lst.join {w w1 : World} {base : Nat} {v u : Value} {vs us : List Value} {ls ms : List (List Int)} (h : Lst w base v vs ls) (hB : Below w.heap.size w w1) (hu : Lst w1 w.heap.size u us ms) (hbase : base ≤ w.heap.size) (hn : ls.length + ms.length ≤ 1000000) :
    ∃ v' w3, (Builtin.append_ #[79, 79] 79 #[v, u]).run Tryz.prog w1 = .ok v' w3 ∧ Lst w3 base v' (vs ++ us) (ls ++ ms) ∧ w1.grownBy w3 v.ownBlock ∧ ∃ a c, v' = .slice a (ls.length + ms.length) c := by
  obtain ⟨i0, hi, hz0, hz1, hz2⟩ := info_parts infoB
  have hL := h.later hB
  obtain ⟨au, cu, rfl⟩ := win_shape hu.win
  have hvl : vs.length = ls.length := by have := h.win.1; omega
  have hul : us.length = ms.length := by have := hu.win.1; omega
  have hsrc : (∃ ad, au = some ad ∧ ∀ j x, us[j]? = some x → w1.cell? (ad.add j) = some x) ∨ ms.length = 0 := by
    by_cases h0 : ms.length = 0
    · exact .inr h0
    · left
      obtain ⟨B, O, c, e, _, _, hc⟩ := hu.read (by omega)
      injection e with ea _ ec
      subst ea
      refine ⟨_, rfl, fun j x hj => ?_⟩
      have hjl := (List.getElem?_eq_some_iff.1 hj).1
      rw [add_at, hc j (by omega)]
      simp [List.getD, hj]
  obtain ⟨v', w3, hr, hw, hgr, hat⟩ := win_append (P := Tryz.prog) w1 79 79 39 i0 (.slice none 0 0) 1 24 Tryz.underlying79 hi hz0 hz1 hz2 rfl (by decide) v ls.length vs hL.win
    au ms.length cu us (by omega) hsrc (by
      intro x hx
      obtain ⟨j, hj⟩ := List.getElem?_of_mem hx
      have hjl := (List.getElem?_eq_some_iff.1 hj).1
      have := hu.bts j (by omega)
      rw [List.getD, hj] at this
      exact one_of_bts this) (by unfold maxLen; omega) (by omega)
  have hs3 := hgr.size
  have hs1 := hB.size
  refine ⟨v', w3, hr, ?_, hgr, win_shape hw⟩
  have hkeep : ∀ (y : Value) (l : List Int), Bts w1 y l → (∀ g, y.ownBlock = some g → v.ownBlock ≠ some g) → Bts w3 y l := fun y l hy hne =>
    bts_same hy (fun g hg hlt => hgr.block g hlt (fun e => hne g hg e.symm))
  refine ⟨by rw [List.length_append]; exact hw, ?_, ?_, ?_⟩
  · intro g hg'
    rcases hat with e | e
    · rw [e] at hg'; exact h.blk g hg'
    · rw [e] at hg'; simp at hg'; omega
  · intro i hi
    rw [List.length_append] at hi
    rw [app_getD, app_getD, hvl]
    split
    · rename_i hil
      exact hkeep _ _ (hL.bts i hil) (fun g hg => (h.ent i hil g hg).2.2)
    · rename_i hil
      refine hkeep _ _ (hu.bts (i - ls.length) (by omega)) (fun g hg' e => ?_)
      have := h.win.lt g e
      have := (hu.ent (i - ls.length) (by omega) g hg').1
      omega
  · intro i hi g hg'
    rw [List.length_append] at hi
    rw [app_getD, hvl] at hg'
    split at hg'
    · rename_i hil
      obtain ⟨e1, e2, e3⟩ := h.ent i hil g hg'
      refine ⟨e1, by omega, ?_⟩
      rcases hat with e | e
      · rw [e]; exact e3
      · rw [e]; intro e'; simp at e'; omega
    · rename_i hil
      obtain ⟨e1, e2, e3⟩ := hu.ent (i - ls.length) (by omega) g hg'
      refine ⟨by omega, by omega, ?_⟩
      rcases hat with e | e
      · rw [e]; intro e'; have := h.win.lt g e'; omega
      · rw [e]; intro e'; simp at e'; omega

end Go.Proofs.YtafkkehcacdodaaGreat
