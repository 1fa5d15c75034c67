/- Spans by their blocks: a map of rows, each in memory of its own. -/
import Derived.Test.YtafkkehcacdodaaGreatTraStep
import Derived.Maps.AppendAt
set_option maxRecDepth 100000
namespace Go.Proofs.YtafkkehcacdodaaGreat
open Go.RowKit Go.Maps

/-- One span behind a row of the call's own: where the new row lies. -/
theorem append_sp_at (W : World) (base : Nat) (v : Value) (l : List Sp) (s : Sp) (b : Nat) (hv : SpRow W base v l) (hs : SpAt W b 0 s) (hbase : base ≤ W.heap.size) (hlen : l.length ≤ 1000000) :
    ∃ v' w', (Builtin.append_ #[57, 57] 57 #[v, .slice (some ⟨b, 0, none⟩) 1 1]).run Tryz.prog W = .ok v' w' ∧ SpRow w' base v' (l ++ [s]) ∧ W.grownBy w' v.ownBlock ∧ Below base W w' ∧
      (v'.ownBlock = v.ownBlock ∨ v'.ownBlock = some W.heap.size) := by
  obtain ⟨i0, hi, hz0, hz1, hz2⟩ := info_parts infoSp
  obtain ⟨v', w', hr, ho, hg, -, hat⟩ := run_append_own_at (P := Tryz.prog) W base 57 57 59 i0 (.agg #[.int .u32 0, .int .u32 0, .int .i64 0, .int .i64 0, .int .i64 0, .bool false]) 6 40 Tryz.underlying57 hi hz0 hz1 hz2 rfl (by decide) v l.length (l.flatMap spC) hv
    ⟨b, 0, none⟩ 1 1 (spC s) rfl (by
      intro j u hj
      rw [add_at, Nat.zero_add]
      obtain ⟨c0, c1, c2, c3, c4, c5⟩ := hs
      have hj6 : j < 6 := (List.getElem?_eq_some_iff.1 hj).1
      have : j = 0 ∨ j = 1 ∨ j = 2 ∨ j = 3 ∨ j = 4 ∨ j = 5 := by omega
      rcases this with rfl | rfl | rfl | rfl | rfl | rfl <;> simp [spC] at hj <;> subst hj <;> assumption) (by
      intro u hu
      unfold spC at hu
      simp at hu
      rcases hu with rfl | rfl | rfl | rfl | rfl | rfl <;> rfl) (by unfold maxLen; omega) (by omega) hbase
  refine ⟨v', w', hr, ?_, hg, (Below.refl _ _).grown hg hbase (fun k hk => (hv.lt k hk).1), hat⟩
  show w'.ownsRow base _ 6 v' (l ++ [s]).length ((l ++ [s]).flatMap spC)
  rw [List.flatMap_append, List.length_append]
  simpa using ho

/-- Each block's row in memory of its own, apart from all others. -/
structure Grp (w : World) (base : Nat) (f : Pl → Option Value) (G : Pl → List Sp) : Prop where
  row : ∀ p rv, f p = some rv → SpRow w base rv (G p) ∧ G p ≠ []
  off : ∀ p, f p = none → G p = []
  apart : ∀ p q rv rv', f p = some rv → f q = some rv' → p ≠ q → ∀ g, rv.ownBlock = some g → rv'.ownBlock ≠ some g

theorem Grp.later {w w' : World} {base : Nat} {f : Pl → Option Value} {G : Pl → List Sp} (h : Grp w base f G) (hb : Below w.heap.size w w') : Grp w' base f G :=
  ⟨fun p rv hp => ⟨ownsRow_later (h.row p rv hp).1 hb, (h.row p rv hp).2⟩, h.off, h.apart⟩

theorem Grp.same {w w' : World} {base : Nat} {f : Pl → Option Value} {G : Pl → List Sp} (h : Grp w base f G) (hb : ∀ k, base ≤ k → k < w.heap.size → w'.heap[k]? = w.heap[k]?) : Grp w' base f G :=
  ⟨fun p rv hp => ⟨ownsRow_same (h.row p rv hp).1 (fun g hg => hb g (ownsRow_lt (h.row p rv hp).1 hg).1 (ownsRow_lt (h.row p rv hp).1 hg).2), (h.row p rv hp).2⟩, h.off, h.apart⟩

theorem grp_none (w : World) (base : Nat) : Grp w base (fun _ => none) (fun _ => []) :=
  ⟨fun p rv h => (by cases h), fun p _ => rfl, fun p q rv rv' h => (by cases h)⟩

theorem Grp.ext {w : World} {base : Nat} {f f' : Pl → Option Value} {G G' : Pl → List Sp} (h : Grp w base f G) (hf : ∀ p, f p = f' p) (hG : ∀ p, G p = G' p) : Grp w base f' G' := by
  have e1 : f = f' := funext hf
  have e2 : G = G' := funext hG
  exact e1 ▸ e2 ▸ h

/-- The row at a block, nil where there is none. -/
theorem Grp.get {w : World} {base : Nat} {f : Pl → Option Value} {G : Pl → List Sp} (h : Grp w base f G) (p : Pl) : SpRow w base ((f p).getD (.slice none 0 0)) (G p) := by
  cases hf : f p with
  | none => rw [h.off p hf]; exact World.ownsRow_nil _ _ _ _
  | some rv => exact (h.row p rv hf).1

/-- One row has grown. -/
theorem Grp.grow {w w' : World} {base : Nat} {f : Pl → Option Value} {G : Pl → List Sp} (h : Grp w base f G) (p : Pl) (v' : Value) (s : Sp) (hr : SpRow w' base v' (G p ++ [s])) (hg : w.grownBy w' ((f p).getD (.slice none 0 0)).ownBlock)
    (hat : v'.ownBlock = ((f p).getD (.slice none 0 0)).ownBlock ∨ v'.ownBlock = some w.heap.size) : Grp w' base (fun y => if y = p then some v' else f y) (fun y => if y = p then G y ++ [s] else G y) := by
  refine ⟨fun q rv hq => ?_, fun q hq => ?_, fun q q' rv rv' hq hq' hne => ?_⟩
  · by_cases e : q = p
    · subst e
      simp at hq
      subst hq
      simp only [if_pos]
      exact ⟨hr, by simp⟩
    · simp only [if_neg e] at hq ⊢
      obtain ⟨h1, h2⟩ := h.row q rv hq
      refine ⟨ownsRow_same h1 fun g hgb => hg.block g (ownsRow_lt h1 hgb).2 fun he => ?_, h2⟩
      cases hf : f p with
      | none => rw [hf] at he; cases he
      | some u =>
        rw [hf] at he
        exact h.apart q p rv u hq hf e g hgb he.symm
  · by_cases e : q = p
    · simp [e] at hq
    · simp only [if_neg e] at hq ⊢
      exact h.off q hq
  · have key : ∀ q rv, q ≠ p → f q = some rv → ∀ g, rv.ownBlock = some g → v'.ownBlock ≠ some g := fun q rv e hq g hgb he => by
      obtain ⟨h1, h2⟩ := h.row q rv hq
      have hlt := (ownsRow_lt h1 hgb).2
      rcases hat with ha | ha
      · rw [he] at ha
        cases hf : f p with
        | none => rw [hf] at ha; cases ha
        | some u =>
          rw [hf] at ha
          exact h.apart q p rv u hq hf e g hgb ha.symm
      · rw [he] at ha
        injection ha with ha
        omega
    by_cases e : q = p
    · subst e
      have e' : ¬ q' = q := fun h => hne h.symm
      simp only [if_pos] at hq
      simp only [if_neg e'] at hq'
      injection hq with hq
      subst hq
      intro g hgb he
      exact key q' rv' e' hq' g he hgb
    · simp only [if_neg e] at hq
      by_cases e' : q' = p
      · subst e'
        simp only [if_pos] at hq'
        injection hq' with hq'
        subst hq'
        intro g hgb
        exact key q rv e hq g hgb
      · simp only [if_neg e'] at hq'
        exact h.apart q q' rv rv' hq hq' hne

/-- One row has been put in another order. -/
theorem Grp.turn {w w' : World} {base : Nat} {f : Pl → Option Value} {G : Pl → List Sp} (h : Grp w base f G) (p : Pl) (rv : Value) (hp : f p = some rv) (r : List Sp) (hr : SpRow w' base rv r) (hne : r ≠ []) (hg : w.grownBy w' rv.ownBlock) :
    Grp w' base f (fun y => if y = p then r else G y) := by
  refine ⟨fun q rv' hq => ?_, fun q hq => ?_, h.apart⟩
  · by_cases e : q = p
    · subst e
      rw [hp] at hq
      injection hq with hq
      subst hq
      simp only [if_pos]
      exact ⟨hr, hne⟩
    · simp only [if_neg e]
      obtain ⟨h1, h2⟩ := h.row q rv' hq
      exact ⟨ownsRow_same h1 fun g hgb => hg.block g (ownsRow_lt h1 hgb).2 fun he => h.apart q p rv' rv hq hp e g hgb he.symm, h2⟩
  · by_cases e : q = p
    · subst e
      rw [hp] at hq
      cases hq
    · simp only [if_neg e]
      exact h.off q hq

theorem lawPlK : Go.WideMaps.KeyLaw Tryz.prog 118 :=
  deep_law_laid laidOut (m := 3) (by omega) rowPl (by kernel_rfl) (by rw [Tryz.underlying118])

end Go.Proofs.YtafkkehcacdodaaGreat
