/- Rows of slices, each of them in memory of its own. -/
import Derived.Test.YtafkkehcacdodaaGreatStrFrame
set_option maxRecDepth 100000
namespace Go.Proofs.YtafkkehcacdodaaGreat
open Go.RowKit

theorem infoB : (Tryz.prog.info? 39).map (fun i => (i.zero, i.size, i.bytes)) = some (some (.slice none 0 0), 1, 24) := by kernel_rfl

/-- A row of slices, each in memory of its own. -/
structure Lst (w : World) (base : Nat) (v : Value) (vs : List Value) (ls : List (List Int)) : Prop where
  win : Win w 1 v ls.length vs
  blk : ∀ g, v.ownBlock = some g → base ≤ g
  bts : ∀ i, i < ls.length → Bts w (vs.getD i undef) (ls.getD i [])
  ent : ∀ i, i < ls.length → ∀ g, (vs.getD i undef).ownBlock = some g → base ≤ g ∧ g < w.heap.size ∧ v.ownBlock ≠ some g

theorem Lst.later {w w' : World} {base : Nat} {v : Value} {vs : List Value} {ls : List (List Int)} (h : Lst w base v vs ls) (hb : Below w.heap.size w w') : Lst w' base v vs ls :=
  ⟨h.win.later hb, h.blk, fun i hi => (h.bts i hi).later hb, fun i hi g hg => ⟨(h.ent i hi g hg).1, Nat.lt_of_lt_of_le (h.ent i hi g hg).2.1 hb.size, (h.ent i hi g hg).2.2⟩⟩

theorem Lst.mono {w : World} {base base' : Nat} {v : Value} {vs : List Value} {ls : List (List Int)} (h : Lst w base v vs ls) (hb : base' ≤ base) : Lst w base' v vs ls :=
  ⟨h.win, fun g hg => Nat.le_trans hb (h.blk g hg), h.bts, fun i hi g hg => ⟨Nat.le_trans hb (h.ent i hi g hg).1, (h.ent i hi g hg).2⟩⟩

theorem lst_nil (w : World) (base : Nat) : Lst w base (.slice none 0 0) [] [] := ⟨win_nil _ _, fun g hg => by simp [Value.ownBlock] at hg, fun i hi => by simp at hi, fun i hi => by simp at hi⟩

theorem bts_same {w w' : World} {v : Value} {l : List Int} (h : Bts w v l) (e : ∀ g, v.ownBlock = some g → g < w.heap.size → w'.heap[g]? = w.heap[g]?) : Bts w' v l := by
  obtain ⟨a, cap, b, off, rfl, h1, h2, h3, h4, h5⟩ := h
  refine ⟨a, cap, b, off, rfl, h1, h2, h3, h4, ?_⟩
  rcases h4 with rfl | rfl
  · intro i hi
    have hc := h5 i hi
    have hlt : b < w.heap.size := World.block_lt_of_cell? w _ hc
    have := e b rfl hlt
    rw [← hc]
    unfold World.cell?
    simp only [this]
  · intro i hi; simp at hi

theorem getD_snoc_lt {α : Type} (l : List α) (x d : α) (i : Nat) (h : i < l.length) : (l ++ [x]).getD i d = l.getD i d := by
  simp only [List.getD, List.getElem?_append_left h]

theorem getD_snoc_eq {α : Type} (l : List α) (x d : α) : (l ++ [x]).getD l.length d = x := by
  simp [List.getD]

theorem one_of_bts {w : World} {v : Value} {l : List Int} (h : Bts w v l) : v.oneCell' = true := by
  obtain ⟨a, cap, b, off, rfl, _⟩ := h; rfl

theorem Lst.kept {w w' : World} {base : Nat} {v : Value} {vs : List Value} {ls : List (List Int)} (h : Lst w base v vs ls) (hk : ∀ g, base ≤ g → g < w.heap.size → w'.heap[g]? = w.heap[g]?) (hsz : w.heap.size ≤ w'.heap.size) : Lst w' base v vs ls :=
  ⟨h.win.same (fun g hg => hk g (h.blk g hg) (h.win.lt g hg)), h.blk, fun i hi => bts_same (h.bts i hi) (fun g hg hlt => hk g (h.ent i hi g hg).1 hlt),
    fun i hi g hg => ⟨(h.ent i hi g hg).1, Nat.lt_of_lt_of_le (h.ent i hi g hg).2.1 hsz, (h.ent i hi g hg).2.2⟩⟩

/-- One slice more at a row's end. -/
theorem Lst.push {w w1 : World} {base : Nat} {v u : Value} {vs : List Value} {ls : List (List Int)} {x : List Int} (h : Lst w base v vs ls) (hB : Below w.heap.size w w1) (hu : Bts w1 u x) (hg : ∀ g, u.ownBlock = some g → w.heap.size ≤ g ∧ g < w1.heap.size)
    (hbase : base ≤ w.heap.size) (hn : ls.length + 1 ≤ 1000000) :
    ∃ v' w3, (Builtin.append_ #[79, 79] 79 #[v, .slice (some ⟨w1.heap.size, 0, none⟩) 1 1]).run Tryz.prog (w1.alloc (.cells #[u] 39)) = .ok v' w3 ∧ Lst w3 base v' (vs ++ [u]) (ls ++ [x]) ∧
      Below w.heap.size w1 w1 ∧ (w1.alloc (.cells #[u] 39)).grownBy w3 v.ownBlock ∧ ∃ a c, v' = .slice a (ls.length + 1) c := by
  obtain ⟨i0, hi, hz0, hz1, hz2⟩ := info_parts infoB
  have hB2 : Below w.heap.size w (w1.alloc (.cells #[u] 39)) := hB.trans ((below_alloc w1 _).mono hB.size)
  have hL := h.later hB2
  have hnews : ∀ j u', [u][j]? = some u' → (w1.alloc (.cells #[u] 39)).cell? ((⟨w1.heap.size, 0, none⟩ : Addr).add j) = some u' := by
    intro j u' hj
    rw [add_at, Nat.zero_add, (blk_new w1 #[u] 39).cell]
    exact hj
  obtain ⟨v', w3, hr, hw, hgr, hat⟩ := win_append (P := Tryz.prog) (w1.alloc (.cells #[u] 39)) 79 79 39 i0 (.slice none 0 0) 1 24 Tryz.underlying79 hi hz0 hz1 hz2 rfl (by decide) v ls.length vs hL.win
    (some ⟨w1.heap.size, 0, none⟩) 1 1 [u] rfl (.inl ⟨_, rfl, hnews⟩) (by intro u' hu'; simp at hu'; subst hu'; exact one_of_bts hu) (by unfold maxLen; omega) (by omega)
  have hvl : vs.length = ls.length := by have := h.win.1; omega
  have hs3 := hgr.size
  have hsz : (w1.alloc (.cells #[u] 39)).heap.size = w1.heap.size + 1 := World.size_alloc _ _
  have hs1 := hB.size
  refine ⟨v', w3, hr, ?_, Below.refl _ _, hgr, win_shape hw⟩
  have hkeep : ∀ (y : Value) (l : List Int), Bts (w1.alloc (.cells #[u] 39)) y l → (∀ g, y.ownBlock = some g → v.ownBlock ≠ some g) → Bts w3 y l := fun y l hy hne =>
    bts_same hy (fun g hg hlt => hgr.block g hlt (fun e => hne g hg e.symm))
  refine ⟨by rw [List.length_append]; exact hw, ?_, ?_, ?_⟩
  · intro g hg'
    rcases hat with e | e
    · rw [e] at hg'; exact h.blk g hg'
    · rw [e] at hg'; simp at hg'; omega
  · intro i hi
    rw [List.length_append, List.length_singleton] at hi
    by_cases hil : i < ls.length
    · rw [getD_snoc_lt _ _ _ _ (by omega), getD_snoc_lt _ _ _ _ hil]
      exact hkeep _ _ (hL.bts i hil) (fun g hg => (h.ent i hil g hg).2.2)
    · have : i = ls.length := by omega
      subst this
      rw [getD_snoc_eq, ← hvl, getD_snoc_eq]
      refine hkeep _ _ (hu.later (below_alloc _ _)) (fun g hg' e => ?_)
      have := h.win.lt g e
      have := (hg g hg').1
      omega
  · intro i hi g hg'
    rw [List.length_append, List.length_singleton] at hi
    by_cases hil : i < ls.length
    · rw [getD_snoc_lt _ _ _ _ (by omega)] at hg'
      obtain ⟨e1, e2, e3⟩ := h.ent i hil g hg'
      refine ⟨e1, by omega, ?_⟩
      rcases hat with e | e
      · rw [e]; exact e3
      · rw [e]; intro e'; simp at e'; omega
    · have : i = ls.length := by omega
      subst this
      rw [← hvl, getD_snoc_eq] at hg'
      obtain ⟨e1, e2⟩ := hg g hg'
      refine ⟨by omega, by omega, ?_⟩
      rcases hat with e | e
      · rw [e]; intro e'; have := h.win.lt g e'; omega
      · rw [e]; intro e'; simp at e'; omega

end Go.Proofs.YtafkkehcacdodaaGreat
