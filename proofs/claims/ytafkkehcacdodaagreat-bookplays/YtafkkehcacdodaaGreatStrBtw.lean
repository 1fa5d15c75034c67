/- between: are records some of those that were tried? -/
import Derived.Test.YtafkkehcacdodaaGreatStrSurvRun
import Derived.Test.YtafkkehcacdodaaGreatStrSame
set_option maxRecDepth 100000
namespace Go.Proofs.YtafkkehcacdodaaGreat
open Go.RowKit
attribute [local go_sem ↓] Go.wp_at_zero Go.wp_at_succ

theorem infoBool : (Tryz.prog.info? 4).map (fun i => (i.zero, i.size, i.bytes)) = some (some (.bool false), 1, 1) := by kernel_rfl

/-- A row of slices, wherever they lie. -/
structure Lsx (w : World) (v : Value) (vs : List Value) (ls : List (List Int)) : Prop where
  win : Win w 1 v ls.length vs
  bts : ∀ i, i < ls.length → Bts w (vs.getD i undef) (ls.getD i [])

theorem Lst.lsx {w : World} {base : Nat} {v : Value} {vs : List Value} {ls : List (List Int)} (h : Lst w base v vs ls) : Lsx w v vs ls := ⟨h.win, h.bts⟩

theorem Lsx.later {w w' : World} {v : Value} {vs : List Value} {ls : List (List Int)} (h : Lsx w v vs ls) (hb : Below w.heap.size w w') : Lsx w' v vs ls := ⟨h.win.later hb, fun i hi => (h.bts i hi).later hb⟩

/-- A window's cells, one each. -/
theorem win_read {w : World} {v : Value} {n : Nat} {vs : List Value} (h : Win w 1 v n vs) (hne : 0 < n) : ∃ B O c, v = .slice (some ⟨B, O, none⟩) n c ∧ n ≤ c ∧ c ≤ maxLen ∧ ∀ i, i < n → w.cell? ⟨B, O + i, none⟩ = some (vs.getD i undef) := by
  rcases h.2 with ⟨_, h0⟩ | ⟨B, O, c, cs, e, hb, h2, h3, h4, h5⟩
  · omega
  refine ⟨B, O, c, e, h2, h3, fun i hi => ?_⟩
  have hvl : vs.length = n := by have := h.1; omega
  exact hb.range O (n * 1) i (vs.getD i undef) (by rw [h5]; simp [List.getD, List.getElem?_eq_getElem (show i < vs.length by omega)])

theorem made_blk (w : World) (n : Nat) : Blk (w.alloc (.cells (madeCells #[Value.bool false] n) 4)) w.heap.size ((List.replicate n false).map Value.bool) := by
  have := blk_new w (madeCells #[Value.bool false] n) 4
  rwa [toList_madeCells_one, ← List.map_replicate] at this

theorem bool_cell {w : World} {g : Nat} {l : List Bool} (h : Blk w g (l.map Value.bool)) (j : Nat) (hj : j < l.length) : w.cell? ⟨g, j, none⟩ = some (.bool (l.getD j false)) := by
  rw [h.cell]; simp [List.getD, List.getElem?_eq_getElem hj]

theorem bool_set {w : World} {g : Nat} {l : List Bool} (h : Blk w g (l.map Value.bool)) (j : Nat) (b : Bool) : Blk (w.setCell ⟨g, j, none⟩ (.bool b)) g ((l.set j b).map Value.bool) := by
  rw [List.map_set]; exact h.set j _

theorem Btw.snoc {h : List (List Int)} {R : List Tr} {x : Tr} : ∀ {S : List Tr}, Btw h S → S = R ++ [x] → (x.su = false ∧ Btw h R) ∨ ∃ h', h = h' ++ [x.b] ∧ Btw h' R := by
  intro S hS
  induction hS generalizing R with
  | nil => intro e; cases R <;> cases e
  | @skip h S y hy hS ih =>
    intro e
    cases R with
    | nil =>
      simp only [List.nil_append, List.cons.injEq] at e
      obtain ⟨rfl, rfl⟩ := e
      cases hS
      exact .inl ⟨hy, .nil⟩
    | cons z R =>
      simp only [List.cons_append, List.cons.injEq] at e
      obtain ⟨rfl, rfl⟩ := e
      rcases ih rfl with ⟨h1, h2⟩ | ⟨h', h1, h2⟩
      · exact .inl ⟨h1, .skip _ hy h2⟩
      · exact .inr ⟨h', h1, .skip _ hy h2⟩
  | @take h S y hS ih =>
    intro e
    cases R with
    | nil =>
      simp only [List.nil_append, List.cons.injEq] at e
      obtain ⟨rfl, rfl⟩ := e
      cases hS
      exact .inr ⟨[], rfl, .nil⟩
    | cons z R =>
      simp only [List.cons_append, List.cons.injEq] at e
      obtain ⟨rfl, rfl⟩ := e
      rcases ih rfl with ⟨h1, h2⟩ | ⟨h', h1, h2⟩
      · exact .inl ⟨h1, .take _ h2⟩
      · exact .inr ⟨y.b :: h', by rw [h1]; rfl, .take _ h2⟩

/-- What the row can tells. -/
def Can (hs : List (List Int)) (R : List Tr) (j : Nat) (C : List Bool) : Prop := ∀ k, k ≤ hs.length → Btw (hs.take k) (R.take j) → C.getD k false = true

theorem can_step {hs : List (List Int)} {R : List Tr} {j : Nat} {C N : List Bool} {x : Tr} (hC : Can hs R j C) (hj : R[j]? = some x)
    (h1 : ∀ m, m ≤ hs.length → x.su = false → C.getD m false = true → N.getD m false = true)
    (h2 : ∀ m, m < hs.length → hs.getD m [] = x.b → C.getD m false = true → N.getD (m + 1) false = true) : Can hs R (j + 1) N := by
  intro k hk hb
  obtain ⟨hjl, hjx⟩ := List.getElem?_eq_some_iff.1 hj
  rw [List.take_succ_eq_append_getElem hjl, hjx] at hb
  rcases hb.snoc rfl with ⟨e1, e2⟩ | ⟨h', e1, e2⟩
  · exact h1 k hk e1 (hC k hk e2)
  · have hl := congrArg List.length e1
    rw [List.length_take, List.length_append, List.length_singleton] at hl
    obtain ⟨m, rfl⟩ : ∃ m, k = m + 1 := ⟨k - 1, by omega⟩
    have hm : m < hs.length := by omega
    rw [List.take_succ_eq_append_getElem hm] at e1
    have e3 := List.append_inj e1 (by rw [List.length_take]; omega)
    have e4 : hs[m] = x.b := by simpa using e3.2
    refine h2 m hm (by simp [List.getD, List.getElem?_eq_getElem hm, e4]) (hC m (by omega) ?_)
    rw [e3.1]; exact e2

theorem can_start (hs : List (List Int)) (R : List Tr) (C : List Bool) (h : C.getD 0 false = true) : Can hs R 0 C := by
  intro k hk hb
  rw [List.take_zero] at hb
  have hn : hs.take k = [] := by
    generalize hs.take k = l at *
    cases hb; rfl
  have := congrArg List.length hn
  rw [List.length_take, List.length_nil] at this
  have : k = 0 := by omega
  rw [this]; exact h

theorem set_getD (l : List Bool) (i j : Nat) (hi : i < l.length) : (l.set i true).getD j false = if i = j then true else l.getD j false := by
  simp only [List.getD, List.getElem?_set]
  by_cases e : i = j
  · subst e; simp [hi]
  · simp [e]

theorem set_up (l : List Bool) (i j : Nat) (h : l.getD j false = true) : (l.set i true).getD j false = true := by
  by_cases hi : i < l.length
  · rw [set_getD l i j hi]; split
    · rfl
    · exact h
  · rw [List.set_eq_of_length_le (by omega)]; exact h

/-- What the next row tells, when k of the row can have been gone through. -/
structure Nxb (hs : List (List Int)) (x : Tr) (C N : List Bool) (k : Nat) : Prop where
  a : ∀ m, m < k → m ≤ hs.length → x.su = false → C.getD m false = true → N.getD m false = true
  b : ∀ m, m < k → m < hs.length → hs.getD m [] = x.b → C.getD m false = true → N.getD (m + 1) false = true

theorem Nxb.zero (hs : List (List Int)) (x : Tr) (C N : List Bool) : Nxb hs x C N 0 := ⟨fun m h => by omega, fun m h => by omega⟩

theorem Nxb.no {hs : List (List Int)} {x : Tr} {C N : List Bool} {k : Nat} (h : Nxb hs x C N k) (hc : C.getD k false = false) : Nxb hs x C N (k + 1) := by
  refine ⟨fun m hm hl hs' hcm => ?_, fun m hm hl he hcm => ?_⟩
  · by_cases e : m = k
    · rw [e, hc] at hcm; cases hcm
    · exact h.a m (by omega) hl hs' hcm
  · by_cases e : m = k
    · rw [e, hc] at hcm; cases hcm
    · exact h.b m (by omega) hl he hcm

/-- One more of the row can, where it tells. -/
theorem Nxb.yes {hs : List (List Int)} {x : Tr} {C N N' : List Bool} {k : Nat} (h : Nxb hs x C N k) (hup : ∀ m, N.getD m false = true → N'.getD m false = true) (h1 : x.su = false → N'.getD k false = true)
    (h2 : k < hs.length → hs.getD k [] = x.b → N'.getD (k + 1) false = true) : Nxb hs x C N' (k + 1) := by
  refine ⟨fun m hm hl hs' hcm => ?_, fun m hm hl he hcm => ?_⟩
  · by_cases e : m = k
    · rw [e]; exact h1 hs'
    · exact hup _ (h.a m (by omega) hl hs' hcm)
  · by_cases e : m = k
    · rw [e] at hl he ⊢; exact h2 hl he
    · exact hup _ (h.b m (by omega) hl he hcm)

end Go.Proofs.YtafkkehcacdodaaGreat
