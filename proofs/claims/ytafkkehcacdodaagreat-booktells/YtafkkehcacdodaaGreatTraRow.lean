/- Spans in cells: a list that is seen, a row of the call's own. -/
import Derived.Test.YtafkkehcacdodaaGreatTraMath
import Derived.Test.YtafkkehcacdodaaGreatSecMem
import Derived.Test.YtafkkehcacdodaaGreatRowA
import Derived.Deep.OwnRows
import Derived.Deep.RegionHeld3
import Derived.Deep.LoopGhost
set_option maxRecDepth 100000
namespace Go.Proofs.YtafkkehcacdodaaGreat
open Go.RowKit

def spC (s : Sp) : List Value := [.int .u32 s.sub, .int .u32 s.addr, .int .i64 s.block, .int .i64 s.frm, .int .i64 s.til, .bool s.opn]

@[reducible] def spV (s : Sp) : Value := .agg #[.int .u32 s.sub, .int .u32 s.addr, .int .i64 s.block, .int .i64 s.frm, .int .i64 s.til, .bool s.opn]

theorem spC_length (s : Sp) : (spC s).length = 6 := rfl

/-! ### Lists of pieces of one length -/
section
variable {α β : Type} {f : α → List β} {k : Nat}

theorem flat_length (hk : ∀ x, (f x).length = k) (l : List α) : (l.flatMap f).length = l.length * k := by
  induction l with
  | nil => simp
  | cons x l ih => simp [hk, ih, Nat.succ_mul, Nat.add_comm]

theorem flat_get (hk : ∀ x, (f x).length = k) : ∀ {l : List α} {i : Nat} {x : α} {j : Nat}, l[i]? = some x → j < k → (l.flatMap f)[i * k + j]? = (f x)[j]? := by
  intro l
  induction l with
  | nil => intro i x j h; simp at h
  | cons y l ih =>
    intro i x j h hj
    cases i with
    | zero =>
      simp at h
      subst h
      simp only [Nat.zero_mul, Nat.zero_add, List.flatMap_cons]
      rw [List.getElem?_append_left (by rw [hk]; exact hj)]
    | succ i =>
      simp only [List.getElem?_cons_succ] at h
      simp only [List.flatMap_cons]
      rw [List.getElem?_append_right (by rw [hk, Nat.succ_mul]; omega), hk, show (i + 1) * k + j - k = i * k + j by rw [Nat.succ_mul]; omega]
      exact ih h hj

theorem flat_set (hk : ∀ x, (f x).length = k) : ∀ {l : List α} {i : Nat} {x : α}, i < l.length → (l.set i x).flatMap f = splice (l.flatMap f) (i * k) (f x) := by
  intro l
  induction l with
  | nil => intro i x h; simp at h
  | cons y l ih =>
    intro i x h
    cases i with
    | zero =>
      unfold splice
      simp only [List.set_cons_zero, List.flatMap_cons, Nat.zero_mul, List.take_zero, List.nil_append, Nat.zero_add, hk]
      rw [List.drop_append, List.drop_of_length_le (by rw [hk]; exact Nat.le_refl _), hk, Nat.sub_self]
      simp
    | succ i =>
      have := ih (x := x) (by simpa using h : i < l.length)
      simp only [List.set_cons_succ, List.flatMap_cons, this]
      unfold splice
      have e1 : ((i + 1) * k) = (f y).length + i * k := by rw [hk, Nat.succ_mul]; omega
      rw [e1, Nat.add_assoc, List.take_length_add_append, List.drop_length_add_append]
      simp

end

/-! ### A row of the call's own, whatever its elements -/
section
variable {w w' : World} {base size : Nat} {e : TypeId} {n cap g : Nat} {v : Value} {xs : List Value}

theorem ownsRow_slice (h : w.ownsRow base e size v n xs) (hn : 0 < n) : ∃ g cap, v = .slice (some ⟨g, 0, none⟩) n cap ∧ base ≤ g ∧ n ≤ cap ∧ cap ≤ maxLen := by
  rcases h.2 with ⟨_, h0⟩ | ⟨g, cap, cur, hv, h1, _, h2, h3, _⟩
  · omega
  · exact ⟨g, cap, hv, h1, h2, h3⟩

theorem ownsRow_shape (h : w.ownsRow base e size v n xs) : ∃ a cap, v = .slice a n cap ∧ n ≤ cap ∧ cap ≤ maxLen ∧ (n = 0 ∨ ∃ g, a = some ⟨g, 0, none⟩) := by
  rcases h.2 with ⟨rfl, rfl⟩ | ⟨g, cap, cur, hv, h1, _, h2, h3, _⟩
  · exact ⟨none, 0, rfl, Nat.le_refl _, by decide, .inl rfl⟩
  · exact ⟨_, cap, hv, h2, h3, .inr ⟨g, rfl⟩⟩

theorem ownsRow_cell (h : w.ownsRow base e size (.slice (some ⟨g, 0, none⟩) n cap) n xs) (j : Nat) (hj : j < n * size) : w.cell? ⟨g, j, none⟩ = xs[j]? := (row_of_owns h).cell j hj

theorem ownsRow_frozen (h : w.ownsRow base e size (.slice (some ⟨g, 0, none⟩) n cap) n xs) (j : Nat) : w.frozen? ⟨g, j, none⟩ = false := (row_of_owns h).frozen j

theorem ownsRow_set (h : w.ownsRow base e size (.slice (some ⟨g, 0, none⟩) n cap) n xs) (j : Nat) (u : Value) : (w.setCell ⟨g, j, none⟩ u).ownsRow base e size (.slice (some ⟨g, 0, none⟩) n cap) n (xs.set j u) := by
  refine ⟨by rw [List.length_set]; exact h.1, ?_⟩
  rcases h.2 with ⟨hn, _⟩ | ⟨g', cap', cur, hv, h1, h2, h3, h4, h5, h6⟩
  · cases hn
  · injection hv with ha _ hc
    injection ha with ha
    injection ha with hg
    subst hg
    subst hc
    refine .inr ⟨g, cap, cur.set! j u, rfl, h1, ?_, h3, h4, by simp [h5], ?_⟩
    · have := heap_setCell_same w g j cur e u h2
      rw [this]; simp
    · simp only [Array.set!_eq_setIfInBounds, Array.toList_setIfInBounds]
      rw [List.take_set, h6]

theorem ownsRow_later (h : w.ownsRow base e size v n xs) (hb : Below w.heap.size w w') : w'.ownsRow base e size v n xs := by
  refine ⟨h.1, ?_⟩
  rcases h.2 with h' | ⟨g, cap, cur, h1, h2, h3, h4⟩
  · exact .inl h'
  · refine .inr ⟨g, cap, cur, h1, h2, ?_, h4⟩
    rw [hb.block g (Array.getElem?_eq_some_iff.1 h3).1]; exact h3

theorem ownsRow_lt (h : w.ownsRow base e size v n xs) {k : Nat} (hk : v.ownBlock = some k) : base ≤ k ∧ k < w.heap.size := by
  rcases h.2 with ⟨rfl, _⟩ | ⟨g, cap, cur, hv, h1, h2, _⟩
  · cases hk
  · subst hv
    injection hk with hk
    subst hk
    exact ⟨h1, (Array.getElem?_eq_some_iff.1 h2).1⟩

theorem ownsRow_low {base' : Nat} (h : w.ownsRow base e size v n xs) (hb : base' ≤ base) : w.ownsRow base' e size v n xs := by
  refine ⟨h.1, ?_⟩
  rcases h.2 with h' | ⟨g, cap, cur, h1, h2, r⟩
  · exact .inl h'
  · exact .inr ⟨g, cap, cur, h1, Nat.le_trans hb h2, r⟩

theorem ownsRow_same (h : w.ownsRow base e size v n xs) (he : ∀ g, v.ownBlock = some g → w'.heap[g]? = w.heap[g]?) : w'.ownsRow base e size v n xs := by
  refine ⟨h.1, ?_⟩
  rcases h.2 with h' | ⟨g, cap, cur, h1, h2, h3, h4⟩
  · exact .inl h'
  · refine .inr ⟨g, cap, cur, h1, h2, ?_, h4⟩
    rw [he g (by rw [h1]; rfl)]; exact h3

end

/-! ### Spans -/
abbrev SpAt (w : World) (b o : Nat) (s : Sp) : Prop :=
  w.cell? ⟨b, o, none⟩ = some (.int .u32 s.sub) ∧ w.cell? ⟨b, o + 1, none⟩ = some (.int .u32 s.addr) ∧ w.cell? ⟨b, o + 2, none⟩ = some (.int .i64 s.block) ∧ w.cell? ⟨b, o + 3, none⟩ = some (.int .i64 s.frm) ∧ w.cell? ⟨b, o + 4, none⟩ = some (.int .i64 s.til) ∧ w.cell? ⟨b, o + 5, none⟩ = some (.bool s.opn)

/-- A list of spans that a slice shows. -/
def Sps (w : World) (v : Value) (B O : Nat) (l : List Sp) : Prop :=
  ∃ (a : Option Addr) (cap : Nat), v = .slice a l.length cap ∧ l.length ≤ cap ∧ cap ≤ maxLen ∧ (a = some ⟨B, O, none⟩ ∨ l = []) ∧ ∀ i s, l[i]? = some s → SpAt w B (O + i * 6) s

/-- A row of spans of the call's own. -/
abbrev SpRow (w : World) (base : Nat) (v : Value) (l : List Sp) : Prop := w.ownsRow base 59 6 v l.length (l.flatMap spC)

theorem spAt_later {w w' : World} {b o : Nat} {s : Sp} (h : SpAt w b o s) (hb : Below w.heap.size w w') : SpAt w' b o s :=
  ⟨cell_later hb h.1, cell_later hb h.2.1, cell_later hb h.2.2.1, cell_later hb h.2.2.2.1, cell_later hb h.2.2.2.2.1, cell_later hb h.2.2.2.2.2⟩

theorem Sps.later {w w' : World} {v : Value} {B O : Nat} {l : List Sp} (h : Sps w v B O l) (hb : Below w.heap.size w w') : Sps w' v B O l := by
  obtain ⟨a, cap, h1, h2, h3, h4, h5⟩ := h
  exact ⟨a, cap, h1, h2, h3, h4, fun i s hs => spAt_later (h5 i s hs) hb⟩

theorem Sps.at {w : World} {v : Value} {B O : Nat} {l : List Sp} (h : Sps w v B O l) {i : Nat} {s : Sp} (hs : l[i]? = some s) : SpAt w B (O + i * 6) s := by
  obtain ⟨a, cap, h1, h2, h3, h4, h5⟩ := h
  exact h5 i s hs

theorem spRow_at {w : World} {base g cap n : Nat} {l : List Sp} (h : w.ownsRow base 59 6 (.slice (some ⟨g, 0, none⟩) n cap) n (l.flatMap spC)) (hn : l.length = n) {i : Nat} {s : Sp} (hs : l[i]? = some s) : SpAt w g (i * 6) s := by
  have hi := (List.getElem?_eq_some_iff.1 hs).1
  have hc : ∀ j, j < 6 → w.cell? ⟨g, i * 6 + j, none⟩ = (spC s)[j]? := fun j hj => by
    rw [ownsRow_cell h (i * 6 + j) (by subst hn; omega), flat_get spC_length hs hj]
  exact ⟨hc 0 (by omega), hc 1 (by omega), hc 2 (by omega), hc 3 (by omega), hc 4 (by omega), hc 5 (by omega)⟩

theorem spRow_sps {w : World} {base : Nat} {v : Value} {l : List Sp} (h : SpRow w base v l) : ∃ B, Sps w v B 0 l ∧ (∀ g, v.ownBlock = some g → g = B) := by
  rcases h.2 with ⟨hv, h0⟩ | ⟨g, cap, cur, hv, h1, h2, h3, h4, h5, h6⟩
  · have : l = [] := List.eq_nil_of_length_eq_zero h0
    subst this
    exact ⟨0, ⟨none, 0, hv, by simp, by decide, .inr rfl, fun i s hs => by simp at hs⟩, fun g hg => by rw [hv] at hg; cases hg⟩
  · refine ⟨g, ⟨_, cap, hv, h3, h4, .inl rfl, fun i s hs => ?_⟩, fun g' hg => by rw [hv] at hg; injection hg with hg; exact hg.symm⟩
    rw [Nat.zero_add]
    rw [hv] at h
    exact spRow_at h rfl hs

/-- A whole span is written at its place. -/
theorem spRow_set {w : World} {base g cap n : Nat} {l : List Sp} (h : w.ownsRow base 59 6 (.slice (some ⟨g, 0, none⟩) n cap) n (l.flatMap spC)) {i : Nat} (hi : i < l.length) (s : Sp) :
    ((((((w.setCell ⟨g, i * 6, none⟩ (.int .u32 s.sub)).setCell ⟨g, i * 6 + 1, none⟩ (.int .u32 s.addr)).setCell ⟨g, i * 6 + 2, none⟩ (.int .i64 s.block)).setCell ⟨g, i * 6 + 3, none⟩ (.int .i64 s.frm)).setCell ⟨g, i * 6 + 4, none⟩ (.int .i64 s.til)).setCell ⟨g, i * 6 + 5, none⟩ (.bool s.opn)).ownsRow
      base 59 6 (.slice (some ⟨g, 0, none⟩) n cap) n ((l.set i s).flatMap spC) := by
  have hl := flat_length spC_length l
  rw [flat_set spC_length hi]
  have hS : splice (l.flatMap spC) (i * 6) (spC s) = ((((((l.flatMap spC).set (i * 6) (.int .u32 s.sub)).set (i * 6 + 1) (.int .u32 s.addr)).set (i * 6 + 2) (.int .i64 s.block)).set (i * 6 + 3) (.int .i64 s.frm)).set (i * 6 + 4) (.int .i64 s.til)).set (i * 6 + 5) (.bool s.opn) := by
    unfold spC at hl ⊢
    rw [← splice_cons _ _ _ _ (by omega), ← splice_cons _ _ _ _ (by simp only [List.length_set]; omega), ← splice_cons _ _ _ _ (by simp only [List.length_set]; omega), ← splice_cons _ _ _ _ (by simp only [List.length_set]; omega), ← splice_cons _ _ _ _ (by simp only [List.length_set]; omega), ← splice_cons _ _ _ _ (by simp only [List.length_set]; omega), splice_nil]
  rw [hS]
  exact ownsRow_set (ownsRow_set (ownsRow_set (ownsRow_set (ownsRow_set (ownsRow_set h _ _) _ _) _ _) _ _) _ _) _ _

/-- A whole span written. -/
def put6 (w : World) (g o : Nat) (s : Sp) : World :=
  (((((w.setCell ⟨g, o, none⟩ (.int .u32 s.sub)).setCell ⟨g, o + 1, none⟩ (.int .u32 s.addr)).setCell ⟨g, o + 2, none⟩ (.int .i64 s.block)).setCell ⟨g, o + 3, none⟩ (.int .i64 s.frm)).setCell ⟨g, o + 4, none⟩ (.int .i64 s.til)).setCell ⟨g, o + 5, none⟩ (.bool s.opn)

theorem put6_row {w : World} {base g cap n : Nat} {l : List Sp} (h : w.ownsRow base 59 6 (.slice (some ⟨g, 0, none⟩) n cap) n (l.flatMap spC)) {i : Nat} (hi : i < l.length) (s : Sp) :
    (put6 w g (i * 6) s).ownsRow base 59 6 (.slice (some ⟨g, 0, none⟩) n cap) n ((l.set i s).flatMap spC) := spRow_set h hi s

theorem put6_other (w : World) (g o k : Nat) (s : Sp) (h : k ≠ g) : (put6 w g o s).heap[k]? = w.heap[k]? := by
  unfold put6
  rw [heap_setCell_other _ ⟨g, _, none⟩ k _ h, heap_setCell_other _ ⟨g, _, none⟩ k _ h, heap_setCell_other _ ⟨g, _, none⟩ k _ h, heap_setCell_other _ ⟨g, _, none⟩ k _ h, heap_setCell_other _ ⟨g, _, none⟩ k _ h, heap_setCell_other _ ⟨g, _, none⟩ k _ h]

theorem put6_size (w : World) (g o : Nat) (s : Sp) : (put6 w g o s).heap.size = w.heap.size := by unfold put6; simp [World.setCell]

theorem put6_below (w : World) (g o base : Nat) (s : Sp) (h : base ≤ g) : Below base w (put6 w g o s) :=
  ((((((Below.refl base w).setCell (p := ⟨g, o, none⟩) h _).setCell (p := ⟨g, o + 1, none⟩) h _).setCell (p := ⟨g, o + 2, none⟩) h _).setCell (p := ⟨g, o + 3, none⟩) h _).setCell (p := ⟨g, o + 4, none⟩) h _).setCell (p := ⟨g, o + 5, none⟩) h _

/-- A span is shut in place: its end and its mark are written. -/
theorem spRow_set2 {w : World} {base g cap n : Nat} {l : List Sp} (h : w.ownsRow base 59 6 (.slice (some ⟨g, 0, none⟩) n cap) n (l.flatMap spC)) {i : Nat} {s : Sp} (hs : l[i]? = some s) (t : Int) :
    ((w.setCell ⟨g, i * 6 + 4, none⟩ (.int .i64 (max s.frm t))).setCell ⟨g, i * 6 + 5, none⟩ (.bool false)).ownsRow base 59 6 (.slice (some ⟨g, 0, none⟩) n cap) n ((l.set i (shutS s t)).flatMap spC) := by
  have hi := (List.getElem?_eq_some_iff.1 hs).1
  have hl := flat_length spC_length l
  rw [flat_set spC_length hi]
  have hS : splice (l.flatMap spC) (i * 6) (spC (shutS s t)) = ((l.flatMap spC).set (i * 6 + 4) (.int .i64 (max s.frm t))).set (i * 6 + 5) (.bool false) := by
    apply List.ext_getElem?
    intro j
    have hsl : (spC (shutS s t)).length = 6 := rfl
    rw [splice_get _ _ _ _ (by rw [hsl]; omega), hsl, List.getElem?_set, List.getElem?_set]
    by_cases hj : i * 6 ≤ j ∧ j < i * 6 + 6
    · rw [if_pos hj]
      obtain ⟨m, rfl⟩ : ∃ m, j = i * 6 + m := ⟨j - i * 6, by omega⟩
      have hm : m < 6 := by omega
      have hg := flat_get spC_length hs hm
      rw [Nat.add_sub_cancel_left, List.length_set]
      have : m = 0 ∨ m = 1 ∨ m = 2 ∨ m = 3 ∨ m = 4 ∨ m = 5 := by omega
      rcases this with rfl | rfl | rfl | rfl | rfl | rfl
      · rw [if_neg (by omega), if_neg (by omega), hg]; rfl
      · rw [if_neg (by omega), if_neg (by omega), hg]; rfl
      · rw [if_neg (by omega), if_neg (by omega), hg]; rfl
      · rw [if_neg (by omega), if_neg (by omega), hg]; rfl
      · rw [if_neg (by omega), if_pos rfl, if_pos (by omega)]; rfl
      · rw [if_pos rfl, if_pos (by omega)]; rfl
    · rw [if_neg hj, if_neg (by omega), if_neg (by omega)]
  rw [hS]
  exact ownsRow_set (ownsRow_set h _ _) _ _

theorem cell_same_block {w w' : World} {a : Addr} (h : w'.heap[a.block]? = w.heap[a.block]?) : w'.cell? a = w.cell? a := by
  unfold World.cell?
  rw [h]

theorem infoSp : (Tryz.prog.info? 59).map (fun i => (i.zero, i.size, i.bytes)) = some (some (.agg #[.int .u32 0, .int .u32 0, .int .i64 0, .int .i64 0, .int .i64 0, .bool false]), 6, 40) := by kernel_rfl

/-- One span behind a row of the call's own. -/
theorem append_sp (W : World) (base : Nat) (v : Value) (l : List Sp) (s : Sp) (hv : SpRow W base v l) (hbase : base ≤ W.heap.size) (hlen : l.length ≤ 1000000) :
    ∃ v' w', (Builtin.append_ #[57, 57] 57 #[v, .slice (some ⟨W.heap.size, 0, none⟩) 1 1]).run Tryz.prog (W.alloc (.cells #[.int .u32 s.sub, .int .u32 s.addr, .int .i64 s.block, .int .i64 s.frm, .int .i64 s.til, .bool s.opn] 59)) = .ok v' w' ∧
      SpRow w' base v' (l ++ [s]) ∧ (W.alloc (.cells #[.int .u32 s.sub, .int .u32 s.addr, .int .i64 s.block, .int .i64 s.frm, .int .i64 s.til, .bool s.opn] 59)).grownBy w' v.ownBlock ∧ Below base W w' := by
  obtain ⟨i0, hi, hz0, hz1, hz2⟩ := info_parts infoSp
  have hown2 := World.ownsRow.alloc hv (.cells #[.int .u32 s.sub, .int .u32 s.addr, .int .i64 s.block, .int .i64 s.frm, .int .i64 s.til, .bool s.opn] 59)
  obtain ⟨v', w', hr, ho, hg, -⟩ := run_append_own (P := Tryz.prog) (W.alloc (.cells #[.int .u32 s.sub, .int .u32 s.addr, .int .i64 s.block, .int .i64 s.frm, .int .i64 s.til, .bool s.opn] 59)) base 57 57 59 i0 (.agg #[.int .u32 0, .int .u32 0, .int .i64 0, .int .i64 0, .int .i64 0, .bool false]) 6 40 Tryz.underlying57 hi hz0 hz1 hz2 rfl (by decide) v l.length (l.flatMap spC) hown2
    ⟨W.heap.size, 0, none⟩ 1 1 (spC s) rfl (by
      intro j u hj
      rw [add_at, Nat.zero_add, (blk_new W _ _).cell]
      exact hj) (by
      intro u hu
      unfold spC at hu
      simp at hu
      rcases hu with rfl | rfl | rfl | rfl | rfl | rfl <;> rfl) (by unfold maxLen; omega) (by omega) (by simp; omega)
  refine ⟨v', w', hr, ?_, hg, ((Below.refl _ _).alloc hbase _).grown hg (by simp; omega) (fun k hk => (hv.lt k hk).1)⟩
  show w'.ownsRow base _ 6 v' (l ++ [s]).length ((l ++ [s]).flatMap spC)
  rw [List.flatMap_append, List.length_append]
  simpa using ho

/-- What lies in other blocks than the one that turned. -/
theorem grown_cell {w w' : World} {row : Option Nat} {a : Addr} {v : Value} (h : w.grownBy w' row) (hne : some a.block ≠ row) (hc : w.cell? a = some v) : w'.cell? a = some v := by
  rw [cell_same_block (h.block _ (World.block_lt_of_cell? w a hc) hne)]; exact hc

end Go.Proofs.YtafkkehcacdodaaGreat
