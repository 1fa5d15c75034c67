/- Spans in cells: a list that is seen, a row of the call's own. -/
import Derived.Test.YtafkkehcacdodaaGreatM2
import Derived.Test.YtafkkehcacdodaaGreatM5
import Derived.Test.YtafkkehcacdodaaGreatM7
import Derived.Deep.OwnRows
import Derived.Deep.RegionHeld3
import Derived.Deep.LoopGhost
set_option maxRecDepth 100000
namespace Go.Proofs.YtafkkehcacdodaaGreat
open Go.RowKit

def spC (s : Sp) : List Value := [.int .u32 s.sub, .int .u32 s.addr, .int .i64 s.block, .int .i64 s.frm, .int .i64 s.til, .bool s.opn]

@[reducible] def spV (s : Sp) : Value := .agg #[.int .u32 s.sub, .int .u32 s.addr, .int .i64 s.block, .int .i64 s.frm, .int .i64 s.til, .bool s.opn]

theorem spC_length (s : Sp) : (spC s).length = 6 := rfl

/-! ### Lists of pieces of one length -/
section
variable {α β : Type} {f : α → List β} {k : Nat}

theorem flat_length (hk : ∀ x, (f x).length = k) (l : List α) : (l.flatMap f).length = l.length * k := by
  induction l with
  | nil => simp
  | cons x l ih => simp [hk, ih, Nat.succ_mul, Nat.add_comm]

theorem flat_get (hk : ∀ x, (f x).length = k) : ∀ {l : List α} {i : Nat} {x : α} {j : Nat}, l[i]? = some x → j < k → (l.flatMap f)[i * k + j]? = (f x)[j]? := by
  intro l
  induction l with
  | nil => intro i x j h; simp at h
  | cons y l ih =>
    intro i x j h hj
    cases i with
    | zero =>
      simp at h
      subst h
      simp only [Nat.zero_mul, Nat.zero_add, List.flatMap_cons]
      rw [List.getElem?_append_left (by rw [hk]; exact hj)]
    | succ i =>
      simp only [List.getElem?_cons_succ] at h
      simp only [List.flatMap_cons]
      rw [List.getElem?_append_right (by rw [hk, Nat.succ_mul]; omega), hk, show (i + 1) * k + j - k = i * k + j by rw [Nat.succ_mul]; omega]
      exact ih h hj

theorem flat_set (hk : ∀ x, (f x).length = k) : ∀ {l : List α} {i : Nat} {x : α}, i < l.length → (l.set i x).flatMap f = splice (l.flatMap f) (i * k) (f x) := by
  intro l
  induction l with
  | nil => intro i x h; simp at h
  | cons y l ih =>
    intro i x h
    cases i with
    | zero =>
      unfold splice
      simp only [List.set_cons_zero, List.flatMap_cons, Nat.zero_mul, List.take_zero, List.nil_append, Nat.zero_add, hk]
      rw [List.drop_append, List.drop_of_length_le (by rw [hk]; exact Nat.le_refl _), hk, Nat.sub_self]
      simp
    | succ i =>
      have := ih (x := x) (by simpa using h : i < l.length)
      simp only [List.set_cons_succ, List.flatMap_cons, this]
      unfold splice
      have e1 : ((i + 1) * k) = (f y).length + i * k := by rw [hk, Nat.succ_mul]; omega
      rw [e1, Nat.add_assoc, List.take_length_add_append, List.drop_length_add_append]
      simp

end

/-! ### A row of the call's own, whatever its elements -/
section
variable {w w' : World} {base size : Nat} {e : TypeId} {n cap g : Nat} {v : Value} {xs : List Value}

theorem ownsRow_slice (h : w.ownsRow base e size v n xs) (hn : 0 < n) : ∃ g cap, v = .slice (some ⟨g, 0, none⟩) n cap ∧ base ≤ g ∧ n ≤ cap ∧ cap ≤ maxLen := by
  rcases h.2 with ⟨_, h0⟩ | ⟨g, cap, cur, hv, h1, _, h2, h3, _⟩
  · omega
  · exact ⟨g, cap, hv, h1, h2, h3⟩

theorem ownsRow_shape (h : w.ownsRow base e size v n xs) : ∃ a cap, v = .slice a n cap ∧ n ≤ cap ∧ cap ≤ maxLen ∧ (n = 0 ∨ ∃ g, a = some ⟨g, 0, none⟩) := by
  rcases h.2 with ⟨rfl, rfl⟩ | ⟨g, cap, cur, hv, h1, _, h2, h3, _⟩
  · exact ⟨none, 0, rfl, Nat.le_refl _, by decide, .inl rfl⟩
  · exact ⟨_, cap, hv, h2, h3, .inr ⟨g, rfl⟩⟩

theorem ownsRow_cell (h : w.ownsRow base e size (.slice (some ⟨g, 0, none⟩) n cap) n xs) (j : Nat) (hj : j < n * size) : w.cell? ⟨g, j, none⟩ = xs[j]? := (row_of_owns h).cell j hj

theorem ownsRow_frozen (h : w.ownsRow base e size (.slice (some ⟨g, 0, none⟩) n cap) n xs) (j : Nat) : w.frozen? ⟨g, j, none⟩ = false := (row_of_owns h).frozen j

theorem ownsRow_set (h : w.ownsRow base e size (.slice (some ⟨g, 0, none⟩) n cap) n xs) (j : Nat) (u : Value) : (w.setCell ⟨g, j, none⟩ u).ownsRow base e size (.slice (some ⟨g, 0, none⟩) n cap) n (xs.set j u) := by
  refine ⟨by rw [List.length_set]; exact h.1, ?_⟩
  rcases h.2 with ⟨hn, _⟩ | ⟨g', cap', cur, hv, h1, h2, h3, h4, h5, h6⟩
  · cases hn
  · injection hv with ha _ hc
    injection ha with ha
    injection ha with hg
    subst hg
    subst hc
    refine .inr ⟨g, cap, cur.set! j u, rfl, h1, ?_, h3, h4, by simp [h5], ?_⟩
    · have := heap_setCell_same w g j cur e u h2
      rw [this]; simp
    · simp only [Array.set!_eq_setIfInBounds, Array.toList_setIfInBounds]
      rw [List.take_set, h6]

theorem ownsRow_later (h : w.ownsRow base e size v n xs) (hb : Below w.heap.size w w') : w'.ownsRow base e size v n xs := by
  refine ⟨h.1, ?_⟩
  rcases h.2 with h' | ⟨g, cap, cur, h1, h2, h3, h4⟩
  · exact .inl h'
  · refine .inr ⟨g, cap, cur, h1, h2, ?_, h4⟩
    rw [hb.block g (Array.getElem?_eq_some_iff.1 h3).1]; exact h3

theorem ownsRow_lt (h : w.ownsRow base e size v n xs) {k : Nat} (hk : v.ownBlock = some k) : base ≤ k ∧ k < w.heap.size := by
  rcases h.2 with ⟨rfl, _⟩ | ⟨g, cap, cur, hv, h1, h2, _⟩
  · cases hk
  · subst hv
    injection hk with hk
    subst hk
    exact ⟨h1, (Array.getElem?_eq_some_iff.1 h2).1⟩

theorem ownsRow_low {base' : Nat} (h : w.ownsRow base e size v n xs) (hb : base' ≤ base) : w.ownsRow base' e size v n xs := by
  refine ⟨h.1, ?_⟩
  rcases h.2 with h' | ⟨g, cap, cur, h1, h2, r⟩
  · exact .inl h'
  · exact .inr ⟨g, cap, cur, h1, Nat.le_trans hb h2, r⟩

theorem ownsRow_same (h : w.ownsRow base e size v n xs) (he : ∀ g, v.ownBlock = some g → w'.heap[g]? = w.heap[g]?) : w'.ownsRow base e size v n xs := by
  refine ⟨h.1, ?_⟩
  rcases h.2 with h' | ⟨g, cap, cur, h1, h2, h3, h4⟩
  · exact .inl h'
  · refine .inr ⟨g, cap, cur, h1, h2, ?_, h4⟩
    rw [he g (by rw [h1]; rfl)]; exact h3

end

/-! ### Spans -/
abbrev SpAt (w : World) (b o : Nat) (s : Sp) : Prop :=
  w.cell? ⟨b, o, none⟩ = some (.int .u32 s.sub) ∧ w.cell? ⟨b, o + 1, none⟩ = some (.int .u32 s.addr) ∧ w.cell? ⟨b, o + 2, none⟩ = some (.int .i64 s.block) ∧ w.cell? ⟨b, o + 3, none⟩ = some (.int .i64 s.frm) ∧ w.cell? ⟨b, o + 4, none⟩ = some (.int .i64 s.til) ∧ w.cell? ⟨b, o + 5, none⟩ = some (.bool s.opn)

/-- A list of spans that a slice shows. -/
def Sps (w : World) (v : Value) (B O : Nat) (l : List Sp) : Prop :=
  ∃ (a : Option Addr) (cap : Nat), v = .slice a l.length cap ∧ l.length ≤ cap ∧ cap ≤ maxLen ∧ (a = some ⟨B, O, none⟩ ∨ l = []) ∧ ∀ i s, l[i]? = some s → SpAt w B (O + i * 6) s

/-- A row of spans of the call's own. -/
abbrev SpRow (w : World) (base : Nat) (v : Value) (l : List Sp) : Prop := w.ownsRow base 59 6 v l.length (l.flatMap spC)

theorem spAt_later {w w' : World} {b o : Nat} {s : Sp} (h : SpAt w b o s) (hb : Below w.heap.size w w') : SpAt w' b o s :=
  ⟨cell_later hb h.1, cell_later hb h.2.1, cell_later hb h.2.2.1, cell_later hb h.2.2.2.1, cell_later hb h.2.2.2.2.1, cell_later hb h.2.2.2.2.2⟩

theorem Sps.later {w w' : World} {v : Value} {B O : Nat} {l : List Sp} (h : Sps w v B O l) (hb : Below w.heap.size w w') : Sps w' v B O l := by
  obtain ⟨a, cap, h1, h2, h3, h4, h5⟩ := h
  exact ⟨a, cap, h1, h2, h3, h4, fun i s hs => spAt_later (h5 i s hs) hb⟩

theorem Sps.at {w : World} {v : Value} {B O : Nat} {l : List Sp} (h : Sps w v B O l) {i : Nat} {s : Sp} (hs : l[i]? = some s) : SpAt w B (O + i * 6) s := by
  obtain ⟨a, cap, h1, h2, h3, h4, h5⟩ := h
  exact h5 i s hs

theorem spRow_at {w : World} {base g cap n : Nat} {l : List Sp} (h : w.ownsRow base 59 6 (.slice (some ⟨g, 0, none⟩) n cap) n (l.flatMap spC)) (hn : l.length = n) {i : Nat} {s : Sp} (hs : l[i]? = some s) : SpAt w g (i * 6) s := by
  have hi := (List.getElem?_eq_some_iff.1 hs).1
  have hc : ∀ j, j < 6 → w.cell? ⟨g, i * 6 + j, none⟩ = (spC s)[j]? := fun j hj => by
    rw [ownsRow_cell h (i * 6 + j) (by subst hn; omega), flat_get spC_length hs hj]
  exact ⟨hc 0 (by omega), hc 1 (by omega), hc 2 (by omega), hc 3 (by omega), hc 4 (by omega), hc 5 (by omega)⟩

theorem spRow_sps {w : World} {base : Nat} {v : Value} {l : List Sp} (h : SpRow w base v l) : ∃ B, Sps w v B 0 l ∧ (∀ g, v.ownBlock = some g → g = B) := by
  rcases h.2 with ⟨hv, h0⟩ | ⟨g, cap, cur, hv, h1, h2, h3, h4, h5, h6⟩
  · have : l = [] := List.eq_nil_of_length_eq_zero h0
    subst this
    exact ⟨0, ⟨none, 0, hv, by simp, by decide, .inr rfl, fun i s hs => by simp at hs⟩, fun g hg => by rw [hv] at hg; cases hg⟩
  · refine ⟨g, ⟨_, cap, hv, h3, h4, .inl rfl, fun i s hs => ?_⟩, fun g' hg => by rw [hv] at hg; injection hg with hg; exact hg.symm⟩
    rw [Nat.zero_add]
    rw [hv] at h
    exact spRow_at h rfl hs

/-- A whole span is written at its place. -/
theorem spRow_set {w : World} {base g cap n : Nat} {l : List Sp} (h : w.ownsRow base 59 6 (.slice (some ⟨g, 0, none⟩) n cap) n (l.flatMap spC)) {i : Nat} (hi : i < l.length) (s : Sp) :
    ((((((w.setCell ⟨g, i * 6, none⟩ (.int .u32 s.sub)).setCell ⟨g, i * 6 + 1, none⟩ (.int .u32 s.addr)).setCell ⟨g, i * 6 + 2, none⟩ (.int .i64 s.block)).setCell ⟨g, i * 6 + 3, none⟩ (.int .i64 s.frm)).setCell ⟨g, i * 6 + 4, none⟩ (.int .i64 s.til)).setCell ⟨g, i * 6 + 5, none⟩ (.bool s.opn)).ownsRow
      base 59 6 (.slice (some ⟨g, 0, none⟩) n cap) n ((l.set i s).flatMap spC) := by
  have hl := flat_length spC_length l
  rw [flat_set spC_length hi]
  have hS : splice (l.flatMap spC) (i * 6) (spC s) = ((((((l.flatMap spC).set (i * 6) (.int .u32 s.sub)).set (i * 6 + 1) (.int .u32 s.addr)).set (i * 6 + 2) (.int .i64 s.block)).set (i * 6 + 3) (.int .i64 s.frm)).set (i * 6 + 4) (.int .i64 s.til)).set (i * 6 + 5) (.bool s.opn) := by
    unfold spC at hl ⊢
    rw [← splice_cons _ _ _ _ (by omega), ← splice_cons _ _ _ _ (by simp only [List.length_set]; omega), ← splice_cons _ _ _ _ (by simp only [List.length_set]; omega), ← splice_cons _ _ _ _ (by simp only [List.length_set]; omega), ← splice_cons _ _ _ _ (by simp only [List.length_set]; omega), ← splice_cons _ _ _ _ (by simp only [List.length_set]; omega), splice_nil]
  rw [hS]
  exact ownsRow_set (ownsRow_set (ownsRow_set (ownsRow_set (ownsRow_set (ownsRow_set h _ _) _ _) _ _) _ _) _ _) _ _

/-- A whole span written. -/
def put6 (w : World) (g o : Nat) (s : Sp) : World :=
  (((((w.setCell ⟨g, o, none⟩ (.int .u32 s.sub)).setCell ⟨g, o + 1, none⟩ (.int .u32 s.addr)).setCell ⟨g, o + 2, none⟩ (.int .i64 s.block)).setCell ⟨g, o + 3, none⟩ (.int .i64 s.frm)).setCell ⟨g, o + 4, none⟩ (.int .i64 s.til)).setCell ⟨g, o + 5, none⟩ (.bool s.opn)

theorem put6_row {w : World} {base g cap n : Nat} {l : List Sp} (h : w.ownsRow base 59 6 (.slice (some ⟨g, 0, none⟩) n cap) n (l.flatMap spC)) {i : Nat} (hi : i < l.length) (s : Sp) :
    (put6 w g (i * 6) s).ownsRow base 59 6 (.slice (some ⟨g, 0, none⟩) n cap) n ((l.set i s).flatMap spC) := spRow_set h hi s

theorem put6_other (w : World) (g o k : Nat) (s : Sp) (h : k ≠ g) : (put6 w g o s).heap[k]? = w.heap[k]? := by
  unfold put6
  rw [heap_setCell_other _ ⟨g, _, none⟩ k _ h, heap_setCell_other _ ⟨g, _, none⟩ k _ h, heap_setCell_other _ ⟨g, _, none⟩ k _ h, heap_setCell_other _ ⟨g, _, none⟩ k _ h, heap_setCell_other _ ⟨g, _, none⟩ k _ h, heap_setCell_other _ ⟨g, _, none⟩ k _ h]

theorem put6_size (w : World) (g o : Nat) (s : Sp) : (put6 w g o s).heap.size = w.heap.size := by unfold put6; simp [World.setCell]

theorem put6_below (w : World) (g o base : Nat) (s : Sp) (h : base ≤ g) : Below base w (put6 w g o s) :=
  ((((((Below.refl base w).setCell (p := ⟨g, o, none⟩) h _).setCell (p := ⟨g, o + 1, none⟩) h _).setCell (p := ⟨g, o + 2, none⟩) h _).setCell (p := ⟨g, o + 3, none⟩) h _).setCell (p := ⟨g, o + 4, none⟩) h _).setCell (p := ⟨g, o + 5, none⟩) h _

/-- A span is shut in place: its end and its mark are written. -/
theorem spRow_set2 {w : World} {base g cap n : Nat} {l : List Sp} (h : w.ownsRow base 59 6 (.slice (some ⟨g, 0, none⟩) n cap) n (l.flatMap spC)) {i : Nat} {s : Sp} (hs : l[i]? = some s) (t : Int) :
    ((w.setCell ⟨g, i * 6 + 4, none⟩ (.int .i64 (max s.frm t))).setCell ⟨g, i * 6 + 5, none⟩ (.bool false)).ownsRow base 59 6 (.slice (some ⟨g, 0, none⟩) n cap) n ((l.set i (shutS s t)).flatMap spC) := by
  have hi := (List.getElem?_eq_some_iff.1 hs).1
  have hl := flat_length spC_length l
  rw [flat_set spC_length hi]
  have hS : splice (l.flatMap spC) (i * 6) (spC (shutS s t)) = ((l.flatMap spC).set (i * 6 + 4) (.int .i64 (max s.frm t))).set (i * 6 + 5) (.bool false) := by
    apply List.ext_getElem?
    intro j
    have hsl : (spC (shutS s t)).length = 6 := rfl
    rw [splice_get _ _ _ _ (by rw [hsl]; omega), hsl, List.getElem?_set, List.getElem?_set]
    by_cases hj : i * 6 ≤ j ∧ j < i * 6 + 6
    · rw [if_pos hj]
      obtain ⟨m, rfl⟩ : ∃ m, j = i * 6 + m := ⟨j - i * 6, by omega⟩
      have hm : m < 6 := by omega
      have hg := flat_get spC_length hs hm
      rw [Nat.add_sub_cancel_left, List.length_set]
      have : m = 0 ∨ m = 1 ∨ m = 2 ∨ m = 3 ∨ m = 4 ∨ m = 5 := by omega
      rcases this with rfl | rfl | rfl | rfl | rfl | rfl
      · rw [if_neg (by omega), if_neg (by omega), hg]; rfl
      · rw [if_neg (by omega), if_neg (by omega), hg]; rfl
      · rw [if_neg (by omega), if_neg (by omega), hg]; rfl
      · rw [if_neg (by omega), if_neg (by omega), hg]; rfl
      · rw [if_neg (by omega), if_pos rfl, if_pos (by omega)]; rfl
      · rw [if_pos rfl, if_pos (by omega)]; rfl
    · rw [if_neg hj, if_neg (by omega), if_neg (by omega)]
  rw [hS]
  exact ownsRow_set (ownsRow_set h _ _) _ _

theorem cell_same_block {w w' : World} {a : Addr} (h : w'.heap[a.block]? = w.heap[a.block]?) : w'.cell? a = w.cell? a := by
  unfold World.cell?
  rw [h]

theorem infoSp : (Tryz.prog.info? 59).map (fun i => (i.zero, i.size, i.bytes)) = some (some (.agg #[.int .u32 0, .int .u32 0, .int .i64 0, .int .i64 0, .int .i64 0, .bool false]), 6, 40) := by kernel_rfl

/-- One span behind a row of the call's own. -/
theorem append_sp (W : World) (base : Nat) (v : Value) (l : List Sp) (s : Sp) (hv : SpRow W base v l) (hbase : base ≤ W.heap.size) (hlen : l.length ≤ 1000000) :
    ∃ v' w', (Builtin.append_ #[57, 57] 57 #[v, .slice (some ⟨W.heap.size, 0, none⟩) 1 1]).run Tryz.prog (W.alloc (.cells #[.int .u32 s.sub, .int .u32 s.addr, .int .i64 s.block, .int .i64 s.frm, .int .i64 s.til, .bool s.opn] 59)) = .ok v' w' ∧
      SpRow w' base v' (l ++ [s]) ∧ (W.alloc (.cells #[.int .u32 s.sub, .int .u32 s.addr, .int .i64 s.block, .int .i64 s.frm, .int .i64 s.til, .bool s.opn] 59)).grownBy w' v.ownBlock ∧ Below base W w' := by
  obtain ⟨i0, hi, hz0, hz1, hz2⟩ := info_parts infoSp
  have hown2 := World.ownsRow.alloc hv (.cells #[.int .u32 s.sub, .int .u32 s.addr, .int .i64 s.block, .int .i64 s.frm, .int .i64 s.til, .bool s.opn] 59)
  obtain ⟨v', w', hr, ho, hg, -⟩ := run_append_own (P := Tryz.prog) (W.alloc (.cells #[.int .u32 s.sub, .int .u32 s.addr, .int .i64 s.block, .int .i64 s.frm, .int .i64 s.til, .bool s.opn] 59)) base 57 57 59 i0 (.agg #[.int .u32 0, .int .u32 0, .int .i64 0, .int .i64 0, .int .i64 0, .bool false]) 6 40 Tryz.underlying57 hi hz0 hz1 hz2 rfl (by decide) v l.length (l.flatMap spC) hown2
    ⟨W.heap.size, 0, none⟩ 1 1 (spC s) rfl (by
      intro j u hj
      rw [add_at, Nat.zero_add, (blk_new W _ _).cell]
      exact hj) (by
      intro u hu
      unfold spC at hu
      simp at hu
      rcases hu with rfl | rfl | rfl | rfl | rfl | rfl <;> rfl) (by unfold maxLen; omega) (by omega) (by simp; omega)
  refine ⟨v', w', hr, ?_, hg, ((Below.refl _ _).alloc hbase _).grown hg (by simp; omega) (fun k hk => (hv.lt k hk).1)⟩
  show w'.ownsRow base _ 6 v' (l ++ [s]).length ((l ++ [s]).flatMap spC)
  rw [List.flatMap_append, List.length_append]
  simpa using ho

/-- What lies in other blocks than the one that turned. -/
theorem grown_cell {w w' : World} {row : Option Nat} {a : Addr} {v : Value} (h : w.grownBy w' row) (hne : some a.block ≠ row) (hc : w.cell? a = some v) : w'.cell? a = some v := by
  rw [cell_same_block (h.block _ (World.block_lt_of_cell? w a hc) hne)]; exact hc

end Go.Proofs.YtafkkehcacdodaaGreat

namespace Go.Proofs.YtafkkehcacdodaaGreat
open Go.RowKit

/-- A method's value. -/
@[reducible] def mv (f S : Nat) : Value := .func (.func f) #[.pointer (some ⟨S, 0, none⟩)] #[]

@[reducible] def ms1 (S : Nat) : Array Value := #[mv 121 S, mv 122 S]
@[reducible] def ms2 (S : Nat) : Array Value := #[mv 121 S, mv 122 S, mv 123 S, mv 124 S, mv 125 S]
@[reducible] def ms3 (S : Nat) : Array Value := #[mv 121 S, mv 122 S, mv 124 S, mv 125 S]

theorem parts1 (S : Nat) (w : World) (hc : w.cell? ⟨S, 0, none⟩ = some (.int .i64 1)) :
    Calls Tryz.prog 107 #[.pointer (some ⟨S, 0, none⟩)] w fun r w' => r = .returned (.slice (some ⟨w.heap.size, 0, none⟩) 2 2) ∧ w' = w.alloc (.cells (ms1 S) 1) := by
  have hmf : ∀ (fn : Fn) (first cap : Array Value) (w : World), (Instr.makeFunc fn first cap).run Tryz.prog w = .ok (.func fn first cap) w := fun _ _ _ _ => rfl
  go_enter Tryz.func107, Tryz.ntmps107
  go_wp2
  go_ret
  exact ⟨rfl, rfl⟩

theorem parts2 (S : Nat) (w : World) (hc : w.cell? ⟨S, 0, none⟩ = some (.int .i64 2)) :
    Calls Tryz.prog 107 #[.pointer (some ⟨S, 0, none⟩)] w fun r w' => r = .returned (.slice (some ⟨w.heap.size, 0, none⟩) 5 5) ∧ w' = w.alloc (.cells (ms2 S) 1) := by
  have hmf : ∀ (fn : Fn) (first cap : Array Value) (w : World), (Instr.makeFunc fn first cap).run Tryz.prog w = .ok (.func fn first cap) w := fun _ _ _ _ => rfl
  go_enter Tryz.func107, Tryz.ntmps107
  go_wp2
  go_ret
  exact ⟨rfl, rfl⟩

theorem parts3 (S : Nat) (w : World) (hc : w.cell? ⟨S, 0, none⟩ = some (.int .i64 3)) :
    Calls Tryz.prog 107 #[.pointer (some ⟨S, 0, none⟩)] w fun r w' => r = .returned (.slice (some ⟨w.heap.size, 0, none⟩) 4 4) ∧ w' = w.alloc (.cells (ms3 S) 1) := by
  have hmf : ∀ (fn : Fn) (first cap : Array Value) (w : World), (Instr.makeFunc fn first cap).run Tryz.prog w = .ok (.func fn first cap) w := fun _ _ _ _ => rfl
  go_enter Tryz.func107, Tryz.ntmps107
  go_wp2
  go_ret
  exact ⟨rfl, rfl⟩

set_option maxHeartbeats 1000000 in
theorem encode_no (e : En) (w : World) (h : ¬ e.May) :
    Calls Tryz.prog 87 #[enV e] w fun r w' => r = .returned (.tuple #[.slice none 0 0, .int .i64 1]) ∧ Below w.heap.size w w' := by
  have hE : Hid (checkE e = 1) := by show checkE e = 1; unfold checkE; rw [mayB_false h]; rfl
  have H := fun w => echeck_any e w
  rw [hE.out] at H
  obtain ⟨k, t, s, a, b⟩ := e
  go_enter Tryz.func87, Tryz.ntmps87
  go_wp2_with fail
  refine (H _).mono ?_
  rintro r w1 ⟨rfl, hb⟩
  go_wp2
  go_ret2
  exact ⟨rfl, below_trans (below_alloc _ _) hb⟩

/-- Ahead of the loop: the writer, and behind it the list of its methods. -/
theorem start_w (w w1 : World) (e : En) (ms : Array Value) (S : Nat) (hS : S = w1.heap.size) (hb : Below w.heap.size w w1) :
    ∃ w2, w2 = (w1.alloc (.cells (wtC e (.slice none 0 0)) 175)).alloc (.cells ms 1) ∧ Wtr w2 S (S + 2) e (.slice none 0 0) [] ∧ (∀ j, w2.cell? ⟨S + 1, j, none⟩ = ms[j]?) ∧ Below w.heap.size w w2 ∧ w.heap.size ≤ S := by
  have hb1 := below_alloc w1 (.cells (wtC e (.slice none 0 0)) 175)
  have hb2 := below_alloc (w1.alloc (.cells (wtC e (.slice none 0 0)) 175)) (.cells ms 1)
  have hs1 : (w1.alloc (.cells (wtC e (.slice none 0 0)) 175)).heap.size = S + 1 := by simp [hS]
  have hs2 : ((w1.alloc (.cells (wtC e (.slice none 0 0)) 175)).alloc (.cells ms 1)).heap.size = S + 2 := by simp [hS]
  refine ⟨_, rfl, ⟨?_, World.ownsRow_nil _ _ _ _, by omega, by omega, by simp⟩, ?_, below_trans hb (below_trans hb1 hb2), by rw [hS]; exact hb.size⟩
  · rw [hb2.block S (by omega), hS]
    exact heap_alloc_new _ _
  · intro j
    rw [← hs1]
    exact World.cell?_alloc_mark _ ms 1 (0, 0) j

def pre1 (t : Int) : Nat → List Int
  | 0 => []
  | 1 => bigE 1 1
  | _ => bigE 1 1 ++ bigE 8 t

def pre2 (e : En) : Nat → List Int
  | 0 => []
  | 1 => bigE 1 e.kind
  | 2 => bigE 1 e.kind ++ bigE 8 e.time
  | 3 => bigE 1 e.kind ++ bigE 8 e.time ++ bigE 4 e.sub
  | 4 => bigE 1 e.kind ++ bigE 8 e.time ++ bigE 4 e.sub ++ bigE 4 e.addr
  | _ => bigE 1 e.kind ++ bigE 8 e.time ++ bigE 4 e.sub ++ bigE 4 e.addr ++ bigE 2 e.block

def pre3 (e : En) : Nat → List Int
  | 0 => []
  | 1 => bigE 1 e.kind
  | 2 => bigE 1 e.kind ++ bigE 8 e.time
  | 3 => bigE 1 e.kind ++ bigE 8 e.time ++ bigE 4 e.addr
  | _ => bigE 1 e.kind ++ bigE 8 e.time ++ bigE 4 e.addr ++ bigE 2 e.block

theorem ms_cell {w w' : World} {S : Nat} {ms : Array Value} (h : ∀ j, w.cell? ⟨S + 1, j, none⟩ = ms[j]?) (hk : Kp S (S + 2) w w') (j : Nat) : w'.cell? ⟨S + 1, j, none⟩ = ms[j]? := by
  rw [← h j]
  exact World.cell?_of_block (w := w) (hk.keep (S + 1) (by omega) (by omega))

set_option maxHeartbeats 2000000 in
theorem encode_1 (t : Int) (w : World) (h : En.May ⟨1, t, 0, 0, 0⟩) :
    Calls Tryz.prog 87 #[enV ⟨1, t, 0, 0, 0⟩] w fun r w' => ∃ v, r = .returned (.tuple #[v, .int .i64 0]) ∧ Owns w' w.heap.size v (bytesE ⟨1, t, 0, 0, 0⟩) ∧ Below w.heap.size w w' := by
  have hE : Hid (checkE ⟨1, t, 0, 0, 0⟩ = 0) := by show checkE _ = 0; unfold checkE; rw [mayB_true h]; rfl
  have H := fun w => echeck_any ⟨1, t, 0, 0, 0⟩ w
  rw [hE.out] at H
  obtain ⟨t0, t1, -⟩ := h
  dsimp only at t0 t1
  go_enter Tryz.func87, Tryz.ntmps87
  go_wp2_with fail
  refine (H _).mono ?_
  rintro r w1 ⟨rfl, hb⟩
  have c0 : w1.cell? ⟨w.heap.size, 0, none⟩ = some (.int .i64 1) := cell_later hb (by rw [World.cell?_alloc_mark w _ _ (0, 0) 0]; rfl)
  have c1 : w1.cell? ⟨w.heap.size, 1, none⟩ = some (.int .i64 t) := cell_later hb (by rw [World.cell?_alloc_mark w _ _ (0, 0) 1]; rfl)
  have c2 : w1.cell? ⟨w.heap.size, 2, none⟩ = some (.int .u32 0) := cell_later hb (by rw [World.cell?_alloc_mark w _ _ (0, 0) 2]; rfl)
  have c3 : w1.cell? ⟨w.heap.size, 3, none⟩ = some (.int .u32 0) := cell_later hb (by rw [World.cell?_alloc_mark w _ _ (0, 0) 3]; rfl)
  have c4 : w1.cell? ⟨w.heap.size, 4, none⟩ = some (.int .i64 0) := cell_later hb (by rw [World.cell?_alloc_mark w _ _ (0, 0) 4]; rfl)
  have hb' := below_trans (below_alloc w _) hb
  obtain ⟨w2, HW2, hW2, hms, hb2, hle⟩ := start_w w w1 ⟨1, t, 0, 0, 0⟩ (ms1 w1.heap.size) w1.heap.size rfl hb'
  have hsz : w2.heap.size = w1.heap.size + 2 := by rw [HW2]; simp
  have hcS : ∀ W, W = w1.alloc (.cells (wtC ⟨1, t, 0, 0, 0⟩ (.slice none 0 0)) 175) → W.cell? ⟨w1.heap.size, 0, none⟩ = some (.int .i64 1) := by
    rintro W rfl; rw [World.cell?_alloc_mark w1 _ _ (0, 0) 0]; rfl
  go_wp2_with fail
  refine (parts1 w1.heap.size _ (hcS _ rfl)).mono ?_
  rintro r w3 ⟨rfl, hw3⟩
  have hw4 : w3 = w2 := hw3.trans HW2.symm
  clear hw3
  subst hw4
  have HSZ : Hid ((w1.alloc (.cells (wtC ⟨1, t, 0, 0, 0⟩ (.slice none 0 0)) 175)).heap.size = w1.heap.size + 1) := by show _ = _; simp
  rw [HSZ.out]
  clear HW2 HSZ hcS c0 c1 c2 c3 c4 hb hb'
  generalize w1.heap.size = S at *
  go_wp2
  go_loopg [17] 2 (fun gk i wr => ∃ (k : Nat) (v : Value), k + gk = 2 ∧ i = .int .i64 k ∧ Wtr wr S (S + 2) ⟨1, t, 0, 0, 0⟩ v (pre1 t k) ∧ Kp S (S + 2) w3 wr)
  case atStart => exact ⟨0, _, rfl, rfl, hW2, ⟨Below.refl _ _, fun _ _ _ => rfl⟩⟩
  case round =>
    obtain ⟨k, v, hk, rfl, hW, hK⟩ := hrel
    have hcm := ms_cell hms hK
    have hks : k = 0 ∨ k = 1 ∨ k = 2 := by omega
    rcases hks with rfl | rfl | rfl
    · have hc := hcm 0
      have H1 := kind_m S (S + 2) ⟨1, t, 0, 0, 0⟩ v _ wr hW (by show (0 : Int) ≤ 1; decide) (by show (1 : Int) < _; decide) (by simp [pre1])
      obtain ⟨wx, hwx⟩ : ∃ wx, wx = wr := ⟨wr, rfl⟩
      clear hcm
      go_wp2_with fail
      refine H1.mono ?_
      rintro r w5 ⟨rfl, v', hW', hK'⟩
      have hKK := hK.trans hK'
      clear hW hK hK' hc H1
      go_wp2
      go_roundg 1
      case rel => exact ⟨1, v', rfl, rfl, hW', hKK⟩
      case measure => omega
    · have hc := hcm 1
      have H1 := time_m S (S + 2) ⟨1, t, 0, 0, 0⟩ v _ wr hW t0 (by show t < _; omega) (by simp [pre1, bigE_length])
      clear hcm
      go_wp2_with fail
      refine H1.mono ?_
      rintro r w5 ⟨rfl, v', hW', hK'⟩
      have hKK := hK.trans hK'
      clear hW hK hK' hc H1
      go_wp2
      go_roundg 0
      case rel => exact ⟨2, v', rfl, rfl, hW', hKK⟩
      case measure => omega
    · have hc5 : wr.cell? ⟨S, 5, none⟩ = some v := hW.cell 5
      obtain ⟨va, vc, hv⟩ := owns_shape hW.out
      have hO : Owns wr w.heap.size v (bytesE ⟨1, t, 0, 0, 0⟩) := hW.out.low (by omega)
      have hB := hb2.trans (hK.below.mono hle)
      generalize (pre1 t 2).length = N at *
      subst hv
      clear hcm hW hK
      go_wp2
      go_ret2
      exact ⟨_, rfl, hO, hB⟩

set_option maxHeartbeats 4000000 in
theorem encode_2 (t s a b : Int) (w : World) (h : En.May ⟨2, t, s, a, b⟩) (s0 : 0 ≤ s) (s1 : s < 4294967296) (a0 : 0 ≤ a) (a1 : a < 4294967296) :
    Calls Tryz.prog 87 #[enV ⟨2, t, s, a, b⟩] w fun r w' => ∃ v, r = .returned (.tuple #[v, .int .i64 0]) ∧ Owns w' w.heap.size v (bytesE ⟨2, t, s, a, b⟩) ∧ Below w.heap.size w w' := by
  have hE : Hid (checkE ⟨2, t, s, a, b⟩ = 0) := by show checkE _ = 0; unfold checkE; rw [mayB_true h]; rfl
  have H := fun w => echeck_any ⟨2, t, s, a, b⟩ w
  rw [hE.out] at H
  obtain ⟨t0, t1, hkk⟩ := h
  dsimp only at t0 t1 hkk
  have b0 : 0 ≤ b := by omega
  have b1 : b ≤ 65535 := by omega
  clear hkk
  go_enter Tryz.func87, Tryz.ntmps87
  go_wp2_with fail
  refine (H _).mono ?_
  rintro r w1 ⟨rfl, hb⟩
  have c0 : w1.cell? ⟨w.heap.size, 0, none⟩ = some (.int .i64 2) := cell_later hb (by rw [World.cell?_alloc_mark w _ _ (0, 0) 0]; rfl)
  have c1 : w1.cell? ⟨w.heap.size, 1, none⟩ = some (.int .i64 t) := cell_later hb (by rw [World.cell?_alloc_mark w _ _ (0, 0) 1]; rfl)
  have c2 : w1.cell? ⟨w.heap.size, 2, none⟩ = some (.int .u32 s) := cell_later hb (by rw [World.cell?_alloc_mark w _ _ (0, 0) 2]; rfl)
  have c3 : w1.cell? ⟨w.heap.size, 3, none⟩ = some (.int .u32 a) := cell_later hb (by rw [World.cell?_alloc_mark w _ _ (0, 0) 3]; rfl)
  have c4 : w1.cell? ⟨w.heap.size, 4, none⟩ = some (.int .i64 b) := cell_later hb (by rw [World.cell?_alloc_mark w _ _ (0, 0) 4]; rfl)
  have hb' := below_trans (below_alloc w _) hb
  obtain ⟨w2, HW2, hW2, hms, hb2, hle⟩ := start_w w w1 ⟨2, t, s, a, b⟩ (ms2 w1.heap.size) w1.heap.size rfl hb'
  have hsz : w2.heap.size = w1.heap.size + 2 := by rw [HW2]; simp
  have hcS : ∀ W, W = w1.alloc (.cells (wtC ⟨2, t, s, a, b⟩ (.slice none 0 0)) 175) → W.cell? ⟨w1.heap.size, 0, none⟩ = some (.int .i64 2) := by
    rintro W rfl; rw [World.cell?_alloc_mark w1 _ _ (0, 0) 0]; rfl
  go_wp2_with fail
  refine (parts2 w1.heap.size _ (hcS _ rfl)).mono ?_
  rintro r w3 ⟨rfl, hw3⟩
  have hw4 : w3 = w2 := hw3.trans HW2.symm
  clear hw3
  subst hw4
  have HSZ : Hid ((w1.alloc (.cells (wtC ⟨2, t, s, a, b⟩ (.slice none 0 0)) 175)).heap.size = w1.heap.size + 1) := by show _ = _; simp
  rw [HSZ.out]
  clear HW2 HSZ hcS c0 c1 c2 c3 c4 hb hb'
  generalize w1.heap.size = S at *
  go_wp2
  go_loopg [17] 5 (fun gk i wr => ∃ (k : Nat) (v : Value), k + gk = 5 ∧ i = .int .i64 k ∧ Wtr wr S (S + 2) ⟨2, t, s, a, b⟩ v (pre2 ⟨2, t, s, a, b⟩ k) ∧ Kp S (S + 2) w3 wr)
  case atStart => exact ⟨0, _, rfl, rfl, hW2, ⟨Below.refl _ _, fun _ _ _ => rfl⟩⟩
  case round =>
    obtain ⟨k, v, hk, rfl, hW, hK⟩ := hrel
    have hcm := ms_cell hms hK
    have hks : k = 0 ∨ k = 1 ∨ k = 2 ∨ k = 3 ∨ k = 4 ∨ k = 5 := by omega
    rcases hks with rfl | rfl | rfl | rfl | rfl | rfl
    · have hc := hcm 0
      have H1 := kind_m S (S + 2) ⟨2, t, s, a, b⟩ v _ wr hW (by show (0 : Int) ≤ 2; decide) (by show (2 : Int) < _; decide) (by simp [pre2])
      clear hcm
      go_wp2_with fail
      refine H1.mono ?_
      rintro r w5 ⟨rfl, v', hW', hK'⟩
      have hKK := hK.trans hK'
      clear hW hK hK' hc H1
      go_wp2
      go_roundg 4
      case rel => exact ⟨1, v', rfl, rfl, hW', hKK⟩
      case measure => omega
    · have hc := hcm 1
      have H1 := time_m S (S + 2) ⟨2, t, s, a, b⟩ v _ wr hW t0 (by show t < _; omega) (by simp [pre2, bigE_length])
      clear hcm
      go_wp2_with fail
      refine H1.mono ?_
      rintro r w5 ⟨rfl, v', hW', hK'⟩
      have hKK := hK.trans hK'
      clear hW hK hK' hc H1
      go_wp2
      go_roundg 3
      case rel => exact ⟨2, v', rfl, rfl, hW', hKK⟩
      case measure => omega
    · have hc := hcm 2
      have H1 := sub_m S (S + 2) ⟨2, t, s, a, b⟩ v _ wr hW s0 (by show s < _; omega) (by simp [pre2, bigE_length])
      clear hcm
      go_wp2_with fail
      refine H1.mono ?_
      rintro r w5 ⟨rfl, v', hW', hK'⟩
      have hKK := hK.trans hK'
      clear hW hK hK' hc H1
      go_wp2
      go_roundg 2
      case rel => exact ⟨3, v', rfl, rfl, hW', hKK⟩
      case measure => omega
    · have hc := hcm 3
      have H1 := addr_m S (S + 2) ⟨2, t, s, a, b⟩ v _ wr hW a0 (by show a < _; omega) (by simp [pre2, bigE_length])
      clear hcm
      go_wp2_with fail
      refine H1.mono ?_
      rintro r w5 ⟨rfl, v', hW', hK'⟩
      have hKK := hK.trans hK'
      clear hW hK hK' hc H1
      go_wp2
      go_roundg 1
      case rel => exact ⟨4, v', rfl, rfl, hW', hKK⟩
      case measure => omega
    · have hc := hcm 4
      have H1 := block_m S (S + 2) ⟨2, t, s, a, b⟩ v _ wr hW b0 (by show b < _; omega) (by simp [pre2, bigE_length])
      clear hcm
      go_wp2_with fail
      refine H1.mono ?_
      rintro r w5 ⟨rfl, v', hW', hK'⟩
      have hKK := hK.trans hK'
      clear hW hK hK' hc H1
      go_wp2
      go_roundg 0
      case rel => exact ⟨5, v', rfl, rfl, hW', hKK⟩
      case measure => omega
    · have hc5 : wr.cell? ⟨S, 5, none⟩ = some v := hW.cell 5
      obtain ⟨va, vc, hv⟩ := owns_shape hW.out
      have hO : Owns wr w.heap.size v (bytesE ⟨2, t, s, a, b⟩) := hW.out.low (by omega)
      have hB := hb2.trans (hK.below.mono hle)
      generalize (pre2 ⟨2, t, s, a, b⟩ 5).length = NL at *
      subst hv
      clear hcm hW hK
      go_wp2
      go_ret2
      exact ⟨_, rfl, hO, hB⟩

set_option maxHeartbeats 4000000 in
theorem encode_3 (t s a b : Int) (w : World) (h : En.May ⟨3, t, s, a, b⟩) (a0 : 0 ≤ a) (a1 : a < 4294967296) :
    Calls Tryz.prog 87 #[enV ⟨3, t, s, a, b⟩] w fun r w' => ∃ v, r = .returned (.tuple #[v, .int .i64 0]) ∧ Owns w' w.heap.size v (bytesE ⟨3, t, s, a, b⟩) ∧ Below w.heap.size w w' := by
  have hE : Hid (checkE ⟨3, t, s, a, b⟩ = 0) := by show checkE _ = 0; unfold checkE; rw [mayB_true h]; rfl
  have H := fun w => echeck_any ⟨3, t, s, a, b⟩ w
  rw [hE.out] at H
  obtain ⟨t0, t1, hkk⟩ := h
  dsimp only at t0 t1 hkk
  have b0 : 0 ≤ b := by omega
  have b1 : b ≤ 65535 := by omega
  clear hkk
  go_enter Tryz.func87, Tryz.ntmps87
  go_wp2_with fail
  refine (H _).mono ?_
  rintro r w1 ⟨rfl, hb⟩
  have c0 : w1.cell? ⟨w.heap.size, 0, none⟩ = some (.int .i64 3) := cell_later hb (by rw [World.cell?_alloc_mark w _ _ (0, 0) 0]; rfl)
  have c1 : w1.cell? ⟨w.heap.size, 1, none⟩ = some (.int .i64 t) := cell_later hb (by rw [World.cell?_alloc_mark w _ _ (0, 0) 1]; rfl)
  have c2 : w1.cell? ⟨w.heap.size, 2, none⟩ = some (.int .u32 s) := cell_later hb (by rw [World.cell?_alloc_mark w _ _ (0, 0) 2]; rfl)
  have c3 : w1.cell? ⟨w.heap.size, 3, none⟩ = some (.int .u32 a) := cell_later hb (by rw [World.cell?_alloc_mark w _ _ (0, 0) 3]; rfl)
  have c4 : w1.cell? ⟨w.heap.size, 4, none⟩ = some (.int .i64 b) := cell_later hb (by rw [World.cell?_alloc_mark w _ _ (0, 0) 4]; rfl)
  have hb' := below_trans (below_alloc w _) hb
  obtain ⟨w2, HW2, hW2, hms, hb2, hle⟩ := start_w w w1 ⟨3, t, s, a, b⟩ (ms3 w1.heap.size) w1.heap.size rfl hb'
  have hsz : w2.heap.size = w1.heap.size + 2 := by rw [HW2]; simp
  have hcS : ∀ W, W = w1.alloc (.cells (wtC ⟨3, t, s, a, b⟩ (.slice none 0 0)) 175) → W.cell? ⟨w1.heap.size, 0, none⟩ = some (.int .i64 3) := by
    rintro W rfl; rw [World.cell?_alloc_mark w1 _ _ (0, 0) 0]; rfl
  go_wp2_with fail
  refine (parts3 w1.heap.size _ (hcS _ rfl)).mono ?_
  rintro r w3 ⟨rfl, hw3⟩
  have hw4 : w3 = w2 := hw3.trans HW2.symm
  clear hw3
  subst hw4
  have HSZ : Hid ((w1.alloc (.cells (wtC ⟨3, t, s, a, b⟩ (.slice none 0 0)) 175)).heap.size = w1.heap.size + 1) := by show _ = _; simp
  rw [HSZ.out]
  clear HW2 HSZ hcS c0 c1 c2 c3 c4 hb hb'
  generalize w1.heap.size = S at *
  go_wp2
  go_loopg [17] 4 (fun gk i wr => ∃ (k : Nat) (v : Value), k + gk = 4 ∧ i = .int .i64 k ∧ Wtr wr S (S + 2) ⟨3, t, s, a, b⟩ v (pre3 ⟨3, t, s, a, b⟩ k) ∧ Kp S (S + 2) w3 wr)
  case atStart => exact ⟨0, _, rfl, rfl, hW2, ⟨Below.refl _ _, fun _ _ _ => rfl⟩⟩
  case round =>
    obtain ⟨k, v, hk, rfl, hW, hK⟩ := hrel
    have hcm := ms_cell hms hK
    have hks : k = 0 ∨ k = 1 ∨ k = 2 ∨ k = 3 ∨ k = 4 := by omega
    rcases hks with rfl | rfl | rfl | rfl | rfl
    · have hc := hcm 0
      have H1 := kind_m S (S + 2) ⟨3, t, s, a, b⟩ v _ wr hW (by show (0 : Int) ≤ 3; decide) (by show (3 : Int) < _; decide) (by simp [pre3])
      clear hcm
      go_wp2_with fail
      refine H1.mono ?_
      rintro r w5 ⟨rfl, v', hW', hK'⟩
      have hKK := hK.trans hK'
      clear hW hK hK' hc H1
      go_wp2
      go_roundg 3
      case rel => exact ⟨1, v', rfl, rfl, hW', hKK⟩
      case measure => omega
    · have hc := hcm 1
      have H1 := time_m S (S + 2) ⟨3, t, s, a, b⟩ v _ wr hW t0 (by show t < _; omega) (by simp [pre3, bigE_length])
      clear hcm
      go_wp2_with fail
      refine H1.mono ?_
      rintro r w5 ⟨rfl, v', hW', hK'⟩
      have hKK := hK.trans hK'
      clear hW hK hK' hc H1
      go_wp2
      go_roundg 2
      case rel => exact ⟨2, v', rfl, rfl, hW', hKK⟩
      case measure => omega
    · have hc := hcm 2
      have H1 := addr_m S (S + 2) ⟨3, t, s, a, b⟩ v _ wr hW a0 (by show a < _; omega) (by simp [pre3, bigE_length])
      clear hcm
      go_wp2_with fail
      refine H1.mono ?_
      rintro r w5 ⟨rfl, v', hW', hK'⟩
      have hKK := hK.trans hK'
      clear hW hK hK' hc H1
      go_wp2
      go_roundg 1
      case rel => exact ⟨3, v', rfl, rfl, hW', hKK⟩
      case measure => omega
    · have hc := hcm 3
      have H1 := block_m S (S + 2) ⟨3, t, s, a, b⟩ v _ wr hW b0 (by show b < _; omega) (by simp [pre3, bigE_length])
      clear hcm
      go_wp2_with fail
      refine H1.mono ?_
      rintro r w5 ⟨rfl, v', hW', hK'⟩
      have hKK := hK.trans hK'
      clear hW hK hK' hc H1
      go_wp2
      go_roundg 0
      case rel => exact ⟨4, v', rfl, rfl, hW', hKK⟩
      case measure => omega
    · have hc5 : wr.cell? ⟨S, 5, none⟩ = some v := hW.cell 5
      obtain ⟨va, vc, hv⟩ := owns_shape hW.out
      have hO : Owns wr w.heap.size v (bytesE ⟨3, t, s, a, b⟩) := hW.out.low (by omega)
      have hB := hb2.trans (hK.below.mono hle)
      generalize (pre3 ⟨3, t, s, a, b⟩ 4).length = NL at *
      subst hv
      clear hcm hW hK
      go_wp2
      go_ret2
      exact ⟨_, rfl, hO, hB⟩

/-- Encode of what may be: its bytes, in memory of the call's own. -/
theorem encode_ok (e : En) (w : World) (h : e.May) (ho : e.Ok) :
    Calls Tryz.prog 87 #[enV e] w fun r w' => ∃ v, r = .returned (.tuple #[v, .int .i64 0]) ∧ Owns w' w.heap.size v (bytesE e) ∧ Below w.heap.size w w' := by
  obtain ⟨k, t, s, a, b⟩ := e
  have hk := h.kind
  dsimp only at hk
  rcases hk with ⟨rfl, rfl, rfl, rfl⟩ | ⟨rfl, _⟩ | ⟨rfl, _⟩
  · exact encode_1 t w h
  · exact encode_2 t s a b w h ho.sub0 ho.sub1 ho.addr0 ho.addr1
  · exact encode_3 t s a b w h ho.addr0 ho.addr1

end Go.Proofs.YtafkkehcacdodaaGreat
