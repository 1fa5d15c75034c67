/- Memory by blocks: rows of cells, windows onto them, who owns which block. -/
import Derived.Test.YtafkkehcacdodaaGreatCopy
import Derived.Deep.MidRow
import Derived.ArgAppend
set_option maxRecDepth 100000
namespace Go.Proofs.YtafkkehcacdodaaGreat
open Go.RowKit

/-- Block g is a row of these cells, all of them to be written. -/
def Blk (w : World) (g : Nat) (cs : List Value) : Prop := ∃ t, w.heap[g]? = some (.cells cs.toArray t (0, 0))

section
variable {w w' : World} {g : Nat} {cs : List Value}

theorem Blk.lt (h : Blk w g cs) : g < w.heap.size := by
  obtain ⟨t, h⟩ := h
  exact (Array.getElem?_eq_some_iff.1 h).1

theorem Blk.cell (h : Blk w g cs) (j : Nat) : w.cell? ⟨g, j, none⟩ = cs[j]? := by
  obtain ⟨t, h⟩ := h
  rw [cell_of_row w g j _ t _ h]
  simp

theorem Blk.frozen (h : Blk w g cs) (j : Nat) : w.frozen? ⟨g, j, none⟩ = false := by
  obtain ⟨t, h⟩ := h
  exact frozen_of_row w g j _ t h

theorem Blk.same (h : Blk w g cs) (e : w'.heap[g]? = w.heap[g]?) : Blk w' g cs := by
  obtain ⟨t, h⟩ := h
  exact ⟨t, e.trans h⟩

theorem Blk.later (h : Blk w g cs) (e : Below w.heap.size w w') : Blk w' g cs := h.same (e.block g h.lt)

theorem Blk.set (h : Blk w g cs) (j : Nat) (v : Value) : Blk (w.setCell ⟨g, j, none⟩ v) g (cs.set j v) := by
  obtain ⟨t, h⟩ := h
  exact ⟨t, by rw [heap_setCell_same w g j _ t v h]; simp⟩

theorem blk_new (w : World) (cs : Array Value) (t : TypeId) : Blk (w.alloc (.cells cs t)) w.heap.size cs.toList := ⟨t, by rw [heap_alloc_new]⟩

theorem heap_setCells_other (k g : Nat) (h : k ≠ g) : ∀ (vs : List Value) (o : Nat) (w : World), (w.setCells g o vs).heap[k]? = w.heap[k]? := by
  intro vs
  induction vs with
  | nil => intro o w; rfl
  | cons v vs ih => intro o w; rw [World.setCells, ih, heap_setCell_other w ⟨g, o, none⟩ k v h]

theorem size_setCells (g : Nat) : ∀ (vs : List Value) (o : Nat) (w : World), (w.setCells g o vs).heap.size = w.heap.size := by
  intro vs
  induction vs with
  | nil => intro o w; rfl
  | cons v vs ih => intro o w; rw [World.setCells, ih]; simp [World.setCell]

theorem same_setCells (g : Nat) : ∀ (vs : List Value) (o : Nat) (w : World), (w.setCells g o vs).os = w.os ∧ (w.setCells g o vs).tape = w.tape ∧ (w.setCells g o vs).output = w.output := by
  intro vs
  induction vs with
  | nil => intro o w; exact ⟨rfl, rfl, rfl⟩
  | cons v vs ih => intro o w; rw [World.setCells]; exact ih _ _

/-- vs laid over cs, from o on. -/
def splice {α : Type} (cs : List α) (o : Nat) (vs : List α) : List α := cs.take o ++ vs ++ cs.drop (o + vs.length)

theorem splice_length {α : Type} (cs vs : List α) (o : Nat) (h : o + vs.length ≤ cs.length) : (splice cs o vs).length = cs.length := by
  simp [splice]; omega

theorem splice_nil {α : Type} (cs : List α) (o : Nat) : splice cs o [] = cs := by simp [splice]

theorem splice_cons {α : Type} (cs vs : List α) (o : Nat) (v : α) (h : o < cs.length) : splice (cs.set o v) (o + 1) vs = splice cs o (v :: vs) := by
  unfold splice
  have h1 : (cs.set o v).take (o + 1) = cs.take o ++ [v] := by
    rw [List.take_set, List.take_succ_eq_append_getElem h, List.set_append]
    simp [Nat.min_eq_left (Nat.le_of_lt h)]
  have h2 : (cs.set o v).drop (o + 1 + vs.length) = cs.drop (o + (vs.length + 1)) := by
    rw [List.drop_set, if_pos (by omega)]
    congr 1; omega
  rw [h1, h2]
  simp

theorem splice_get {α : Type} (cs vs : List α) (o j : Nat) (h : o + vs.length ≤ cs.length) : (splice cs o vs)[j]? = if o ≤ j ∧ j < o + vs.length then vs[j - o]? else cs[j]? := by
  unfold splice
  rw [List.append_assoc]
  by_cases h1 : j < o
  · rw [List.getElem?_append_left (by simp; omega), if_neg (by omega)]
    simp [h1]
  · rw [List.getElem?_append_right (by simp; omega)]
    have e : (cs.take o).length = o := by simp; omega
    rw [e]
    by_cases h2 : j < o + vs.length
    · rw [if_pos ⟨by omega, h2⟩, List.getElem?_append_left (by omega)]
    · rw [if_neg (by omega), List.getElem?_append_right (by omega), List.getElem?_drop]
      congr 1; omega

theorem splice_map {α β : Type} (f : α → β) (cs vs : List α) (o : Nat) : (splice cs o vs).map f = splice (cs.map f) o (vs.map f) := by
  simp [splice]

theorem splice_take {α : Type} (cs vs : List α) (o n : Nat) (h : o + vs.length ≤ n) (hn : n ≤ cs.length) : (splice cs o vs).take n = splice (cs.take n) o vs := by
  apply List.ext_getElem?
  intro j
  rw [splice_get _ _ _ _ (by simp; omega)]
  by_cases hj : j < n
  · rw [List.getElem?_take_of_lt hj, splice_get _ _ _ _ (by omega), List.getElem?_take_of_lt hj]
  · rw [List.getElem?_take, if_neg hj, List.getElem?_take, if_neg hj, if_neg (by omega)]

theorem Blk.sets (g : Nat) : ∀ (vs : List Value) (o : Nat) (w : World) (cs : List Value), Blk w g cs → o + vs.length ≤ cs.length → Blk (w.setCells g o vs) g (splice cs o vs) := by
  intro vs
  induction vs with
  | nil => intro o w cs h _; rw [splice_nil]; exact h
  | cons v vs ih =>
    intro o w cs h hl
    simp at hl
    rw [World.setCells, ← splice_cons cs vs o v (by omega)]
    exact ih (o + 1) _ _ (h.set o v) (by simp; omega)

theorem Blk.range (h : Blk w g cs) (o n : Nat) : w.rangeAt g o ((cs.drop o).take n) := fun j v hv => by
  rw [h.cell]
  rw [List.getElem?_take] at hv
  split at hv
  · rwa [List.getElem?_drop] at hv
  · cases hv

theorem Blk.there (h : Blk w g cs) (o n : Nat) (ho : o + n ≤ cs.length) : w.there g o n := fun j hj => by
  refine ⟨?_, h.frozen _⟩
  rw [h.cell, List.getElem?_eq_getElem (by omega)]; rfl

end

/-- A slice of n elements that is its owner's: a window onto a block. -/
def Win (w : World) (size : Nat) (v : Value) (n : Nat) (xs : List Value) : Prop :=
  xs.length = n * size ∧ ((v = .slice none 0 0 ∧ n = 0) ∨ ∃ g o cap cs, v = .slice (some ⟨g, o, none⟩) n cap ∧ Blk w g cs ∧ n ≤ cap ∧ cap ≤ maxLen ∧ o + cap * size ≤ cs.length ∧ (cs.drop o).take (n * size) = xs)

/-- The same at a block's head. -/
def Row (w : World) (size g cap n : Nat) (xs : List Value) : Prop :=
  xs.length = n * size ∧ n ≤ cap ∧ cap ≤ maxLen ∧ ∃ cs, Blk w g cs ∧ cap * size ≤ cs.length ∧ cs.take (n * size) = xs

section
variable {w w' : World} {size g cap n : Nat} {v : Value} {xs : List Value}

theorem win_nil (w : World) (size : Nat) : Win w size (.slice none 0 0) 0 [] := ⟨by simp, .inl ⟨rfl, rfl⟩⟩

theorem Win.same (h : Win w size v n xs) (e : ∀ g, v.ownBlock = some g → w'.heap[g]? = w.heap[g]?) : Win w' size v n xs := by
  refine ⟨h.1, ?_⟩
  rcases h.2 with h | ⟨g, o, cap, cs, rfl, hb, r⟩
  · exact .inl h
  · exact .inr ⟨g, o, cap, cs, rfl, hb.same (e g rfl), r⟩

theorem Win.lt (h : Win w size v n xs) : ∀ g, v.ownBlock = some g → g < w.heap.size := by
  intro g hg
  rcases h.2 with ⟨rfl, _⟩ | ⟨g', o, cap, cs, rfl, hb, r⟩
  · simp [Value.ownBlock] at hg
  · simp [Value.ownBlock] at hg; subst hg; exact hb.lt

theorem Win.later (h : Win w size v n xs) (e : Below w.heap.size w w') : Win w' size v n xs := h.same fun g hg => e.block g (h.lt g hg)

theorem Row.same (h : Row w size g cap n xs) (e : w'.heap[g]? = w.heap[g]?) : Row w' size g cap n xs := by
  obtain ⟨h1, h2, h3, cs, h4, h5⟩ := h
  exact ⟨h1, h2, h3, cs, h4.same e, h5⟩

theorem Row.lt (h : Row w size g cap n xs) : g < w.heap.size := by
  obtain ⟨h1, h2, h3, cs, h4, h5⟩ := h
  exact h4.lt

theorem Row.later (h : Row w size g cap n xs) (e : Below w.heap.size w w') : Row w' size g cap n xs := h.same (e.block g h.lt)

theorem Row.range (h : Row w size g cap n xs) (o k : Nat) : w.rangeAt g o ((xs.drop o).take k) := by
  obtain ⟨h1, h2, h3, cs, h4, h5, rfl⟩ := h
  intro j v hv
  have := h4.cell (o + j)
  rw [this]
  rw [List.getElem?_take] at hv
  split at hv
  · rw [List.getElem?_drop, List.getElem?_take] at hv
    split at hv
    · exact hv
    · cases hv
  · cases hv

theorem Row.there (h : Row w size g cap n xs) (o k : Nat) (ho : o + k ≤ n * size) : w.there g o k := by
  obtain ⟨h1, h2, h3, cs, h4, h5, rfl⟩ := h
  refine h4.there o k ?_
  have : n * size ≤ cap * size := Nat.mul_le_mul_right _ h2
  omega

theorem Row.cell (h : Row w size g cap n xs) (j : Nat) (hj : j < n * size) : w.cell? ⟨g, j, none⟩ = xs[j]? := by
  obtain ⟨h1, h2, h3, cs, h4, h5, rfl⟩ := h
  rw [h4.cell, List.getElem?_take_of_lt hj]

theorem Row.frozen (h : Row w size g cap n xs) (j : Nat) : w.frozen? ⟨g, j, none⟩ = false := by
  obtain ⟨h1, h2, h3, cs, h4, h5, rfl⟩ := h
  exact h4.frozen j

theorem Row.sets (h : Row w size g cap n xs) (o : Nat) (vs : List Value) (ho : o + vs.length ≤ n * size) : Row (w.setCells g o vs) size g cap n (splice xs o vs) := by
  obtain ⟨h1, h2, h3, cs, h4, h5, rfl⟩ := h
  have : n * size ≤ cap * size := Nat.mul_le_mul_right _ h2
  refine ⟨by rw [splice_length _ _ _ (by omega)]; exact h1, h2, h3, splice cs o vs, Blk.sets g vs o w cs h4 (by omega), by rw [splice_length _ _ _ (by omega)]; exact h5, ?_⟩
  rw [splice_take _ _ _ _ ho (by omega)]

theorem Row.set (h : Row w size g cap n xs) (j : Nat) (v : Value) : Row (w.setCell ⟨g, j, none⟩ v) size g cap n (xs.set j v) := by
  obtain ⟨h1, h2, h3, cs, h4, h5, rfl⟩ := h
  exact ⟨by simpa using h1, h2, h3, cs.set j v, h4.set j v, by simpa using h5, by rw [List.take_set]⟩

theorem win_of_owns {base : Nat} {e : TypeId} (h : w.ownsRow base e size v n xs) : Win w size v n xs := by
  refine ⟨h.1, ?_⟩
  rcases h.2 with h | ⟨g, cap, cur, rfl, hb, hg, hn, hm, hs, ht⟩
  · exact .inl h
  · exact .inr ⟨g, 0, cap, cur.toList, rfl, ⟨e, by simpa using hg⟩, hn, hm, by simp [hs], by simpa using ht⟩

theorem row_of_owns {base : Nat} {e : TypeId} (h : w.ownsRow base e size (.slice (some ⟨g, 0, none⟩) n cap) n xs) : Row w size g cap n xs := by
  refine ⟨h.1, ?_⟩
  rcases h.2 with ⟨h, _⟩ | ⟨g', cap', cur, hv, hb, hg, hn, hm, hs, ht⟩
  · cases h
  · simp only [Value.slice.injEq, Option.some.injEq, Addr.mk.injEq, and_true, true_and] at hv
    obtain ⟨rfl, rfl⟩ := hv
    exact ⟨hn, hm, cur.toList, ⟨e, by simpa using hg⟩, by simp [hs], ht⟩

theorem win_of_row (h : Row w size g cap n xs) : Win w size (.slice (some ⟨g, 0, none⟩) n cap) n xs := by
  obtain ⟨h1, h2, h3, cs, h4, h5, h6⟩ := h
  exact ⟨h1, .inr ⟨g, 0, cap, cs, rfl, h4, h2, h3, by simpa using h5, by simpa using h6⟩⟩

end

/-- append onto a window, of cells that lie somewhere. -/
theorem win_append {P : Program} (w : World) (t ty e : TypeId) (i : TypeInfo) (z : Value) (size bytes : Nat) (ht : P.underlying t = some (.slice e)) (hi : P.info? e = some i) (hz : i.zero = some z)
    (hsize : i.size = size) (hby : i.bytes = bytes) (hzs : z.cells.size = size) (hsz : 0 < size)
    (v : Value) (n : Nat) (xs : List Value) (hwin : Win w size v n xs)
    (a : Option Addr) (m c : Nat) (news : List Value) (hl : news.length = m * size) (hsrc : (∃ ad, a = some ad ∧ ∀ j u, news[j]? = some u → w.cell? (ad.add j) = some u) ∨ m = 0) (h1 : ∀ u ∈ news, u.oneCell' = true)
    (h63 : n + m ≤ maxLen) (hbytes : (n + m) * bytes ≤ 140737488355328) :
    ∃ v' w', (Builtin.append_ #[t, t] ty #[v, .slice a m c]).run P w = .ok v' w' ∧ Win w' size v' (n + m) (xs ++ news) ∧ w.grownBy w' v.ownBlock ∧ (v'.ownBlock = v.ownBlock ∨ v'.ownBlock = some w.heap.size) := by
  subst hsize
  subst hby
  by_cases hm0 : m = 0
  · subst hm0
    have hn : news = [] := List.eq_nil_of_length_eq_zero (by simpa using hl)
    subst hn
    refine ⟨v, w, ?_, by simpa using hwin, ⟨rfl, rfl, rfl, Nat.le_refl _, fun _ _ _ => rfl⟩, .inl rfl⟩
    have hld : ∀ x : Addr, (loadCells x 0).run P w = .ok #[] w := fun x => by simpa using run_loadCells_list (P := P) w x [] (by simp)
    rcases hwin.2 with ⟨rfl, rfl⟩ | ⟨g, o, cap, cs, rfl, hb, hn, hcm, hcap, hxs⟩
    · cases a <;> simp [Builtin.append_, run_underlying ht, sizeOf, typeInfo, hi, Builtin.lenOf, Builtin.firstCells, hld]
    · cases a <;> simp [Builtin.append_, run_underlying ht, sizeOf, typeInfo, hi, Builtin.lenOf, Builtin.firstCells, hn, storeCells, hld]
  rcases hsrc with ⟨ad, rfl, hnews⟩ | h0
  case inr => exact absurd h0 hm0
  have hsmall : n + m ≤ 9223372036854775807 := by simp only [maxLen] at h63; omega
  rcases hwin.2 with ⟨rfl, rfl⟩ | ⟨g, o, cap, cs, rfl, hb, hn, hcm, hcap, hxs⟩
  · have hx : xs = [] := List.eq_nil_of_length_eq_zero (by simpa using hwin.1)
    subst hx
    obtain ⟨v', w', r1, r2, r3, _⟩ := run_append_own (P := P) w w.heap.size t ty e i z i.size i.bytes ht hi hz rfl rfl hzs hsz (.slice none 0 0) 0 [] (World.ownsRow_nil _ _ _ _) ad m c news hl hnews h1 h63 hbytes (Nat.le_refl _)
    refine ⟨v', w', r1, win_of_owns r2, r3, ?_⟩
    have hr := run_append_nil (P := P) w t ty e i z ht hi hz ad m c news hl hnews (by omega) (by omega) (by have hb := hbytes; simp only [Nat.zero_add] at hb; omega)
    rw [hr] at r1
    injection r1 with e1 e2
    subst e1
    exact .inr rfl
  · have hcell : ∀ j u, xs[j]? = some u → w.cell? ⟨g, o + j, none⟩ = some u := by
      intro j u hu
      rw [← hxs] at hu
      exact hb.range o _ j u hu
    by_cases hroom : n + m ≤ cap
    · have hfit : (n + m) * i.size ≤ cap * i.size := Nat.mul_le_mul_right _ hroom
      rw [Nat.add_mul] at hfit
      have hth := hb.there (o + n * i.size) news.length (by rw [hl]; omega)
      have hr := run_append_room_cells (P := P) w t ty e i ht hi g o n cap ad m c news hl hnews h1 hroom (fun j hj => (hth j hj).1) (fun j hj => (hth j hj).2)
      refine ⟨_, _, hr, ⟨by rw [List.length_append, hwin.1, hl, Nat.add_mul], .inr ⟨g, o, cap, _, rfl, Blk.sets g news (o + n * i.size) w cs hb (by rw [hl]; omega), hroom, hcm, ?_, ?_⟩⟩, ⟨?_, ?_, ?_, by rw [size_setCells]; exact Nat.le_refl _, ?_⟩, .inl rfl⟩
      · rw [splice_length _ _ _ (by rw [hl]; omega)]; exact hcap
      · apply List.ext_getElem?
        intro j
        rw [List.getElem?_take, List.getElem?_drop, splice_get _ _ _ _ (by rw [hl]; omega), Nat.add_mul, ← hxs, hl]
        have hxl : ((cs.drop o).take (n * i.size)).length = n * i.size := by rw [hxs]; exact hwin.1
        by_cases hj : j < n * i.size
        · rw [if_pos (by omega), if_neg (by omega), List.getElem?_append_left (by omega), List.getElem?_take_of_lt hj, List.getElem?_drop]
        · rw [List.getElem?_append_right (by omega), hxl]
          by_cases hj2 : j < n * i.size + m * i.size
          · rw [if_pos hj2, if_pos (by omega)]
            congr 1; omega
          · rw [if_neg hj2, List.getElem?_eq_none (by omega)]
      · exact (same_setCells g _ _ _).1
      · exact (same_setCells g _ _ _).2.1
      · exact (same_setCells g _ _ _).2.2
      · intro k hk hne; exact heap_setCells_other k g (fun e => hne (by simp [Value.ownBlock, e])) _ _ _
    · have hr := run_append_arg_grows (P := P) w t ty e i z i.size i.bytes ht hi hz rfl rfl hzs hsz ⟨g, o, none⟩ n cap xs hwin.1 (fun j u hu => by rw [add_at]; exact hcell j u hu) ad m c news hl hnews (by omega) h63 hbytes
      have hr2 := run_append_grow (P := P) w t ty e i z ht hi hz ⟨g, o, none⟩ n cap xs hwin.1 (fun j u hu => by rw [add_at]; exact hcell j u hu) ad m c news hl hnews (by omega) (by omega) (growslice_fits (by omega) hbytes)
      obtain ⟨v', w', r1, r2, r3⟩ := hr
      refine ⟨v', w', r1, win_of_owns r2, ⟨r3.os, r3.tape, r3.output, r3.size, fun k hk _ => r3.block k hk (by simp)⟩, ?_⟩
      rw [hr2] at r1
      injection r1 with e1 e2
      subst e1
      exact .inr rfl

end Go.Proofs.YtafkkehcacdodaaGreat
