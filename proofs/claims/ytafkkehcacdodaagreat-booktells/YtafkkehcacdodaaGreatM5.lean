/- Memory by blocks: rows of cells, windows onto them, who owns which block. -/
import Derived.Test.YtafkkehcacdodaaGreatCopy
import Derived.Deep.MidRow
import Derived.ArgAppend
set_option maxRecDepth 100000
namespace Go.Proofs.YtafkkehcacdodaaGreat
open Go.RowKit

/-- Block g is a row of these cells, all of them to be written. -/
def Blk (w : World) (g : Nat) (cs : List Value) : Prop := ∃ t, w.heap[g]? = some (.cells cs.toArray t (0, 0))

section
variable {w w' : World} {g : Nat} {cs : List Value}

theorem Blk.lt (h : Blk w g cs) : g < w.heap.size := by
  obtain ⟨t, h⟩ := h
  exact (Array.getElem?_eq_some_iff.1 h).1

theorem Blk.cell (h : Blk w g cs) (j : Nat) : w.cell? ⟨g, j, none⟩ = cs[j]? := by
  obtain ⟨t, h⟩ := h
  rw [cell_of_row w g j _ t _ h]
  simp

theorem Blk.frozen (h : Blk w g cs) (j : Nat) : w.frozen? ⟨g, j, none⟩ = false := by
  obtain ⟨t, h⟩ := h
  exact frozen_of_row w g j _ t h

theorem Blk.same (h : Blk w g cs) (e : w'.heap[g]? = w.heap[g]?) : Blk w' g cs := by
  obtain ⟨t, h⟩ := h
  exact ⟨t, e.trans h⟩

theorem Blk.later (h : Blk w g cs) (e : Below w.heap.size w w') : Blk w' g cs := h.same (e.block g h.lt)

theorem Blk.set (h : Blk w g cs) (j : Nat) (v : Value) : Blk (w.setCell ⟨g, j, none⟩ v) g (cs.set j v) := by
  obtain ⟨t, h⟩ := h
  exact ⟨t, by rw [heap_setCell_same w g j _ t v h]; simp⟩

theorem blk_new (w : World) (cs : Array Value) (t : TypeId) : Blk (w.alloc (.cells cs t)) w.heap.size cs.toList := ⟨t, by rw [heap_alloc_new]⟩

theorem heap_setCells_other (k g : Nat) (h : k ≠ g) : ∀ (vs : List Value) (o : Nat) (w : World), (w.setCells g o vs).heap[k]? = w.heap[k]? := by
  intro vs
  induction vs with
  | nil => intro o w; rfl
  | cons v vs ih => intro o w; rw [World.setCells, ih, heap_setCell_other w ⟨g, o, none⟩ k v h]

theorem size_setCells (g : Nat) : ∀ (vs : List Value) (o : Nat) (w : World), (w.setCells g o vs).heap.size = w.heap.size := by
  intro vs
  induction vs with
  | nil => intro o w; rfl
  | cons v vs ih => intro o w; rw [World.setCells, ih]; simp [World.setCell]

theorem same_setCells (g : Nat) : ∀ (vs : List Value) (o : Nat) (w : World), (w.setCells g o vs).os = w.os ∧ (w.setCells g o vs).tape = w.tape ∧ (w.setCells g o vs).output = w.output := by
  intro vs
  induction vs with
  | nil => intro o w; exact ⟨rfl, rfl, rfl⟩
  | cons v vs ih => intro o w; rw [World.setCells]; exact ih _ _

/-- vs laid over cs, from o on. -/
def splice {α : Type} (cs : List α) (o : Nat) (vs : List α) : List α := cs.take o ++ vs ++ cs.drop (o + vs.length)

theorem splice_length {α : Type} (cs vs : List α) (o : Nat) (h : o + vs.length ≤ cs.length) : (splice cs o vs).length = cs.length := by
  simp [splice]; omega

theorem splice_nil {α : Type} (cs : List α) (o : Nat) : splice cs o [] = cs := by simp [splice]

theorem splice_cons {α : Type} (cs vs : List α) (o : Nat) (v : α) (h : o < cs.length) : splice (cs.set o v) (o + 1) vs = splice cs o (v :: vs) := by
  unfold splice
  have h1 : (cs.set o v).take (o + 1) = cs.take o ++ [v] := by
    rw [List.take_set, List.take_succ_eq_append_getElem h, List.set_append]
    simp [Nat.min_eq_left (Nat.le_of_lt h)]
  have h2 : (cs.set o v).drop (o + 1 + vs.length) = cs.drop (o + (vs.length + 1)) := by
    rw [List.drop_set, if_pos (by omega)]
    congr 1; omega
  rw [h1, h2]
  simp

theorem splice_get {α : Type} (cs vs : List α) (o j : Nat) (h : o + vs.length ≤ cs.length) : (splice cs o vs)[j]? = if o ≤ j ∧ j < o + vs.length then vs[j - o]? else cs[j]? := by
  unfold splice
  rw [List.append_assoc]
  by_cases h1 : j < o
  · rw [List.getElem?_append_left (by simp; omega), if_neg (by omega)]
    simp [h1]
  · rw [List.getElem?_append_right (by simp; omega)]
    have e : (cs.take o).length = o := by simp; omega
    rw [e]
    by_cases h2 : j < o + vs.length
    · rw [if_pos ⟨by omega, h2⟩, List.getElem?_append_left (by omega)]
    · rw [if_neg (by omega), List.getElem?_append_right (by omega), List.getElem?_drop]
      congr 1; omega

theorem splice_map {α β : Type} (f : α → β) (cs vs : List α) (o : Nat) : (splice cs o vs).map f = splice (cs.map f) o (vs.map f) := by
  simp [splice]

theorem splice_take {α : Type} (cs vs : List α) (o n : Nat) (h : o + vs.length ≤ n) (hn : n ≤ cs.length) : (splice cs o vs).take n = splice (cs.take n) o vs := by
  apply List.ext_getElem?
  intro j
  rw [splice_get _ _ _ _ (by simp; omega)]
  by_cases hj : j < n
  · rw [List.getElem?_take_of_lt hj, splice_get _ _ _ _ (by omega), List.getElem?_take_of_lt hj]
  · rw [List.getElem?_take, if_neg hj, List.getElem?_take, if_neg hj, if_neg (by omega)]

theorem Blk.sets (g : Nat) : ∀ (vs : List Value) (o : Nat) (w : World) (cs : List Value), Blk w g cs → o + vs.length ≤ cs.length → Blk (w.setCells g o vs) g (splice cs o vs) := by
  intro vs
  induction vs with
  | nil => intro o w cs h _; rw [splice_nil]; exact h
  | cons v vs ih =>
    intro o w cs h hl
    simp at hl
    rw [World.setCells, ← splice_cons cs vs o v (by omega)]
    exact ih (o + 1) _ _ (h.set o v) (by simp; omega)

theorem Blk.range (h : Blk w g cs) (o n : Nat) : w.rangeAt g o ((cs.drop o).take n) := fun j v hv => by
  rw [h.cell]
  rw [List.getElem?_take] at hv
  split at hv
  · rwa [List.getElem?_drop] at hv
  · cases hv

theorem Blk.there (h : Blk w g cs) (o n : Nat) (ho : o + n ≤ cs.length) : w.there g o n := fun j hj => by
  refine ⟨?_, h.frozen _⟩
  rw [h.cell, List.getElem?_eq_getElem (by omega)]; rfl

end

/-- A slice of n elements that is its owner's: a window onto a block. -/
def Win (w : World) (size : Nat) (v : Value) (n : Nat) (xs : List Value) : Prop :=
  xs.length = n * size ∧ ((v = .slice none 0 0 ∧ n = 0) ∨ ∃ g o cap cs, v = .slice (some ⟨g, o, none⟩) n cap ∧ Blk w g cs ∧ n ≤ cap ∧ cap ≤ maxLen ∧ o + cap * size ≤ cs.length ∧ (cs.drop o).take (n * size) = xs)

/-- The same at a block's head. -/
def Row (w : World) (size g cap n : Nat) (xs : List Value) : Prop :=
  xs.length = n * size ∧ n ≤ cap ∧ cap ≤ maxLen ∧ ∃ cs, Blk w g cs ∧ cap * size ≤ cs.length ∧ cs.take (n * size) = xs

section
variable {w w' : World} {size g cap n : Nat} {v : Value} {xs : List Value}

theorem win_nil (w : World) (size : Nat) : Win w size (.slice none 0 0) 0 [] := ⟨by simp, .inl ⟨rfl, rfl⟩⟩

theorem Win.same (h : Win w size v n xs) (e : ∀ g, v.ownBlock = some g → w'.heap[g]? = w.heap[g]?) : Win w' size v n xs := by
  refine ⟨h.1, ?_⟩
  rcases h.2 with h | ⟨g, o, cap, cs, rfl, hb, r⟩
  · exact .inl h
  · exact .inr ⟨g, o, cap, cs, rfl, hb.same (e g rfl), r⟩

theorem Win.lt (h : Win w size v n xs) : ∀ g, v.ownBlock = some g → g < w.heap.size := by
  intro g hg
  rcases h.2 with ⟨rfl, _⟩ | ⟨g', o, cap, cs, rfl, hb, r⟩
  · simp [Value.ownBlock] at hg
  · simp [Value.ownBlock] at hg; subst hg; exact hb.lt

theorem Win.later (h : Win w size v n xs) (e : Below w.heap.size w w') : Win w' size v n xs := h.same fun g hg => e.block g (h.lt g hg)

theorem Row.same (h : Row w size g cap n xs) (e : w'.heap[g]? = w.heap[g]?) : Row w' size g cap n xs := by
  obtain ⟨h1, h2, h3, cs, h4, h5⟩ := h
  exact ⟨h1, h2, h3, cs, h4.same e, h5⟩

theorem Row.lt (h : Row w size g cap n xs) : g < w.heap.size := by
  obtain ⟨h1, h2, h3, cs, h4, h5⟩ := h
  exact h4.lt

theorem Row.later (h : Row w size g cap n xs) (e : Below w.heap.size w w') : Row w' size g cap n xs := h.same (e.block g h.lt)

theorem Row.range (h : Row w size g cap n xs) (o k : Nat) : w.rangeAt g o ((xs.drop o).take k) := by
  obtain ⟨h1, h2, h3, cs, h4, h5, rfl⟩ := h
  intro j v hv
  have := h4.cell (o + j)
  rw [this]
  rw [List.getElem?_take] at hv
  split at hv
  · rw [List.getElem?_drop, List.getElem?_take] at hv
    split at hv
    · exact hv
    · cases hv
  · cases hv

theorem Row.there (h : Row w size g cap n xs) (o k : Nat) (ho : o + k ≤ n * size) : w.there g o k := by
  obtain ⟨h1, h2, h3, cs, h4, h5, rfl⟩ := h
  refine h4.there o k ?_
  have : n * size ≤ cap * size := Nat.mul_le_mul_right _ h2
  omega

theorem Row.cell (h : Row w size g cap n xs) (j : Nat) (hj : j < n * size) : w.cell? ⟨g, j, none⟩ = xs[j]? := by
  obtain ⟨h1, h2, h3, cs, h4, h5, rfl⟩ := h
  rw [h4.cell, List.getElem?_take_of_lt hj]

theorem Row.frozen (h : Row w size g cap n xs) (j : Nat) : w.frozen? ⟨g, j, none⟩ = false := by
  obtain ⟨h1, h2, h3, cs, h4, h5, rfl⟩ := h
  exact h4.frozen j

theorem Row.sets (h : Row w size g cap n xs) (o : Nat) (vs : List Value) (ho : o + vs.length ≤ n * size) : Row (w.setCells g o vs) size g cap n (splice xs o vs) := by
  obtain ⟨h1, h2, h3, cs, h4, h5, rfl⟩ := h
  have : n * size ≤ cap * size := Nat.mul_le_mul_right _ h2
  refine ⟨by rw [splice_length _ _ _ (by omega)]; exact h1, h2, h3, splice cs o vs, Blk.sets g vs o w cs h4 (by omega), by rw [splice_length _ _ _ (by omega)]; exact h5, ?_⟩
  rw [splice_take _ _ _ _ ho (by omega)]

theorem Row.set (h : Row w size g cap n xs) (j : Nat) (v : Value) : Row (w.setCell ⟨g, j, none⟩ v) size g cap n (xs.set j v) := by
  obtain ⟨h1, h2, h3, cs, h4, h5, rfl⟩ := h
  exact ⟨by simpa using h1, h2, h3, cs.set j v, h4.set j v, by simpa using h5, by rw [List.take_set]⟩

theorem win_of_owns {base : Nat} {e : TypeId} (h : w.ownsRow base e size v n xs) : Win w size v n xs := by
  refine ⟨h.1, ?_⟩
  rcases h.2 with h | ⟨g, cap, cur, rfl, hb, hg, hn, hm, hs, ht⟩
  · exact .inl h
  · exact .inr ⟨g, 0, cap, cur.toList, rfl, ⟨e, by simpa using hg⟩, hn, hm, by simp [hs], by simpa using ht⟩

theorem row_of_owns {base : Nat} {e : TypeId} (h : w.ownsRow base e size (.slice (some ⟨g, 0, none⟩) n cap) n xs) : Row w size g cap n xs := by
  refine ⟨h.1, ?_⟩
  rcases h.2 with ⟨h, _⟩ | ⟨g', cap', cur, hv, hb, hg, hn, hm, hs, ht⟩
  · cases h
  · simp only [Value.slice.injEq, Option.some.injEq, Addr.mk.injEq, and_true, true_and] at hv
    obtain ⟨rfl, rfl⟩ := hv
    exact ⟨hn, hm, cur.toList, ⟨e, by simpa using hg⟩, by simp [hs], ht⟩

theorem win_of_row (h : Row w size g cap n xs) : Win w size (.slice (some ⟨g, 0, none⟩) n cap) n xs := by
  obtain ⟨h1, h2, h3, cs, h4, h5, h6⟩ := h
  exact ⟨h1, .inr ⟨g, 0, cap, cs, rfl, h4, h2, h3, by simpa using h5, by simpa using h6⟩⟩

end

/-- append onto a window, of cells that lie somewhere. -/
theorem win_append {P : Program} (w : World) (t ty e : TypeId) (i : TypeInfo) (z : Value) (size bytes : Nat) (ht : P.underlying t = some (.slice e)) (hi : P.info? e = some i) (hz : i.zero = some z)
    (hsize : i.size = size) (hby : i.bytes = bytes) (hzs : z.cells.size = size) (hsz : 0 < size)
    (v : Value) (n : Nat) (xs : List Value) (hwin : Win w size v n xs)
    (a : Option Addr) (m c : Nat) (news : List Value) (hl : news.length = m * size) (hsrc : (∃ ad, a = some ad ∧ ∀ j u, news[j]? = some u → w.cell? (ad.add j) = some u) ∨ m = 0) (h1 : ∀ u ∈ news, u.oneCell' = true)
    (h63 : n + m ≤ maxLen) (hbytes : (n + m) * bytes ≤ 140737488355328) :
    ∃ v' w', (Builtin.append_ #[t, t] ty #[v, .slice a m c]).run P w = .ok v' w' ∧ Win w' size v' (n + m) (xs ++ news) ∧ w.grownBy w' v.ownBlock ∧ (v'.ownBlock = v.ownBlock ∨ v'.ownBlock = some w.heap.size) := by
  subst hsize
  subst hby
  by_cases hm0 : m = 0
  · subst hm0
    have hn : news = [] := List.eq_nil_of_length_eq_zero (by simpa using hl)
    subst hn
    refine ⟨v, w, ?_, by simpa using hwin, ⟨rfl, rfl, rfl, Nat.le_refl _, fun _ _ _ => rfl⟩, .inl rfl⟩
    have hld : ∀ x : Addr, (loadCells x 0).run P w = .ok #[] w := fun x => by simpa using run_loadCells_list (P := P) w x [] (by simp)
    rcases hwin.2 with ⟨rfl, rfl⟩ | ⟨g, o, cap, cs, rfl, hb, hn, hcm, hcap, hxs⟩
    · cases a <;> simp [Builtin.append_, run_underlying ht, sizeOf, typeInfo, hi, Builtin.lenOf, Builtin.firstCells, hld]
    · cases a <;> simp [Builtin.append_, run_underlying ht, sizeOf, typeInfo, hi, Builtin.lenOf, Builtin.firstCells, hn, storeCells, hld]
  rcases hsrc with ⟨ad, rfl, hnews⟩ | h0
  case inr => exact absurd h0 hm0
  have hsmall : n + m ≤ 9223372036854775807 := by simp only [maxLen] at h63; omega
  rcases hwin.2 with ⟨rfl, rfl⟩ | ⟨g, o, cap, cs, rfl, hb, hn, hcm, hcap, hxs⟩
  · have hx : xs = [] := List.eq_nil_of_length_eq_zero (by simpa using hwin.1)
    subst hx
    obtain ⟨v', w', r1, r2, r3, _⟩ := run_append_own (P := P) w w.heap.size t ty e i z i.size i.bytes ht hi hz rfl rfl hzs hsz (.slice none 0 0) 0 [] (World.ownsRow_nil _ _ _ _) ad m c news hl hnews h1 h63 hbytes (Nat.le_refl _)
    refine ⟨v', w', r1, win_of_owns r2, r3, ?_⟩
    have hr := run_append_nil (P := P) w t ty e i z ht hi hz ad m c news hl hnews (by omega) (by omega) (by have hb := hbytes; simp only [Nat.zero_add] at hb; omega)
    rw [hr] at r1
    injection r1 with e1 e2
    subst e1
    exact .inr rfl
  · have hcell : ∀ j u, xs[j]? = some u → w.cell? ⟨g, o + j, none⟩ = some u := by
      intro j u hu
      rw [← hxs] at hu
      exact hb.range o _ j u hu
    by_cases hroom : n + m ≤ cap
    · have hfit : (n + m) * i.size ≤ cap * i.size := Nat.mul_le_mul_right _ hroom
      rw [Nat.add_mul] at hfit
      have hth := hb.there (o + n * i.size) news.length (by rw [hl]; omega)
      have hr := run_append_room_cells (P := P) w t ty e i ht hi g o n cap ad m c news hl hnews h1 hroom (fun j hj => (hth j hj).1) (fun j hj => (hth j hj).2)
      refine ⟨_, _, hr, ⟨by rw [List.length_append, hwin.1, hl, Nat.add_mul], .inr ⟨g, o, cap, _, rfl, Blk.sets g news (o + n * i.size) w cs hb (by rw [hl]; omega), hroom, hcm, ?_, ?_⟩⟩, ⟨?_, ?_, ?_, by rw [size_setCells]; exact Nat.le_refl _, ?_⟩, .inl rfl⟩
      · rw [splice_length _ _ _ (by rw [hl]; omega)]; exact hcap
      · apply List.ext_getElem?
        intro j
        rw [List.getElem?_take, List.getElem?_drop, splice_get _ _ _ _ (by rw [hl]; omega), Nat.add_mul, ← hxs, hl]
        have hxl : ((cs.drop o).take (n * i.size)).length = n * i.size := by rw [hxs]; exact hwin.1
        by_cases hj : j < n * i.size
        · rw [if_pos (by omega), if_neg (by omega), List.getElem?_append_left (by omega), List.getElem?_take_of_lt hj, List.getElem?_drop]
        · rw [List.getElem?_append_right (by omega), hxl]
          by_cases hj2 : j < n * i.size + m * i.size
          · rw [if_pos hj2, if_pos (by omega)]
            congr 1; omega
          · rw [if_neg hj2, List.getElem?_eq_none (by omega)]
      · exact (same_setCells g _ _ _).1
      · exact (same_setCells g _ _ _).2.1
      · exact (same_setCells g _ _ _).2.2
      · intro k hk hne; exact heap_setCells_other k g (fun e => hne (by simp [Value.ownBlock, e])) _ _ _
    · have hr := run_append_arg_grows (P := P) w t ty e i z i.size i.bytes ht hi hz rfl rfl hzs hsz ⟨g, o, none⟩ n cap xs hwin.1 (fun j u hu => by rw [add_at]; exact hcell j u hu) ad m c news hl hnews (by omega) h63 hbytes
      have hr2 := run_append_grow (P := P) w t ty e i z ht hi hz ⟨g, o, none⟩ n cap xs hwin.1 (fun j u hu => by rw [add_at]; exact hcell j u hu) ad m c news hl hnews (by omega) (by omega) (growslice_fits (by omega) hbytes)
      obtain ⟨v', w', r1, r2, r3⟩ := hr
      refine ⟨v', w', r1, win_of_owns r2, ⟨r3.os, r3.tape, r3.output, r3.size, fun k hk _ => r3.block k hk (by simp)⟩, ?_⟩
      rw [hr2] at r1
      injection r1 with e1 e2
      subst e1
      exact .inr rfl

end Go.Proofs.YtafkkehcacdodaaGreat

namespace Go.Proofs.YtafkkehcacdodaaGreat
open Go.RowKit

abbrev bytesV (l : List Int) : List Value := l.map (Value.int .u8)

/-- A disk in numbers. -/
structure St where
  n : Nat
  sure : List Int
  now : List Int
  since : List (Nat × List Int)
  outs : List Int
  ops : Nat

/-- What Writes make of bytes. -/
def lays (l : List Int) (ws : List (Nat × List Int)) : List Int := ws.foldl (fun l x => splice l (x.1 * 64) x.2) l

structure St.Ok (s : St) : Prop where
  n1 : 1 ≤ s.n
  n2 : s.n ≤ 4096
  sl : s.sure.length = s.n * 64
  nl : s.now.length = s.n * 64
  sb : isBytes s.sure
  nb : isBytes s.now
  ob : isBytes s.outs
  wr : ∀ x ∈ s.since, x.1 < s.n ∧ x.2.length = 64 ∧ isBytes x.2
  eq : s.now = lays s.sure s.since

def St.out (s : St) : Int := s.outs.headD 0
def St.take (s : St) : St := { s with outs := s.outs.tail, ops := s.ops + 1 }
def doneB (c : Int) : Bool := decide (c % 3 ≠ 1)
def errC (c : Int) : Int := if c % 3 = 0 then 0 else 8
def St.wrote (s : St) (k : Nat) (l : List Int) : St := { s with now := splice s.now (k * 64) l, since := s.since ++ [(k, l)] }
def St.write (s : St) (k : Nat) (l : List Int) : St := if doneB s.out then s.take.wrote k l else s.take
def St.settled (s : St) : St := { s with sure := s.now, since := [] }
def St.sync (s : St) : St := if doneB s.out then s.take.settled else s.take
def St.add (s : St) (l : List Int) : St := { s with outs := s.outs ++ l }
def leftN (ch : List Int) (i : Nat) : Nat := if ch.getD i 0 % 3 = 0 then 64 else if ch.getD i 0 % 3 = 1 then 0 else min (ch.getD i 0 / 3).toNat 64
def torn (ch l : List Int) (ws : List (Nat × List Int)) : Nat → List Int
  | 0 => l
  | k + 1 => splice (torn ch l ws k) ((ws.getD k (0, [])).1 * 64) ((ws.getD k (0, [])).2.take (leftN ch k))
def St.crash (s : St) (ch : List Int) : St := ⟨s.n, torn ch s.sure s.since s.since.length, torn ch s.sure s.since s.since.length, [], [], 0⟩
def zeros (n : Nat) : List Int := List.replicate n 0
def St.new (n : Nat) : St := ⟨n, zeros (n * 64), zeros (n * 64), [], [], 0⟩

theorem isBytes_nil : isBytes [] := fun _ h => by cases h

theorem isBytes_splice {l b : List Int} {o : Nat} (h : isBytes l) (hb : isBytes b) : isBytes (splice l o b) := by
  intro z hz
  simp only [splice, List.mem_append] at hz
  rcases hz with (hz | hz) | hz
  · exact h z (List.mem_of_mem_take hz)
  · exact hb z hz
  · exact h z (List.mem_of_mem_drop hz)

theorem lays_snoc (l : List Int) (ws : List (Nat × List Int)) (x : Nat × List Int) : lays l (ws ++ [x]) = splice (lays l ws) (x.1 * 64) x.2 := by simp [lays]

theorem St.out_byte {s : St} (h : isBytes s.outs) : 0 ≤ s.out ∧ s.out < 256 := by
  unfold St.out
  cases hs : s.outs with
  | nil => simp
  | cons c l => exact h c (by simp [hs])

theorem St.Ok.take {s : St} (h : s.Ok) : s.take.Ok :=
  ⟨h.n1, h.n2, h.sl, h.nl, h.sb, h.nb, fun z hz => h.ob z (List.mem_of_mem_tail hz), h.wr, h.eq⟩

theorem St.Ok.add {s : St} (h : s.Ok) {l : List Int} (hl : isBytes l) : (s.add l).Ok :=
  ⟨h.n1, h.n2, h.sl, h.nl, h.sb, h.nb, fun z hz => by
    simp only [St.add, List.mem_append] at hz
    rcases hz with hz | hz
    · exact h.ob z hz
    · exact hl z hz, h.wr, h.eq⟩

theorem St.Ok.wrote {s : St} (h : s.Ok) {k : Nat} {l : List Int} (hk : k < s.n) (hl : l.length = 64) (hb : isBytes l) : (s.wrote k l).Ok := by
  refine ⟨h.n1, h.n2, h.sl, ?_, h.sb, isBytes_splice h.nb hb, h.ob, ?_, ?_⟩
  · show (splice _ _ _).length = _
    rw [splice_length _ _ _ (by rw [h.nl, hl]; omega)]; exact h.nl
  · intro x hx
    simp only [St.wrote, List.mem_append, List.mem_singleton] at hx
    rcases hx with hx | rfl
    · exact h.wr x hx
    · exact ⟨hk, hl, hb⟩
  · show splice s.now _ _ = lays s.sure (s.since ++ [(k, l)])
    rw [lays_snoc, ← h.eq]

theorem St.Ok.settled {s : St} (h : s.Ok) : s.settled.Ok :=
  ⟨h.n1, h.n2, h.nl, h.nl, h.nb, h.nb, h.ob, (fun x hx => by cases hx), rfl⟩

theorem leftN_le (ch : List Int) (i : Nat) : leftN ch i ≤ 64 := by
  unfold leftN; split
  · exact Nat.le_refl _
  · split
    · omega
    · exact Nat.min_le_right _ _

theorem wr_at {s : St} (h : s.Ok) (k : Nat) (hk : k < s.since.length) : (s.since.getD k (0, [])).1 < s.n ∧ (s.since.getD k (0, [])).2.length = 64 ∧ isBytes (s.since.getD k (0, [])).2 := by
  rw [List.getD_eq_getElem?_getD, List.getElem?_eq_getElem hk]
  exact h.wr _ (List.getElem_mem hk)

theorem torn_len {s : St} (h : s.Ok) (ch : List Int) : ∀ k, k ≤ s.since.length → (torn ch s.sure s.since k).length = s.n * 64 ∧ isBytes (torn ch s.sure s.since k) := by
  intro k
  induction k with
  | zero => intro _; exact ⟨h.sl, h.sb⟩
  | succ k ih =>
    intro hk
    obtain ⟨h1, h2⟩ := ih (by omega)
    obtain ⟨w1, w2, w3⟩ := wr_at h k (by omega)
    have hle := leftN_le ch k
    refine ⟨?_, isBytes_splice h2 (isBytes_take w3 _)⟩
    show (splice _ _ _).length = _
    rw [splice_length _ _ _ (by rw [h1, List.length_take, w2]; omega)]; exact h1

theorem lays_len {s : St} (h : s.Ok) : ∀ k, k ≤ s.since.length → (lays s.sure (s.since.take k)).length = s.n * 64 := by
  intro k
  induction k with
  | zero => intro _; simpa [lays] using h.sl
  | succ k ih =>
    intro hk
    have h1 := ih (by omega)
    obtain ⟨w1, w2, w3⟩ := h.wr _ (List.getElem_mem (show k < s.since.length by omega))
    rw [List.take_succ_eq_append_getElem (by omega), lays_snoc, splice_length _ _ _ (by rw [h1, w2]; omega)]
    exact h1

theorem St.Ok.crash {s : St} (h : s.Ok) (ch : List Int) : (s.crash ch).Ok := by
  obtain ⟨h1, h2⟩ := torn_len h ch s.since.length (Nat.le_refl _)
  exact ⟨h.n1, h.n2, h1, h1, h2, h2, isBytes_nil, (fun x hx => by cases hx), rfl⟩

theorem isBytes_zeros (n : Nat) : isBytes (zeros n) := fun z hz => by
  rw [List.eq_of_mem_replicate hz]; decide

theorem St.ok_new {n : Nat} (h1 : 1 ≤ n) (h2 : n ≤ 4096) : (St.new n).Ok :=
  ⟨h1, h2, by simp [St.new, zeros], by simp [St.new, zeros], isBytes_zeros _, isBytes_zeros _, isBytes_nil, (fun x hx => by cases hx), rfl⟩

/-- The cells of Writes: a place and 64 bytes each. -/
def wcell (x : Nat × List Int) : List Value := .int .i64 x.1 :: bytesV x.2
def wcells (ws : List (Nat × List Int)) : List Value := ws.flatMap wcell

theorem wcells_snoc (ws : List (Nat × List Int)) (x : Nat × List Int) : wcells (ws ++ [x]) = wcells ws ++ wcell x := by simp [wcells]

theorem wcells_len {ws : List (Nat × List Int)} (h : ∀ x ∈ ws, x.2.length = 64) : (wcells ws).length = ws.length * 65 := by
  induction ws with
  | nil => rfl
  | cons x r ih =>
    have := ih (fun y hy => h y (by simp [hy]))
    have h1 := h x (by simp)
    simp only [wcells, List.flatMap_cons, List.length_append, List.length_cons] at this ⊢
    rw [this]
    simp [wcell, h1]; omega

theorem wcells_at {ws : List (Nat × List Int)} (h : ∀ x ∈ ws, x.2.length = 64) (k : Nat) (hk : k < ws.length) : ((wcells ws).drop (k * 65)).take 65 = wcell (ws.getD k (0, [])) := by
  induction ws generalizing k with
  | nil => simp at hk
  | cons x r ih =>
    have h1 := h x (by simp)
    have hl : (wcell x).length = 65 := by simp [wcell, h1]
    have e : wcells (x :: r) = wcell x ++ wcells r := by simp [wcells]
    rw [e]
    cases k with
    | zero => simp [← hl]
    | succ k =>
      have := ih (fun y hy => h y (by simp [hy])) k (by simpa using hk)
      rw [show (k + 1) * 65 = (wcell x).length + k * 65 by omega, List.drop_append, List.drop_of_length_le (by omega)]
      simpa using this

theorem ones_bytes (l : List Int) : ∀ v ∈ bytesV l, v.oneCell' = true := ones_cell l

/-- Which block is whose. -/
structure Step (tag tag' : Nat → Nat) (base o : Nat) (w w' : World) : Prop where
  below : Below base w w'
  tags : ∀ k, k < w.heap.size → tag' k = tag k
  kept : ∀ k, k < w.heap.size → tag k / 16 ≠ o → w'.heap[k]? = w.heap[k]?

section
variable {tag tag' tag'' : Nat → Nat} {base o : Nat} {w w' w'' : World}

theorem Step.refl (tag : Nat → Nat) (base o : Nat) (w : World) : Step tag tag base o w w := ⟨Below.refl _ _, fun _ _ => rfl, fun _ _ _ => rfl⟩

theorem Step.trans (h : Step tag tag' base o w w') (k : Step tag' tag'' base o w' w'') : Step tag tag'' base o w w'' := by
  have hs := h.below.size
  exact ⟨h.below.trans k.below, fun i hi => (k.tags i (by omega)).trans (h.tags i hi), fun i hi hne => (k.kept i (by omega) (by rw [h.tags i hi]; exact hne)).trans (h.kept i hi hne)⟩

theorem step_below (tag : Nat → Nat) (base o : Nat) (hb : base ≤ w.heap.size) (h : Below w.heap.size w w') : Step tag tag base o w w' :=
  ⟨h.mono hb, fun _ _ => rfl, fun k hk _ => h.block k hk⟩

theorem step_drew (tag : Nat → Nat) (base o : Nat) (w : World) (n : Nat) : Step tag tag base o w (w.drewN n) := ⟨⟨rfl, rfl, rfl, Nat.le_refl _, fun _ _ => rfl⟩, fun _ _ => rfl, fun _ _ _ => rfl⟩

theorem Step.alloc (h : Step tag tag' base o w w') (hb : base ≤ w'.heap.size) (ob : Obj) : Step tag tag' base o w (w'.alloc ob) :=
  h.trans (step_below tag' base o hb ((Below.refl _ _).alloc (Nat.le_refl _) _))

theorem step_set (tag : Nat → Nat) (base o : Nat) (w : World) {g : Nat} (hg : base ≤ g) (ht : tag g / 16 = o) (j : Nat) (v : Value) : Step tag tag base o w (w.setCell ⟨g, j, none⟩ v) :=
  ⟨(Below.refl _ _).setCell hg v, fun _ _ => rfl, fun k hk hne => heap_setCell_other w ⟨g, j, none⟩ k v (fun e => hne (by rw [e]; exact ht))⟩

theorem Step.set (h : Step tag tag' base o w w') {g : Nat} (hg : base ≤ g) (ht : tag' g / 16 = o) (j : Nat) (v : Value) : Step tag tag' base o w (w'.setCell ⟨g, j, none⟩ v) :=
  h.trans (step_set tag' base o w' hg ht j v)

theorem below_setCells {base : Nat} {w : World} (g : Nat) (hg : base ≤ g) : ∀ (vs : List Value) (j : Nat), Below base w (w.setCells g j vs) := by
  intro vs j
  obtain ⟨a, b, c⟩ := same_setCells g vs j w
  exact ⟨a, b, c, by rw [size_setCells]; exact Nat.le_refl _, fun k hk => heap_setCells_other k g (by omega) vs j w⟩

theorem Step.sets (h : Step tag tag' base o w w') {g : Nat} (hg : base ≤ g) (ht : tag' g / 16 = o) (j : Nat) (vs : List Value) : Step tag tag' base o w (w'.setCells g j vs) :=
  h.trans ⟨below_setCells g hg vs j, fun _ _ => rfl, fun k hk hne => heap_setCells_other k g (fun e => hne (by rw [e]; exact ht)) vs j w'⟩

theorem Step.drewN (h : Step tag tag' base o w w') (n : Nat) : Step tag tag' base o w (w'.drewN n) := h.trans (step_drew tag' base o w' n)

/-- A tag for the block of a value. -/
def retag (tag : Nat → Nat) (v : Value) (T : Nat) : Nat → Nat := fun k => if v.ownBlock = some k then T else tag k

/-- Behind an append onto what is o's own, in field T: the new value's block is tagged. -/
theorem step_grown {T : Nat} {v v' : Value} (hg : w.grownBy w' v.ownBlock) (hat : v'.ownBlock = v.ownBlock ∨ v'.ownBlock = some w.heap.size) (hv : ∀ g, v.ownBlock = some g → tag g = T ∧ base ≤ g) (hT : T / 16 = o) (hb : base ≤ w.heap.size) :
    Step tag (retag tag v' T) base o w w' ∧ (∀ g, v'.ownBlock = some g → retag tag v' T g = T ∧ base ≤ g) := by
  refine ⟨⟨(Below.refl _ _).grown hg hb (fun k hk => (hv k hk).2), ?_, ?_⟩, ?_⟩
  · intro k hk
    unfold retag
    split
    · rename_i h
      rcases hat with e | e
      · rw [e] at h; exact (hv k h).1.symm
      · rw [e] at h; simp at h; omega
    · rfl
  · intro k hk hne
    refine hg.block k hk (fun e => ?_)
    exact hne (by rw [(hv k e.symm).1]; exact hT)
  · intro g hg'
    refine ⟨by simp [retag, hg'], ?_⟩
    rcases hat with e | e
    · rw [e] at hg'; exact (hv g hg').2
    · rw [e] at hg'; simp at hg'; omega

end

/-- Where a disk of the program lies. -/
structure PL where
  D : Nat
  Q : Nat
  C : Nat
  L : Nat
  cC : Nat
  cL : Nat
  wv : Value
  uv : Value

/-- A disk of the program, in memory that is o's. -/
structure PD (w : World) (tag : Nat → Nat) (base o : Nat) (s : St) (p : PL) : Prop where
  bD : Blk w p.D [.pointer (some ⟨p.Q, 0, none⟩), .func (.func 67) #[.pointer (some ⟨p.Q, 0, none⟩)] #[], .slice (some ⟨p.C, 0, none⟩) s.n p.cC, .slice (some ⟨p.L, 0, none⟩) s.n p.cL, p.uv]
  bQ : Blk w p.Q [p.wv, .int .i64 s.ops]
  rC : Row w 64 p.C p.cC s.n (bytesV s.sure)
  rL : Row w 64 p.L p.cL s.n (bytesV s.now)
  wW : Win w 1 p.wv s.outs.length (bytesV s.outs)
  wU : Win w 65 p.uv s.since.length (wcells s.since)
  tD : tag p.D = 16 * o + 1 ∧ base ≤ p.D
  tQ : tag p.Q = 16 * o + 2 ∧ base ≤ p.Q
  tC : tag p.C = 16 * o + 3 ∧ base ≤ p.C
  tL : tag p.L = 16 * o + 4 ∧ base ≤ p.L
  tW : ∀ g, p.wv.ownBlock = some g → tag g = 16 * o + 5 ∧ base ≤ g
  tU : ∀ g, p.uv.ownBlock = some g → tag g = 16 * o + 6 ∧ base ≤ g
  ok : s.Ok

theorem PD.keep {w w' : World} {tag tag' : Nat → Nat} {base o : Nat} {s : St} {p : PL} (h : PD w tag base o s p) (hk : ∀ k, k < w.heap.size → tag k / 16 = o → w'.heap[k]? = w.heap[k]?) (ht : ∀ k, k < w.heap.size → tag' k = tag k) : PD w' tag' base o s p :=
  ⟨h.bD.same (hk _ h.bD.lt (by have := h.tD.1; omega)), h.bQ.same (hk _ h.bQ.lt (by have := h.tQ.1; omega)), h.rC.same (hk _ h.rC.lt (by have := h.tC.1; omega)), h.rL.same (hk _ h.rL.lt (by have := h.tL.1; omega)),
    h.wW.same (fun g hg => hk g (h.wW.lt g hg) (by have := (h.tW g hg).1; omega)), h.wU.same (fun g hg => hk g (h.wU.lt g hg) (by have := (h.tU g hg).1; omega)),
    ⟨by rw [ht _ h.bD.lt]; exact h.tD.1, h.tD.2⟩, ⟨by rw [ht _ h.bQ.lt]; exact h.tQ.1, h.tQ.2⟩, ⟨by rw [ht _ h.rC.lt]; exact h.tC.1, h.tC.2⟩, ⟨by rw [ht _ h.rL.lt]; exact h.tL.1, h.tL.2⟩,
    fun g hg => ⟨by rw [ht _ (h.wW.lt g hg)]; exact (h.tW g hg).1, (h.tW g hg).2⟩, fun g hg => ⟨by rw [ht _ (h.wU.lt g hg)]; exact (h.tU g hg).1, (h.tU g hg).2⟩, h.ok⟩

theorem PD.later {w w' : World} {tag : Nat → Nat} {base o : Nat} {s : St} {p : PL} (h : PD w tag base o s p) (hb : Below w.heap.size w w') : PD w' tag base o s p :=
  h.keep (fun k hk _ => hb.block k hk) (fun _ _ => rfl)

theorem PD.other {w w' : World} {tag tag' : Nat → Nat} {base o o' : Nat} {s : St} {p : PL} (h : PD w tag base o s p) (hb : Step tag tag' base o' w w') (ho : o ≠ o') : PD w' tag' base o s p :=
  h.keep (fun k hk ht => hb.kept k hk (by rw [ht]; exact ho)) hb.tags

/-- Where a disk of the document lies; of each Write since, its bytes. -/
structure ML where
  M : Nat
  S : Nat
  N : Nat
  cS : Nat
  cN : Nat
  sv : Value
  ov : Value
  bs : List (Nat × Nat)

/-- The cells of the document's Writes: a place and a slice each. -/
def mcell (x : (Nat × List Int) × (Nat × Nat)) : List Value := [.int .i64 x.1.1, .slice (some ⟨x.2.1, 0, none⟩) 64 x.2.2]
def mcells (ws : List (Nat × List Int)) (bs : List (Nat × Nat)) : List Value := (ws.zip bs).flatMap mcell

theorem mcells_snoc (ws : List (Nat × List Int)) (bs : List (Nat × Nat)) (h : ws.length = bs.length) (x : Nat × List Int) (b : Nat × Nat) : mcells (ws ++ [x]) (bs ++ [b]) = mcells ws bs ++ mcell (x, b) := by
  simp [mcells, List.zip_append h]

theorem mcells_len (ws : List (Nat × List Int)) (bs : List (Nat × Nat)) (h : ws.length = bs.length) : (mcells ws bs).length = ws.length * 2 := by
  induction ws generalizing bs with
  | nil => simp [mcells]
  | cons x r ih =>
    cases bs with
    | nil => simp at h
    | cons b bs =>
      have := ih bs (by simpa using h)
      simp only [mcells, List.zip_cons_cons, List.flatMap_cons, List.length_append, List.length_cons] at this ⊢
      rw [this]; simp [mcell]; omega

theorem mcells_at (ws : List (Nat × List Int)) (bs : List (Nat × Nat)) (h : ws.length = bs.length) (k : Nat) (hk : k < ws.length) :
    (mcells ws bs)[2 * k]? = some (.int .i64 (ws.getD k (0, [])).1) ∧ (mcells ws bs)[2 * k + 1]? = some (.slice (some ⟨(bs.getD k (0, 0)).1, 0, none⟩) 64 (bs.getD k (0, 0)).2) := by
  induction ws generalizing bs k with
  | nil => simp at hk
  | cons x r ih =>
    cases bs with
    | nil => simp at h
    | cons b bs =>
      have e : mcells (x :: r) (b :: bs) = mcell (x, b) ++ mcells r bs := by simp [mcells]
      rw [e]
      cases k with
      | zero => simp [mcell]
      | succ k =>
        have := ih bs (by simpa using h) k (by simpa using hk)
        rw [show 2 * (k + 1) = 2 * k + 2 by omega, List.getElem?_append_right (by simp [mcell]), List.getElem?_append_right (by simp [mcell])]
        rw [show 2 * k + 2 - (mcell (x, b)).length = 2 * k by simp [mcell], show 2 * k + 2 + 1 - (mcell (x, b)).length = 2 * k + 1 by simp [mcell]]
        simpa using this

/-- A disk of the document, in memory that is o's. -/
structure MD (w : World) (tag : Nat → Nat) (base o : Nat) (s : St) (p : ML) : Prop where
  bM : Blk w p.M [.int .i64 s.n, .slice (some ⟨p.S, 0, none⟩) (s.n * 64) p.cS, .slice (some ⟨p.N, 0, none⟩) (s.n * 64) p.cN, p.sv, p.ov, .int .i64 s.ops]
  rS : Row w 1 p.S p.cS (s.n * 64) (bytesV s.sure)
  rN : Row w 1 p.N p.cN (s.n * 64) (bytesV s.now)
  wS : Win w 2 p.sv s.since.length (mcells s.since p.bs)
  wO : Win w 1 p.ov s.outs.length (bytesV s.outs)
  lb : s.since.length = p.bs.length
  bB : ∀ k, k < s.since.length → Row w 1 (p.bs.getD k (0, 0)).1 (p.bs.getD k (0, 0)).2 64 (bytesV (s.since.getD k (0, [])).2)
  tM : tag p.M = 16 * o + 1 ∧ base ≤ p.M
  tS : tag p.S = 16 * o + 2 ∧ base ≤ p.S
  tN : tag p.N = 16 * o + 3 ∧ base ≤ p.N
  tV : ∀ g, p.sv.ownBlock = some g → tag g = 16 * o + 4 ∧ base ≤ g
  tO : ∀ g, p.ov.ownBlock = some g → tag g = 16 * o + 5 ∧ base ≤ g
  tB : ∀ k, k < s.since.length → tag (p.bs.getD k (0, 0)).1 = 16 * o + 6 ∧ base ≤ (p.bs.getD k (0, 0)).1
  ok : s.Ok

theorem MD.keep {w w' : World} {tag tag' : Nat → Nat} {base o : Nat} {s : St} {p : ML} (h : MD w tag base o s p) (hk : ∀ k, k < w.heap.size → tag k / 16 = o → w'.heap[k]? = w.heap[k]?) (ht : ∀ k, k < w.heap.size → tag' k = tag k) : MD w' tag' base o s p :=
  ⟨h.bM.same (hk _ h.bM.lt (by have := h.tM.1; omega)), h.rS.same (hk _ h.rS.lt (by have := h.tS.1; omega)), h.rN.same (hk _ h.rN.lt (by have := h.tN.1; omega)),
    h.wS.same (fun g hg => hk g (h.wS.lt g hg) (by have := (h.tV g hg).1; omega)), h.wO.same (fun g hg => hk g (h.wO.lt g hg) (by have := (h.tO g hg).1; omega)), h.lb,
    fun k hk' => (h.bB k hk').same (hk _ (h.bB k hk').lt (by have := (h.tB k hk').1; omega)),
    ⟨by rw [ht _ h.bM.lt]; exact h.tM.1, h.tM.2⟩, ⟨by rw [ht _ h.rS.lt]; exact h.tS.1, h.tS.2⟩, ⟨by rw [ht _ h.rN.lt]; exact h.tN.1, h.tN.2⟩,
    fun g hg => ⟨by rw [ht _ (h.wS.lt g hg)]; exact (h.tV g hg).1, (h.tV g hg).2⟩, fun g hg => ⟨by rw [ht _ (h.wO.lt g hg)]; exact (h.tO g hg).1, (h.tO g hg).2⟩,
    fun k hk' => ⟨by rw [ht _ (h.bB k hk').lt]; exact (h.tB k hk').1, (h.tB k hk').2⟩, h.ok⟩

theorem MD.later {w w' : World} {tag : Nat → Nat} {base o : Nat} {s : St} {p : ML} (h : MD w tag base o s p) (hb : Below w.heap.size w w') : MD w' tag base o s p :=
  h.keep (fun k hk _ => hb.block k hk) (fun _ _ => rfl)

theorem MD.other {w w' : World} {tag tag' : Nat → Nat} {base o o' : Nat} {s : St} {p : ML} (h : MD w tag base o s p) (hb : Step tag tag' base o' w w') (ho : o ≠ o') : MD w' tag' base o s p :=
  h.keep (fun k hk ht => hb.kept k hk (by rw [ht]; exact ho)) hb.tags

end Go.Proofs.YtafkkehcacdodaaGreat

namespace Go.Proofs.YtafkkehcacdodaaGreat
open Go.RowKit

section
variable {w : World} {tag : Nat → Nat} {base o : Nat} {s : St} {p : PL}
theorem PD.d0 (h : PD w tag base o s p) : w.cell? ⟨p.D, 0, none⟩ = some (.pointer (some ⟨p.Q, 0, none⟩)) := h.bD.cell 0
theorem PD.d1 (h : PD w tag base o s p) : w.cell? ⟨p.D, 1, none⟩ = some (.func (.func 67) #[.pointer (some ⟨p.Q, 0, none⟩)] #[]) := h.bD.cell 1
theorem PD.d2 (h : PD w tag base o s p) : w.cell? ⟨p.D, 2, none⟩ = some (.slice (some ⟨p.C, 0, none⟩) s.n p.cC) := h.bD.cell 2
theorem PD.d3 (h : PD w tag base o s p) : w.cell? ⟨p.D, 3, none⟩ = some (.slice (some ⟨p.L, 0, none⟩) s.n p.cL) := h.bD.cell 3
theorem PD.d4 (h : PD w tag base o s p) : w.cell? ⟨p.D, 4, none⟩ = some p.uv := h.bD.cell 4
theorem PD.q0 (h : PD w tag base o s p) : w.cell? ⟨p.Q, 0, none⟩ = some p.wv := h.bQ.cell 0
theorem PD.q1 (h : PD w tag base o s p) : w.cell? ⟨p.Q, 1, none⟩ = some (.int .i64 s.ops) := h.bQ.cell 1
theorem PD.fD (h : PD w tag base o s p) (j : Nat) : w.frozen? ⟨p.D, j, none⟩ = false := h.bD.frozen j
theorem PD.fQ (h : PD w tag base o s p) (j : Nat) : w.frozen? ⟨p.Q, j, none⟩ = false := h.bQ.frozen j
theorem PD.uform (h : PD w tag base o s p) : ∃ a c, p.uv = .slice a s.since.length c ∧ s.since.length ≤ c ∧ c ≤ maxLen := by
  rcases h.wU.2 with ⟨h1, h2⟩ | ⟨g, oo, cap, cs, h1, _, h2, h3, _⟩
  · exact ⟨none, 0, by rw [h1, h2], by omega, by decide⟩
  · exact ⟨_, _, h1, h2, h3⟩
theorem PD.wform (h : PD w tag base o s p) : ∃ a c, p.wv = .slice a s.outs.length c ∧ s.outs.length ≤ c ∧ c ≤ maxLen := by
  rcases h.wW.2 with ⟨h1, h2⟩ | ⟨g, oo, cap, cs, h1, _, h2, h3, _⟩
  · exact ⟨none, 0, by rw [h1, h2], by omega, by decide⟩
  · exact ⟨_, _, h1, h2, h3⟩
end

theorem run_equalIn_func (d : Nat) (w : World) (f : Fn) (a b : Array Value) : (Op.equalIn (d + 1) 97 (.func f a b) .nilFunc).run Tryz.prog w = .ok false w := by
  simp [Op.equalIn, run_underlying Tryz.underlying97]
theorem run_equal_func (w : World) (f : Fn) (a b : Array Value) : (Op.equal 97 (.func f a b) .nilFunc).run Tryz.prog w = .ok false w := run_equalIn_func 9999 w f a b
theorem run_neq_func (w : World) (f : Fn) (a b : Array Value) : (binOp .neq 97 (.func f a b) .nilFunc).run Tryz.prog w = .ok (.bool true) w := by
  simp only [binOp]
  simp [run_equal_func w f a b]

set_option maxHeartbeats 400000 in
theorem made_ok (w : World) (tag : Nat → Nat) (base o : Nat) (s : St) (p : PL) (h : PD w tag base o s p) :
    Calls Tryz.prog 41 #[.pointer (some ⟨p.D, 0, none⟩)] w fun e w' => e = .returned (.bool true) ∧ w' = w := by
  have h1 := h.d1
  clear h
  have hne := run_neq_func
  go_enter Tryz.func41, Tryz.ntmps41
  go_wp2
  go_ret
  exact ⟨rfl, rfl⟩

def hasB (n : Nat) (k : Int) : Bool := decide (0 ≤ k ∧ k < n)

set_option maxHeartbeats 400000 in
theorem has_ok (w : World) (tag : Nat → Nat) (base o : Nat) (s : St) (p : PL) (h : PD w tag base o s p) (k : Int) :
    Calls Tryz.prog 94 #[.pointer (some ⟨p.D, 0, none⟩), .int .i64 k] w fun e w' => e = .returned (.bool (hasB s.n k)) ∧ w' = w := by
  have h1 := h.d3
  clear h
  by_cases h0 : 0 ≤ k
  · go_enter Tryz.func94, Tryz.ntmps94
    go_wp2
    go_ret
    exact ⟨ret_bool (by unfold hasB; simp [h0]), rfl⟩
  · go_enter Tryz.func94, Tryz.ntmps94
    go_wp2
    go_ret
    exact ⟨ret_bool (by unfold hasB; simp; omega), rfl⟩

set_option maxHeartbeats 400000 in
theorem size_ok (w : World) (tag : Nat → Nat) (base o : Nat) (s : St) (p : PL) (h : PD w tag base o s p) :
    Calls Tryz.prog 62 #[.pointer (some ⟨p.D, 0, none⟩)] w fun e w' => e = .returned (.int .i64 s.n) ∧ w' = w := by
  have h1 := h.d3
  go_enter Tryz.func62, Tryz.ntmps62
  go_wp2_with (go_at_call 41; refine (made_ok _ tag base o s p h).mono ?_; rintro e w' ⟨rfl, rfl⟩)
  go_ret
  exact ⟨rfl, rfl⟩

set_option maxHeartbeats 400000 in
theorem ops_ok (w : World) (tag : Nat → Nat) (base o : Nat) (s : St) (p : PL) (h : PD w tag base o s p) :
    Calls Tryz.prog 58 #[.pointer (some ⟨p.D, 0, none⟩)] w fun e w' => e = .returned (.int .i64 s.ops) ∧ w' = w := by
  have h1 := h.d0
  have h2 := h.q1
  go_enter Tryz.func58, Tryz.ntmps58
  go_wp2_with (go_at_call 41; refine (made_ok _ tag base o s p h).mono ?_; rintro e w' ⟨rfl, rfl⟩)
  go_ret
  exact ⟨rfl, rfl⟩

/-- Behind stores into the queue's block: all but the queue is as it was. -/
theorem PD.queue {w w' : World} {tag : Nat → Nat} {base o : Nat} {s : St} {p : PL} (h : PD w tag base o s p) (v : Value) (l : List Int) (n : Nat) (hq : Blk w' p.Q [v, .int .i64 n])
    (hw : Win w 1 v l.length (bytesV l)) (hv : ∀ g, v.ownBlock = some g → tag g = 16 * o + 5 ∧ base ≤ g) (hk : ∀ k, k ≠ p.Q → w'.heap[k]? = w.heap[k]?) (hl : isBytes l) :
    PD w' tag base o { s with outs := l, ops := n } { p with wv := v } := by
  have hne : ∀ {g : Nat} {T : Nat}, tag g = T → T ≠ 16 * o + 2 → w'.heap[g]? = w.heap[g]? := fun {g T} hT hn => hk g (fun e => hn (by rw [← hT, e]; exact h.tQ.1))
  exact ⟨h.bD.same (hne h.tD.1 (by omega)), hq, h.rC.same (hne h.tC.1 (by omega)), h.rL.same (hne h.tL.1 (by omega)), hw.same (fun g hg => hne (hv g hg).1 (by omega)), h.wU.same (fun g hg => hne (h.tU g hg).1 (by omega)),
    h.tD, h.tQ, h.tC, h.tL, hv, h.tU, ⟨h.ok.n1, h.ok.n2, h.ok.sl, h.ok.nl, h.ok.sb, h.ok.nb, hl, h.ok.wr, h.ok.eq⟩⟩

theorem blk_q {w : World} {Q : Nat} {a b c d : Value} (h : Blk w Q [a, b]) : Blk ((w.setCell ⟨Q, 1, none⟩ d).setCell ⟨Q, 0, none⟩ c) Q [c, d] := by
  have := (h.set 1 d).set 0 c
  simpa using this

set_option maxHeartbeats 1000000 in
theorem next_ok (w : World) (tag : Nat → Nat) (base o : Nat) (s : St) (p : PL) (h : PD w tag base o s p) (hops : s.ops ≤ 1000000) (hout : s.outs.length ≤ 1000000) :
    Calls Tryz.prog 67 #[.pointer (some ⟨p.Q, 0, none⟩)] w fun e w' => e = .returned (.int .u8 s.out) ∧ ∃ p', p'.D = p.D ∧ PD w' tag base o s.take p' ∧ Step tag tag base o w w' := by
  have h0 := h.q0
  have h1 := h.q1
  have f0 := h.fQ 0
  have f1 := h.fQ 1
  have HP : Hid (PD w tag base o s p) := h
  cases hs : s.outs with
  | nil =>
    obtain ⟨a, c, e, _, _⟩ := h.wform
    have E : Hid (p.wv = .slice a s.outs.length c) := e
    rw [e, hs] at h0
    have EO : Hid (s.outs = []) := hs
    clear h e hs
    simp only [List.length_nil] at h0
    go_enter Tryz.func67, Tryz.ntmps67
    go_wp2
    go_ret
    refine ⟨by simp [St.out, EO.out], p, rfl, ?_, ?_⟩
    · have := HP.out.queue (w' := w.setCell ⟨p.Q, 1, none⟩ (.int .i64 (s.ops + 1 : Nat))) p.wv [] (s.ops + 1) (by simpa using HP.out.bQ.set 1 (.int .i64 (s.ops + 1 : Nat))) (by have := HP.out.wW; rw [EO.out] at this; exact this) HP.out.tW (fun k hk => heap_setCell_other _ _ k _ hk) isBytes_nil
      simpa [St.take, EO.out] using this
    · exact step_set tag base o w HP.out.tQ.2 (by have := HP.out.tQ.1; omega) 1 _
  | cons c l =>
    rcases h.wW.2 with ⟨_, hz⟩ | ⟨g, oo, cap, cs, hv, hb, hn, hcm, hcap, hx⟩
    · rw [hs] at hz; simp at hz
    have EO : Hid (s.outs = c :: l) := hs
    have hlen : s.outs.length = l.length + 1 := by rw [hs]; rfl
    rw [hlen] at hn hx hout
    rw [hv, hlen] at h0
    have hc0 : w.cell? ⟨g, oo, none⟩ = some (.int .u8 c) := by
      have := hb.range oo ((l.length + 1) * 1) 0 (.int .u8 c) (by rw [hx, hs]; rfl)
      simpa using this
    have hgQ : ¬ p.Q = g := fun e => by have a := h.tQ.1; have b := (h.tW g (by rw [hv]; rfl)).1; rw [e] at a; omega
    have hlt : g < w.heap.size := hb.lt
    have HX : Hid ((cs.drop oo).take ((l.length + 1) * 1) = bytesV s.outs) := hx
    have HV : Hid (p.wv = .slice (some ⟨g, oo, none⟩) s.outs.length cap) := hv
    have HB : Hid (Blk w g cs) := hb
    clear hx hv hb h hs hlen
    unfold maxLen at hcm
    by_cases hc1 : cap = 1
    · have hl0 : l.length = 0 := by omega
      subst hc1
      have HL : Hid (l = []) := List.eq_nil_of_length_eq_zero hl0
      rw [hl0] at h0
      simp only [Nat.zero_add] at h0
      go_enter Tryz.func67, Tryz.ntmps67
      go_wp2
      go_ret
      refine ⟨by simp [St.out, EO.out], { p with wv := .slice (some ⟨g, oo, none⟩) 0 0 }, rfl, ?_, ?_⟩
      · have := HP.out.queue (w' := (w.setCell ⟨p.Q, 1, none⟩ (.int .i64 (s.ops + 1 : Nat))).setCell ⟨p.Q, 0, none⟩ (.slice (some ⟨g, oo, none⟩) 0 0)) (.slice (some ⟨g, oo, none⟩) 0 0) [] (s.ops + 1) (blk_q HP.out.bQ)
          ⟨by simp, .inr ⟨g, oo, 0, cs, rfl, HB.out, Nat.le_refl _, by decide, by omega, by simp⟩⟩ (fun k hk => HP.out.tW k (by rw [HV.out]; exact hk)) (fun k hk => by rw [heap_setCell_other _ _ k _ hk, heap_setCell_other _ _ k _ hk]) isBytes_nil
        simpa [St.take, EO.out, HL.out] using this
      · exact (step_set tag base o w HP.out.tQ.2 (by have := HP.out.tQ.1; omega) 1 _).set HP.out.tQ.2 (by have := HP.out.tQ.1; omega) 0 _
    · go_enter Tryz.func67, Tryz.ntmps67
      go_wp2
      go_ret
      refine ⟨by simp [St.out, EO.out], { p with wv := .slice (some ⟨g, oo + 1, none⟩) l.length (cap - 1) }, rfl, ?_, ?_⟩
      · have hob := HP.out.ok.ob
        rw [EO.out] at hob
        have := HP.out.queue (w' := (w.setCell ⟨p.Q, 1, none⟩ (.int .i64 (s.ops + 1 : Nat))).setCell ⟨p.Q, 0, none⟩ (.slice (some ⟨g, oo + 1, none⟩) l.length (cap - 1))) (.slice (some ⟨g, oo + 1, none⟩) l.length (cap - 1)) l (s.ops + 1) (blk_q HP.out.bQ)
          ⟨by simp, .inr ⟨g, oo + 1, cap - 1, cs, rfl, HB.out, by omega, by unfold maxLen; omega, by omega, by
            have := HX.out
            rw [EO.out] at this
            have e : ((cs.drop oo).take (l.length + 1)).drop 1 = bytesV l := by simpa using congrArg (List.drop 1) this
            rw [List.drop_take, List.drop_drop] at e
            simpa using e⟩⟩ (fun k hk => HP.out.tW k (by rw [HV.out]; exact hk)) (fun k hk => by rw [heap_setCell_other _ _ k _ hk, heap_setCell_other _ _ k _ hk]) (fun z hz => hob z (by simp [hz]))
        simpa [St.take, EO.out] using this
      · exact (step_set tag base o w HP.out.tQ.2 (by have := HP.out.tQ.1; omega) 1 _).set HP.out.tQ.2 (by have := HP.out.tQ.1; omega) 0 _

end Go.Proofs.YtafkkehcacdodaaGreat
