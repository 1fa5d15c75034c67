/- The contracts of take and Decode. -/
import Derived.Test.YtafkkehcacdodaaGreatEntSmall
set_option maxRecDepth 100000
namespace Go.Proofs.YtafkkehcacdodaaGreat
open Go.RowKit

/-- A reader: what is left of the bytes, from place p on. -/
def Rd9 (w : World) (R b off len cap p : Nat) : Prop :=
  ∃ o, w.heap[R]? = some (.cells #[.slice (some ⟨b, o, none⟩) (len - p) (cap - p)] 163 (0, 0)) ∧ (o = off + p ∨ len = p)

theorem sees_drop {w : World} {b off : Nat} {l : List Int} (h : Sees w b off l) (p : Nat) : Sees w b (off + p) (l.drop p) := by
  intro i hi
  have hi' : p + i < l.length := by simp at hi; omega
  have e : (l.drop p).getD i 0 = l.getD (p + i) 0 := by simp [List.getD]
  rw [e, Nat.add_assoc]
  exact h (p + i) hi'

theorem slice_on (b off len cap : Nat) (x : Int) (p : Nat) (hx : x = (p : Int)) (hp : p ≤ len) (hc : len ≤ cap) :
    ∃ o, (∀ W, (Instr.slice 39 (.slice (some ⟨b, off, none⟩) len cap) (some (.int .i64 x)) none none).run Tryz.prog W = .ok (.slice (some ⟨b, o, none⟩) (len - p) (cap - p)) W) ∧ (o = off + p ∨ len = p) := by
  subst hx
  have ht' : Tryz.prog.underlying 39 = some (.slice (Tryz.prog.elem 39)) := by simp [Program.elem, Tryz.underlying39]
  have he : Tryz.prog.elem 39 = 5 := by simp [Program.elem, Tryz.underlying39]
  refine ⟨if cap = p then off else off + p, fun W => ?_, ?_⟩
  · rw [run_slice_l W 39 _ _ _ ht' .i64 _ (by omega) (by omega), he, Tryz.sizeOf5]
    by_cases hc : cap = p
    · simp [Result.andThen, sliced, hc]
    · simp [Result.andThen, sliced, hc, add_at]
  · by_cases hc : cap = p
    · right; omega
    · left; rw [if_neg hc]

set_option maxHeartbeats 1000000 in
theorem take_any (R b off len cap p n : Nat) (q : Int) (l : List Int) (w : World) (hR : Rd9 w R b off len cap p) (hA : At w b off len cap l) (hq : q = (n : Int)) (h1 : 1 ≤ n) (h2 : n ≤ 8) (h3 : p + n ≤ len) :
    Calls Tryz.prog 97 #[.pointer (some ⟨R, 0, none⟩), .int .i64 q] w fun r w' => r = .returned (.int .u64 (num ((l.drop p).take n))) ∧ Rd9 w' R b off len cap (p + n) ∧ ∃ V, w' = w.setCell ⟨R, 0, none⟩ V := by
  subst hq
  obtain ⟨o, hrow, ho⟩ := hR
  have ho : o = off + p := by omega
  subst ho
  have hc1 := hA.cap1
  have hc2 := hA.cap2
  have hg := get_yes b (off + p) (len - p) (cap - p) (l.drop p) 0 n w (by omega) (by omega) (by omega) (by rw [List.length_drop, hA.len]) (fun z hz => hA.bytes z (List.mem_of_mem_drop hz)) (sees_drop hA.sees p) h1 h2 (by omega)
  rw [List.drop_zero] at hg
  obtain ⟨o2, hsl, ho2⟩ := slice_on b (off + p) (len - p) (cap - p) n n rfl (by omega) (by omega)
  have hcell : w.cell? ⟨R, 0, none⟩ = some (.slice (some ⟨b, off + p, none⟩) (len - p) (cap - p)) := cell_of_row w R 0 _ _ _ hrow
  have hfr : w.frozen? ⟨R, 0, none⟩ = false := frozen_of_row w R 0 _ _ hrow
  have hR' : Rd9 (w.setCell ⟨R, 0, none⟩ (.slice (some ⟨b, o2, none⟩) (len - p - n) (cap - p - n))) R b off len cap (p + n) := by
    refine ⟨o2, ?_, by omega⟩
    rw [heap_setCell_same w R 0 _ _ _ hrow, Nat.sub_sub, Nat.sub_sub]
    rfl
  generalize num ((l.drop p).take n) = x at *
  generalize len - p = m at *
  generalize cap - p = c at *
  clear hA hrow
  go_enter Tryz.func97, Tryz.ntmps97
  go_wp2_with fail
  refine hg.mono ?_
  rintro r w1 ⟨rfl, rfl⟩
  go_wp2
  go_ret
  exact ⟨rfl, hR', _, rfl⟩

@[reducible] def zEC : Array Value := #[.int .i64 0, .int .i64 0, .int .u32 0, .int .u32 0, .int .i64 0]

@[reducible] def zEV : Value := .agg #[.int .i64 0, .int .i64 0, .int .u32 0, .int .u32 0, .int .i64 0]

/-- An entry in the five cells of block D. -/
def Ent9 (w : World) (D : Nat) (e : En) : Prop := w.heap[D]? = some (.cells (enC e) 73 (0, 0))

theorem Ent9.lt {w : World} {D : Nat} {e : En} (h : Ent9 w D e) : D < w.heap.size := (Array.getElem?_eq_some_iff.1 h).1

theorem Ent9.cell {w : World} {D : Nat} {e : En} (h : Ent9 w D e) (j : Nat) : w.cell? ⟨D, j, none⟩ = (enC e)[j]? := cell_of_row w D j _ _ _ h

theorem Ent9.frozen {w : World} {D : Nat} {e : En} (h : Ent9 w D e) (j : Nat) : w.frozen? ⟨D, j, none⟩ = false := frozen_of_row w D j _ _ h

theorem Ent9.cells {w : World} {D : Nat} {e : En} (h : Ent9 w D e) : w.cell? ⟨D, 0, none⟩ = some (.int .i64 e.kind) ∧ w.cell? ⟨D, 1, none⟩ = some (.int .i64 e.time) ∧ w.cell? ⟨D, 2, none⟩ = some (.int .u32 e.sub) ∧ w.cell? ⟨D, 3, none⟩ = some (.int .u32 e.addr) ∧ w.cell? ⟨D, 4, none⟩ = some (.int .i64 e.block) :=
  ⟨h.cell 0, h.cell 1, h.cell 2, h.cell 3, h.cell 4⟩

theorem Ent9.set {w : World} {D : Nat} {e e' : En} (h : Ent9 w D e) (j : Nat) (v : Value) (he : (enC e).setIfInBounds j v = enC e') : Ent9 (w.setCell ⟨D, j, none⟩ v) D e' := by
  unfold Ent9
  rw [heap_setCell_same w D j _ _ _ h, he]

theorem Ent9.other {w w' : World} {D : Nat} {e : En} (h : Ent9 w D e) (hh : w'.heap[D]? = w.heap[D]?) : Ent9 w' D e := hh.trans h

theorem Rd9.other {w w' : World} {R b off len cap p : Nat} (h : Rd9 w R b off len cap p) (hh : w'.heap[R]? = w.heap[R]?) : Rd9 w' R b off len cap p := by
  obtain ⟨o, h1, h2⟩ := h; exact ⟨o, hh.trans h1, h2⟩

theorem Rd9.lt {w : World} {R b off len cap p : Nat} (h : Rd9 w R b off len cap p) : R < w.heap.size := by
  obtain ⟨o, h1, h2⟩ := h; exact (Array.getElem?_eq_some_iff.1 h1).1

/-- What the call has made: the answer D, the reader R, the entry E. -/
structure Dc (w0 w : World) (D R E b off len cap p : Nat) (l : List Int) (e : En) : Prop where
  d0 : D = w0.heap.size
  dr : D < R
  re : R < E
  below : Below D w0 w
  ans : Ent9 w D En.zero
  ent : Ent9 w E e
  rd : Rd9 w R b off len cap p
  at_ : At w0 b off len cap l
  bl : b < D

theorem Dc.set {w0 w : World} {D R E b off len cap p : Nat} {l : List Int} {e e' : En} (h : Dc w0 w D R E b off len cap p l e) (j : Nat) (v : Value) (he : (enC e).setIfInBounds j v = enC e') : Dc w0 (w.setCell ⟨E, j, none⟩ v) D R E b off len cap p l e' := by
  have h1 := h.dr; have h2 := h.re
  refine ⟨h.d0, h.dr, h.re, h.below.setCell (by show D ≤ E; omega) v, h.ans.other ?_, h.ent.set j v he, h.rd.other ?_, h.at_, h.bl⟩
  · exact heap_setCell_other w ⟨E, j, none⟩ D v (by show D ≠ E; omega)
  · exact heap_setCell_other w ⟨E, j, none⟩ R v (by show R ≠ E; omega)

theorem Dc.at9 {w0 w : World} {D R E b off len cap p : Nat} {l : List Int} {e : En} (h : Dc w0 w D R E b off len cap p l e) : At w b off len cap l := h.at_.later (by have := h.below; rwa [h.d0] at this)

theorem take_dc {w0 w : World} {D R E b off len cap p : Nat} {l : List Int} {e : En} (h : Dc w0 w D R E b off len cap p l e) (n : Nat) (q : Int) (hq : q = (n : Int)) (h1 : 1 ≤ n) (h2 : n ≤ 8) (h3 : p + n ≤ len) :
    Calls Tryz.prog 97 #[.pointer (some ⟨R, 0, none⟩), .int .i64 q] w fun r w' => r = .returned (.int .u64 (num ((l.drop p).take n))) ∧ Dc w0 w' D R E b off len cap (p + n) l e := by
  have g1 := h.dr; have g2 := h.re
  refine (take_any R b off len cap p n q l w h.rd h.at9 hq h1 h2 h3).mono ?_
  rintro r w' ⟨rfl, hR, V, rfl⟩
  refine ⟨rfl, h.d0, h.dr, h.re, h.below.setCell (by show D ≤ R; omega) V, h.ans.other ?_, h.ent.other ?_, hR, h.at_, h.bl⟩
  · exact heap_setCell_other w ⟨R, 0, none⟩ D V (by show D ≠ R; omega)
  · exact heap_setCell_other w ⟨R, 0, none⟩ E V (by show E ≠ R; omega)

/-- The entry laid into the answer. -/
@[reducible] def laid9 (w : World) (D : Nat) (e : En) : World :=
  ((((w.setCell ⟨D, 0, none⟩ (.int .i64 e.kind)).setCell ⟨D, 1, none⟩ (.int .i64 e.time)).setCell ⟨D, 2, none⟩ (.int .u32 e.sub)).setCell ⟨D, 3, none⟩ (.int .u32 e.addr)).setCell ⟨D, 4, none⟩ (.int .i64 e.block)

theorem laid9_below {w0 w : World} {D : Nat} (h : Below D w0 w) (e : En) : Below D w0 (laid9 w D e) := by
  have hle : D ≤ D := Nat.le_refl _
  exact ((((h.setCell hle _).setCell hle _).setCell hle _).setCell hle _).setCell hle _

theorem laid9_ent {w : World} {D : Nat} {e : En} (h : Ent9 w D e) (e' : En) : Ent9 (laid9 w D e') D e' :=
  ((((h.set (e' := ⟨e'.kind, e.time, e.sub, e.addr, e.block⟩) 0 _ rfl).set (e' := ⟨e'.kind, e'.time, e.sub, e.addr, e.block⟩) 1 _ rfl).set (e' := ⟨e'.kind, e'.time, e'.sub, e.addr, e.block⟩) 2 _ rfl).set (e' := ⟨e'.kind, e'.time, e'.sub, e'.addr, e.block⟩) 3 _ rfl).set 4 _ rfl

end Go.Proofs.YtafkkehcacdodaaGreat
