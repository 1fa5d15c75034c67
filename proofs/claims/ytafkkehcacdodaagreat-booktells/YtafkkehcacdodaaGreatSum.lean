/- The contract of Sum and Check. -/
import Derived.Test.YtafkkehcacdodaaGreatGet
set_option maxRecDepth 100000
namespace Go.Proofs.YtafkkehcacdodaaGreat
open Go.RowKit

/-- A value is a slice that shows the bytes l. -/
def Bts (w : World) (v : Value) (l : List Int) : Prop :=
  ∃ (a : Option Addr) (cap b off : Nat), v = .slice a l.length cap ∧ l.length ≤ cap ∧ cap ≤ maxLen ∧ isBytes l ∧ (a = some ⟨b, off, none⟩ ∨ l = []) ∧ Sees w b off l

/-- A row of cells, each a slice of bytes. -/
def Pts (w : World) (B O : Nat) (ls : List (List Int)) : Prop := ∀ i, i < ls.length → ∃ v, w.cell? ⟨B, O + i, none⟩ = some v ∧ Bts w v (ls.getD i [])

theorem Sees.later {w wx : World} {b off : Nat} {l : List Int} (h : Sees w b off l) (hb : Below w.heap.size w wx) : Sees wx b off l :=
  fun i hi => cell_later hb (h i hi)

theorem Bts.later {w wx : World} {v : Value} {l : List Int} (h : Bts w v l) (hb : Below w.heap.size w wx) : Bts wx v l := by
  obtain ⟨a, cap, b, off, h1, h2, h3, h4, h5, h6⟩ := h
  exact ⟨a, cap, b, off, h1, h2, h3, h4, h5, h6.later hb⟩

theorem Bts.shape {w : World} {v : Value} {l : List Int} (h : Bts w v l) : ∃ a N c, v = .slice a N c := by
  obtain ⟨a, c, _, _, rfl, _⟩ := h; exact ⟨_, _, _, rfl⟩

theorem below_trans {a b c : World} (h : Below a.heap.size a b) (k : Below b.heap.size b c) : Below a.heap.size a c := h.trans (k.mono h.size)

theorem Pts.later {w wx : World} {B O : Nat} {ls : List (List Int)} (h : Pts w B O ls) (hb : Below w.heap.size w wx) : Pts wx B O ls := by
  intro i hi
  obtain ⟨v, h1, h2⟩ := h i hi
  exact ⟨v, cell_later hb h1, h2.later hb⟩

theorem below_alloc (w : World) (o : Obj) : Below w.heap.size w (w.alloc o) := (Below.refl _ _).alloc (Nat.le_refl _) _

theorem pts_one {w : World} {v : Value} {l : List Int} (t : TypeId) (h : Bts w v l) : Pts (w.alloc (.cells #[v] t)) w.heap.size 0 [l] := by
  intro i hi
  have : i = 0 := by simp at hi; omega
  subst this
  exact ⟨v, by simp, h.later (below_alloc _ _)⟩

end Go.Proofs.YtafkkehcacdodaaGreat
