/- Rows of bytes: parts, what is laid, what is appended. -/
import Derived.Test.YtkkcpofaiocjpabPut
import Derived.Test.YtkkcpofaiocjpabNum
import Derived.Deep.OwnRows
import Derived.Deep.RegionHeld3
set_option maxRecDepth 100000
namespace Go.Proofs.Ytkkcpofaiocjpab
open Go.RowKit

/-- append, where its run is known. -/
theorem wpl_append_run {P : Program} {w : World} {ops : Array Oper} {rest : List Oper} {o : Oper} {a : Act} {Q : Exit → Act → World → Prop} (hgd : o.guard = none) (s x : Operand) (t : TypeId)
    (ho : o.op = .call { callee := .builtin .append, args := #[s, x], argTypes := #[t, t] }) (v u : Value) (hs : a.eval s = v) (hx : a.eval x = u) {v' : Value} {w' : World}
    (hr : (Builtin.append_ #[t, t] o.type #[v, u]).run P w = .ok v' w') (h : wpList P ops Q rest (a.put o.dst v') w') : wpList P ops Q (o :: rest) a w :=
  wpList_plain hgd fun _ hK => by
    unfold Oper.wp execOp
    simp only [ho, resolve, invoke, builtin, Sem.run_bind, Sem.run_pure, Result.andThen_ok, List.map_toArray, List.map_cons, List.map_nil, hs, hx, hr]
    exact hK _ _ h

/-- Bytes that a slice shows, with the head of the row. -/
structure At (w : World) (b off len cap : Nat) (l : List Int) : Prop where
  cap1 : len ≤ cap
  cap2 : cap ≤ maxLen
  len : l.length = len
  bytes : isBytes l
  sees : Sees w b off l

theorem At.later {w w' : World} {b off len cap : Nat} {l : List Int} (h : At w b off len cap l) (hb : Below w.heap.size w w') : At w' b off len cap l := ⟨h.cap1, h.cap2, h.len, h.bytes, h.sees.later hb⟩

theorem At.bts {w : World} {b off len cap : Nat} {l : List Int} (h : At w b off len cap l) : Bts w (.slice (some ⟨b, off, none⟩) len cap) l :=
  ⟨_, cap, b, off, by rw [h.len], by rw [h.len]; exact h.cap1, h.cap2, h.bytes, .inl rfl, h.sees⟩

theorem Owns.later {w w' : World} {base : Nat} {v : Value} {l : List Int} (h : Owns w base v l) (hb : Below w.heap.size w w') : Owns w' base v l := by
  refine ⟨h.1, ?_⟩
  rcases h.2 with h' | ⟨g, cap, cur, h1, h2, h3, h4⟩
  · exact .inl h'
  · refine .inr ⟨g, cap, cur, h1, h2, ?_, h4⟩
    have hg : g < w.heap.size := by
      rcases Nat.lt_or_ge g w.heap.size with h | h
      · exact h
      · rw [Array.getElem?_eq_none h] at h3; cases h3
    rw [hb.block g hg]; exact h3

theorem Owns.low {w : World} {base base' : Nat} {v : Value} {l : List Int} (h : Owns w base v l) (hb : base' ≤ base) : Owns w base' v l := by
  refine ⟨h.1, ?_⟩
  rcases h.2 with h' | ⟨g, cap, cur, h1, h2, r⟩
  · exact .inl h'
  · exact .inr ⟨g, cap, cur, h1, Nat.le_trans hb h2, r⟩

theorem owns_lit2 (w : World) (a b : Int) : Owns (w.alloc (.cells #[.int .u8 a, .int .u8 b] 5)) w.heap.size (.slice (some ⟨w.heap.size, 0, none⟩) 2 2) [a, b] :=
  World.ownsRow_lit w #[.int .u8 a, .int .u8 b] 2 (Nat.le_refl _) (by decide) rfl

theorem holds8_mk {w : World} {base G len cap : Nat} {L : List Int} (h : Owns w base (.slice (some ⟨G, 0, none⟩) len cap) L) (hl : L.length = len) : Holds8 w base G len cap L := ⟨hl, by unfold Owns at h; rwa [hl] at h⟩

theorem Holds8.later {w w' : World} {base G len cap : Nat} {L : List Int} (h : Holds8 w base G len cap L) (hb : Below w.heap.size w w') : Holds8 w' base G len cap L := holds8_mk (h.owns.later hb) h.1

end Go.Proofs.Ytkkcpofaiocjpab
