/- Rows of bytes: parts, what is laid, what is appended. -/
import Derived.Test.YtafkkehcacdodaaPut
import Derived.Test.YtafkkehcacdodaaNum
import Derived.Deep.OwnRows
import Derived.Deep.RegionHeld3
set_option maxRecDepth 100000
namespace Go.Proofs.Ytafkkehcacdodaa
open Go.RowKit

/-- append, where its run is known. -/
theorem wpl_append_run {P : Program} {w : World} {ops : Array Oper} {rest : List Oper} {o : Oper} {a : Act} {Q : Exit → Act → World → Prop} (hgd : o.guard = none) (s x : Operand) (t : TypeId)
    (ho : o.op = .call { callee := .builtin .append, args := #[s, x], argTypes := #[t, t] }) (v u : Value) (hs : a.eval s = v) (hx : a.eval x = u) {v' : Value} {w' : World}
    (hr : (Builtin.append_ #[t, t] o.type #[v, u]).run P w = .ok v' w') (h : wpList P ops Q rest (a.put o.dst v') w') : wpList P ops Q (o :: rest) a w :=
  wpList_plain hgd fun _ hK => by
    unfold Oper.wp execOp
    simp only [ho, resolve, invoke, builtin, Sem.run_bind, Sem.run_pure, Result.andThen_ok, List.map_toArray, List.map_cons, List.map_nil, hs, hx, hr]
    exact hK _ _ h

/-- Bytes that a slice shows, with the head of the row. -/
structure At (w : World) (b off len cap : Nat) (l : List Int) : Prop where
  cap1 : len ≤ cap
  cap2 : cap ≤ maxLen
  len : l.length = len
  bytes : isBytes l
  sees : Sees w b off l

theorem At.later {w w' : World} {b off len cap : Nat} {l : List Int} (h : At w b off len cap l) (hb : Below w.heap.size w w') : At w' b off len cap l := ⟨h.cap1, h.cap2, h.len, h.bytes, h.sees.later hb⟩

theorem At.bts {w : World} {b off len cap : Nat} {l : List Int} (h : At w b off len cap l) : Bts w (.slice (some ⟨b, off, none⟩) len cap) l :=
  ⟨_, cap, b, off, by rw [h.len], by rw [h.len]; exact h.cap1, h.cap2, h.bytes, .inl rfl, h.sees⟩

theorem Owns.later {w w' : World} {base : Nat} {v : Value} {l : List Int} (h : Owns w base v l) (hb : Below w.heap.size w w') : Owns w' base v l := by
  refine ⟨h.1, ?_⟩
  rcases h.2 with h' | ⟨g, cap, cur, h1, h2, h3, h4⟩
  · exact .inl h'
  · refine .inr ⟨g, cap, cur, h1, h2, ?_, h4⟩
    have hg : g < w.heap.size := by
      rcases Nat.lt_or_ge g w.heap.size with h | h
      · exact h
      · rw [Array.getElem?_eq_none h] at h3; cases h3
    rw [hb.block g hg]; exact h3

theorem Owns.low {w : World} {base base' : Nat} {v : Value} {l : List Int} (h : Owns w base v l) (hb : base' ≤ base) : Owns w base' v l := by
  refine ⟨h.1, ?_⟩
  rcases h.2 with h' | ⟨g, cap, cur, h1, h2, r⟩
  · exact .inl h'
  · exact .inr ⟨g, cap, cur, h1, Nat.le_trans hb h2, r⟩

/-- One byte behind a row of the call's own. -/
theorem append_one (W : World) (base : Nat) (v : Value) (l : List Int) (c : Int) (hv : Owns W base v l) (hbase : base ≤ W.heap.size) (hlen : l.length ≤ 140737488351000) :
    ∃ v' w', (Builtin.append_ #[31, 31] 31 #[v, .slice (some ⟨W.heap.size, 0, none⟩) 1 1]).run Try.prog (W.alloc (.cells #[.int .u8 c] 5)) = .ok v' w' ∧ Owns w' base v' (l ++ [c]) ∧ Below base W w' := by
  obtain ⟨i0, hi, hz0, hz1, hz2⟩ := info_parts info5
  have hown2 : (W.alloc (.cells #[.int .u8 c] 5)).ownsRow base 5 1 v l.length (l.map (Value.int .u8)) := World.ownsRow.alloc hv _
  obtain ⟨v', w', hr, ho, hg, -⟩ := run_append_own (P := Try.prog) (W.alloc (.cells #[.int .u8 c] 5)) base 31 31 5 i0 (.int .u8 0) 1 1 Try.underlying31 hi hz0 hz1 hz2 rfl (by decide) v l.length (l.map (Value.int .u8)) hown2 ⟨W.heap.size, 0, none⟩ 1 1 [.int .u8 c] rfl (by
    intro j u hj
    match j, hj with
    | 0, hj => simp at hj; subst hj; simp [Addr.add]) (by intro u hu; simp at hu; subst hu; rfl) (by unfold maxLen; omega) (by omega) (by simp; omega)
  refine ⟨v', w', hr, ?_, ((Below.refl _ _).alloc hbase _).grown hg (by simp; omega) (fun k hk => (hv.lt k hk).1)⟩
  unfold Owns
  simpa using ho

theorem append_bts (W : World) (base : Nat) (v vm : Value) (l m : List Int) (hv : Owns W base v l) (hm : Bts W vm m) (hbase : base ≤ W.heap.size) (hlen : l.length + m.length ≤ 140737488351232) :
    ∃ v' w', (Builtin.append_ #[31, 31] 31 #[v, vm]).run Try.prog W = .ok v' w' ∧ Owns w' base v' (l ++ m) ∧ Below base W w' := by
  obtain ⟨i0, hi, hz0, hz1, hz2⟩ := info_parts info5
  obtain ⟨a, cap, b, off, rfl, h2, h3, h4, h5, h6⟩ := hm
  have core : ∀ ad : Addr, (∀ j u, (m.map (Value.int .u8))[j]? = some u → W.cell? (ad.add j) = some u) →
      ∃ v' w', (Builtin.append_ #[31, 31] 31 #[v, .slice (some ad) m.length cap]).run Try.prog W = .ok v' w' ∧ Owns w' base v' (l ++ m) ∧ Below base W w' := by
    intro ad hcs
    obtain ⟨v', w', hr, ho, hg, -⟩ := run_append_own (P := Try.prog) W base 31 31 5 i0 (.int .u8 0) 1 1 Try.underlying31 hi hz0 hz1 hz2 rfl (by decide) v l.length (l.map (Value.int .u8)) hv ad m.length cap (m.map (Value.int .u8)) (by simp) hcs (ones_cell m) (by unfold maxLen; omega) (by omega) hbase
    refine ⟨v', w', hr, ?_, (Below.refl _ _).grown hg hbase (fun k hk => (hv.lt k hk).1)⟩
    unfold Owns
    rw [List.map_append, List.length_append]
    exact ho
  rcases h5 with rfl | rfl
  · exact core ⟨b, off, none⟩ (cells_of_sees h6)
  · cases a with
    | some ad => exact core ad (fun j u hj => by simp at hj)
    | none =>
      refine ⟨v, W, ?_, by simpa using hv, Below.refl _ _⟩
      rcases hv.2 with ⟨rfl, -⟩ | ⟨g, c', cur, rfl, -, -, hn, -⟩
      · simp [Builtin.append_, run_underlying Try.underlying31, sizeOf, typeInfo, hi, Builtin.lenOf, Builtin.firstCells]
      · simp [Builtin.append_, run_underlying Try.underlying31, sizeOf, typeInfo, hi, Builtin.lenOf, Builtin.firstCells, loadCells, storeCells, Result.andThen, hn]

theorem owns_lit2 (w : World) (a b : Int) : Owns (w.alloc (.cells #[.int .u8 a, .int .u8 b] 5)) w.heap.size (.slice (some ⟨w.heap.size, 0, none⟩) 2 2) [a, b] :=
  World.ownsRow_lit w #[.int .u8 a, .int .u8 b] 2 (Nat.le_refl _) (by decide) rfl

theorem holds8_mk {w : World} {base G len cap : Nat} {L : List Int} (h : Owns w base (.slice (some ⟨G, 0, none⟩) len cap) L) (hl : L.length = len) : Holds8 w base G len cap L := ⟨hl, by unfold Owns at h; rwa [hl] at h⟩

theorem Holds8.later {w w' : World} {base G len cap : Nat} {L : List Int} (h : Holds8 w base G len cap L) (hb : Below w.heap.size w w') : Holds8 w' base G len cap L := holds8_mk (h.owns.later hb) h.1

end Go.Proofs.Ytafkkehcacdodaa
