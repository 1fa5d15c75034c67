/- What the statements do beside the calls: append of more bytes, a datagram laid in a variable. -/
import Derived.Test.YtkclbmhhlpdcnaaDoorOpenIp
import Derived.Test.YtkclbmhhlpdcnaaDoorParse
import Derived.Test.YtkclbmhhlpdcnaaDoorIpMath2
set_option maxRecDepth 100000
namespace Go.Proofs.YtkclbmhhlpdcnaaDoor
open Go.RowKit

theorem append_bts (W : World) (base : Nat) (v vm : Value) (l m : List Int) (hv : Owns W base v l) (hm : Bts W vm m) (hbase : base ≤ W.heap.size) (hlen : l.length + m.length ≤ 140737488351232) :
    ∃ v' w', (Builtin.append_ #[23, 23] 23 #[v, vm]).run Tryd.prog W = .ok v' w' ∧ Owns w' base v' (l ++ m) ∧ Below base W w' := by
  obtain ⟨i0, hi, hz0, hz1, hz2⟩ := info_parts info5
  obtain ⟨a, cap, b, off, rfl, h2, h3, h4, h5, h6⟩ := hm
  have core : ∀ ad : Addr, (∀ j u, (m.map (Value.int .u8))[j]? = some u → W.cell? (ad.add j) = some u) →
      ∃ v' w', (Builtin.append_ #[23, 23] 23 #[v, .slice (some ad) m.length cap]).run Tryd.prog W = .ok v' w' ∧ Owns w' base v' (l ++ m) ∧ Below base W w' := by
    intro ad hcs
    obtain ⟨v', w', hr, ho, hg, -⟩ := run_append_own (P := Tryd.prog) W base 23 23 5 i0 (.int .u8 0) 1 1 Tryd.underlying23 hi hz0 hz1 hz2 rfl (by decide) v l.length (l.map (Value.int .u8)) hv ad m.length cap (m.map (Value.int .u8)) (by simp) hcs (ones_cell m) (by unfold maxLen; omega) (by omega) hbase
    refine ⟨v', w', hr, ?_, (Below.refl _ _).grown hg hbase (fun k hk => (hv.lt k hk).1)⟩
    unfold Owns
    rw [List.map_append, List.length_append]
    exact ho
  rcases h5 with rfl | rfl
  · exact core ⟨b, off, none⟩ (cells_of_sees h6)
  · cases a with
    | some ad => exact core ad (fun j u hj => by simp at hj)
    | none =>
      refine ⟨v, W, ?_, by simpa using hv, Below.refl _ _⟩
      rcases hv.2 with ⟨rfl, -⟩ | ⟨g, c', cur, rfl, -, -, hn, -⟩
      · simp [Builtin.append_, run_underlying Tryd.underlying23, sizeOf, typeInfo, hi, Builtin.lenOf, Builtin.firstCells]
      · simp [Builtin.append_, run_underlying Tryd.underlying23, sizeOf, typeInfo, hi, Builtin.lenOf, Builtin.firstCells, loadCells, storeCells, Result.andThen, hn]

theorem parse_ok' (b off len cap : Nat) (l : List Int) (p : Dg) (w : World) (hA : At w b off len cap l) (g : Good l) (hp : dgOf l = p) :
    Calls Tryd.prog 7 #[.slice (some ⟨b, off, none⟩) len cap] w fun e w' =>
      ∃ a1 k1 a2 k2, e = .returned (.tuple #[ipV p (.slice a1 p.opts.length k1) (.slice a2 p.body.length k2), .int .i64 0]) ∧ Bts w' (.slice a1 p.opts.length k1) p.opts ∧ Bts w' (.slice a2 p.body.length k2) p.body ∧ Below w.heap.size w w' := by
  subst hp; exact parse_ok b off len cap l w hA g
end Go.Proofs.YtkclbmhhlpdcnaaDoor
