/- Deeds: from what the form reads to the view that the walks take; room, body. -/
import Derived.Test.YtlmmhgbpknnecaaSecMore
import Derived.Deep.Slices
set_option maxRecDepth 100000
namespace Go.Proofs.Ytlmmhgbpknnecaa
open Go.ChangeShapes Go.WideShapes Go.ChangeAt Go.RowKit

/-- A deed in numbers, with its slice. -/
structure Dd : Type where
  dO : Int
  dA : Int
  dF : Int
  dC : Int
  vb : Value
  b : List Int

def ddC (d : Dd) : List Value := [.int .i64 d.dO, .int .i64 d.dA, .int .i64 d.dF, .int .u8 d.dC, d.vb]

structure Dd.Ok (w : World) (d : Dd) : Prop where
  bt : Bts w d.vb d.b
  o1 : -9223372036854775808 ≤ d.dO ∧ d.dO < 9223372036854775808
  a1 : -9223372036854775808 ≤ d.dA ∧ d.dA < 9223372036854775808
  f1 : -9223372036854775808 ≤ d.dF ∧ d.dF < 9223372036854775808
  c1 : 0 ≤ d.dC ∧ d.dC < 256

/-- A slice of deeds. -/
def Deeds (w : World) (v : Value) (B O : Nat) (l : List Dd) : Prop :=
  ∃ (a : Option Addr) (cap : Nat), v = .slice a l.length cap ∧ l.length ≤ cap ∧ cap ≤ maxLen ∧ (a = some ⟨B, O, none⟩ ∨ l = []) ∧ ∀ i (h : i < l.length), l[i].Ok w ∧ w.rangeAt B (O + i * 5) (ddC l[i])

def IsDeeds (w : World) (v : Value) : Prop := ∃ B O l, Deeds w v B O l

theorem bts_of_read {H : Type} {enc : TypeId × Value → H} {P : Program} {w : World} {base : Nat} {held : Bool} {t e : TypeId} {fuel : Nat} {v : Value} {x : DataW H × List MemPlace}
    (ht : P.underlying t = some (.slice e)) (he : P.underlying e = some (.int .u8)) (hc : P.cellsOf e = 1)
    (h : DataW.trod enc P w base (fun _ => true) held fuel t [v] = some x) : ∃ l, Bts w v l := by
  rcases open_ints ht he hc h with ⟨hcs, _⟩ | ⟨a, len, cap, zs, hcs, _, hl, hm, hz, hx, hcell, hwz⟩
  · simp only [List.cons.injEq, and_true] at hcs
    subst hcs
    exact ⟨[], bts_nil w⟩
  · simp only [List.cons.injEq, and_true] at hcs
    subst hcs
    simp only [if_true] at hz
    have hlen : (zs.take len).length = len := by simp; omega
    refine ⟨zs.take len, ⟨some a, cap, a.block, a.off, by rw [hlen], by omega, hm, ?_, ?_, ?_⟩⟩
    · intro z hz'; exact byte_of_wf (hwz z (List.mem_of_mem_take hz'))
    · by_cases h0 : len = 0
      · right; subst h0; simp
      · left
        obtain ⟨b, off, spot⟩ := a
        have hs : spot = none := by simpa [Addr.add] using World.cell?_spot (hcell 0 (by omega))
        subst hs; rfl
    · intro i hi
      rw [hlen] at hi
      obtain ⟨b, off, spot⟩ := a
      have hs : spot = none := by simpa [Addr.add] using World.cell?_spot (hcell 0 (by omega))
      subst hs
      have hc := hcell i (by omega)
      rw [add_at] at hc
      rw [getD_take _ _ _ hi]
      exact hc

theorem cells3' : Try.prog.cellsOf 3 = 1 := by kernel_rfl

theorem cellsDd : Try.prog.cellsOf 43 = 5 := by kernel_rfl

theorem list5 {α : Type} {l : List α} (h : l.length = 5) : ∃ a b c d e, l = [a, b, c, d, e] := by
  match l, h with
  | [a, b, c, d, e], _ => exact ⟨a, b, c, d, e, rfl⟩

section
variable {H : Type} {enc : TypeId × Value → H} {w : World} {base b0 : Nat} {held : Bool} {r : Reach} {v : Value} {d : DataW H} {ps : List MemPlace}

set_option maxRecDepth 100000 in
theorem deed_of {n : Nat} {cs : List Value} {x : DataW H × List MemPlace} (hf : DataW.trod enc Try.prog w base (fun _ => true) held n 43 cs = some x) : ∃ q : Dd, cs = ddC q ∧ q.Ok w := by
  obtain ⟨xs, m, _, hx, hl, hlen, hfield⟩ := DataW.trod_struct Try.underlying43 hf
  rw [cellsDd] at hl
  obtain ⟨c0, c1, c2, c3, c4, rfl⟩ := list5 hl
  obtain ⟨y0, y1, y2, y3, y4, rfl⟩ := list5 hlen
  have t0 : DataW.trod enc Try.prog w base (fun _ => true) held m 3 [c0] = some y0 := by
    have := hfield 0 _ rfl
    simpa [cells3'] using this
  have t1 : DataW.trod enc Try.prog w base (fun _ => true) held m 3 [c1] = some y1 := by
    have := hfield 1 _ rfl
    simpa [cells3'] using this
  have t2 : DataW.trod enc Try.prog w base (fun _ => true) held m 3 [c2] = some y2 := by
    have := hfield 2 _ rfl
    simpa [cells3'] using this
  have t3 : DataW.trod enc Try.prog w base (fun _ => true) held m 5 [c3] = some y3 := by
    have := hfield 3 _ rfl
    simpa [cells5] using this
  have t4 : DataW.trod enc Try.prog w base (fun _ => true) held m 27 [c4] = some y4 := by
    have := hfield 4 _ rfl
    simpa [cells26] using this
  obtain ⟨z0, e0, _, w0⟩ := DataW.trod_int Try.underlying3 t0
  obtain ⟨z1, e1, _, w1⟩ := DataW.trod_int Try.underlying3 t1
  obtain ⟨z2, e2, _, w2⟩ := DataW.trod_int Try.underlying3 t2
  obtain ⟨z3, e3, _, w3⟩ := DataW.trod_int Try.underlying5 t3
  obtain ⟨l, hb⟩ := bts_of_read Try.underlying27 Try.underlying5 cells5 t4
  simp at e0 e1 e2 e3
  subst e0 e1 e2 e3
  exact ⟨⟨z0, z1, z2, z3, c4, l⟩, rfl, hb, i64_of_wf w0, i64_of_wf w1, i64_of_wf w2, byte_of_wf w3⟩

theorem view37 (hv : Value.okWide Try.prog w r b0 37 v) (h : DataW.Trod enc Try.prog w base (fun _ => true) held 37 v d ps) (_ : ∀ n ∈ d.weights Try.prog 37, n ≤ reachBytes) : IsDeeds w v := by
  obtain ⟨a0, len0, cap0, rfl⟩ := okWide_slice Try.underlying37 hv
  obtain ⟨fuel, hf⟩ := h
  rcases Go.Deep.open_slice Try.underlying37 hf with ⟨hcs, _⟩ | ⟨a, len, cap, m, n, D, Pl, hcs, _, hl, hm, hmm, _, hrow⟩
  · simp [Value.cells] at hcs
    obtain ⟨rfl, rfl, rfl⟩ := hcs
    exact ⟨0, 0, [], none, 0, rfl, by simp, by decide, .inr rfl, fun i hi => by simp at hi⟩
  · simp [Value.cells] at hcs
    obtain ⟨rfl, rfl, rfl⟩ := hcs
    simp only [if_true] at hmm
    subst hmm
    rw [cellsDd] at hrow
    obtain ⟨b, off, spot⟩ := a
    have hq : ∀ i, i < len0 → ∃ q : Dd, q.Ok w ∧ ∀ j, j < 5 → w.cell? (((⟨b, off, spot⟩ : Addr).add (i * 5)).add j) = (ddC q)[j]? := by
      intro i hi
      obtain ⟨cs', h1, h2⟩ := hrow i (by omega)
      obtain ⟨q, rfl, hq⟩ := deed_of h2
      unfold World.cells? at h1
      split at h1
      case isFalse => cases h1
      exact ⟨q, hq, fun j hj => mapM_some_get h1 j j (by simp [hj])⟩
    have hspot : 0 < len0 → spot = none := fun h0 => by
      obtain ⟨q, _, hget⟩ := hq 0 h0
      have h0' := hget 0 (by omega)
      have h00 : (ddC q)[0]? = some (.int .i64 q.dO) := rfl
      rw [h00] at h0'
      simpa [Addr.add] using World.cell?_spot h0'
    haveI : Inhabited Dd := ⟨⟨0, 0, 0, 0, .slice none 0 0, []⟩⟩
    obtain ⟨f, hf'⟩ := Go.Deep.choose_lt (α := Dd) (n := len0) (p := fun i q => q.Ok w ∧ ∀ j, j < 5 → w.cell? (((⟨b, off, spot⟩ : Addr).add (i * 5)).add j) = (ddC q)[j]?) hq
    refine ⟨b, off, (List.range len0).map f, _, _, by simp; rfl, by simpa using hl, hm, ?_, ?_⟩
    · by_cases h0 : len0 = 0
      · right; subst h0; simp
      · left; rw [hspot (by omega)]
    · intro i hi
      simp at hi
      obtain ⟨h1, h2⟩ := hf' i hi
      have hs := hspot (by omega)
      subst hs
      simp only [List.getElem_map, List.getElem_range]
      refine ⟨h1, fun j u hu => ?_⟩
      have hj : j < 5 := by
        have := (List.getElem?_eq_some_iff.1 hu).1
        simpa [ddC] using this
      have := h2 j hj
      rw [Go.Deep.add_add, add_at, ← Nat.add_assoc] at this
      rw [this]; exact hu
end

end Go.Proofs.Ytlmmhgbpknnecaa
