/- From what the form reads of a slice of byte slices to the view that the walks take. -/
import Derived.Test.YtcbhfdhnggdgbaaCopy
import Derived.Deep.Matrix
namespace Go.Proofs.Ytcbhfdhnggdgbaa
open Go.ChangeShapes Go.WideShapes Go.ChangeAt Go.RowKit

def IsParts (w : World) (v : Value) : Prop :=
  ∃ (A : Option Addr) (B O cap : Nat) (ls : List (List Int)), v = .slice A ls.length cap ∧ ls.length ≤ cap ∧ cap ≤ maxLen ∧ (A = some ⟨B, O, none⟩ ∨ ls = []) ∧ Pts w B O ls ∧
    ∀ i, i < ls.length → ∀ n c, w.cell? ⟨B, O + i, none⟩ = some (.slice none n c) → c = 0

theorem bts_of_cells {w : World} {A : Option Addr} {L C : Nat} {Z : List Int} (h1 : L ≤ C) (h2 : C ≤ maxLen) (h3 : Z.length = C) (h4 : ∀ n ∈ Z, (Lit.int .u8 n).wf = true) (h5 : A = none → C = 0)
    (h6 : ∀ a', A = some a' → ∀ c, c < C → w.cell? (a'.add c) = some (.int .u8 (Z.getD c 0))) : Bts w (.slice A L C) (Z.take L) := by
  have hlen : (Z.take L).length = L := by simp; omega
  have hb : isBytes (Z.take L) := fun z hz => byte_of_wf (h4 z (List.mem_of_mem_take hz))
  cases A with
  | none =>
    have : C = 0 := h5 rfl
    have hL : L = 0 := by omega
    subst hL
    exact ⟨none, C, 0, 0, by simp, by simp, h2, hb, .inr (by simp), fun i hi => by simp at hi⟩
  | some a =>
    obtain ⟨b, off, spot⟩ := a
    have h6 := h6 _ rfl
    refine ⟨_, C, b, off, by rw [hlen], by omega, h2, hb, ?_, ?_⟩
    · by_cases h0 : L = 0
      · right; subst h0; simp
      · left
        have hs : spot = none := by simpa [Addr.add] using World.cell?_spot (h6 0 (by omega))
        subst hs; rfl
    · intro i hi
      rw [hlen] at hi
      have hs : spot = none := by simpa [Addr.add] using World.cell?_spot (h6 0 (by omega))
      subst hs
      have hc := h6 i (by omega)
      rw [add_at] at hc
      rw [getD_take _ _ _ hi]
      exact hc

section
variable {H : Type} {enc : TypeId × Value → H} {w : World} {base b0 : Nat} {held : Bool} {r : Reach} {v : Value} {d : DataW H} {ps : List MemPlace}

theorem view39 (hv : Value.okWide Try.prog w r b0 39 v) (h : DataW.Trod enc Try.prog w base (fun _ => true) held 39 v d ps) (_ : ∀ n ∈ d.weights Try.prog 39, n ≤ reachBytes) : IsParts w v := by
  obtain ⟨a0, len0, cap0, rfl⟩ := okWide_slice Try.underlying39 hv
  obtain ⟨fuel, hf⟩ := h
  rcases Go.Deep.open_int_rows Try.underlying39 Try.underlying26 Try.underlying5 cells26 cells5 hf with ⟨hcs, _⟩ | ⟨a, len, cap, A, L, C, Z, hcs, _, hl, hm, _, hrow⟩
  · simp [Value.cells] at hcs
    obtain ⟨rfl, rfl, rfl⟩ := hcs
    exact ⟨none, 0, 0, 0, [], rfl, by simp, by decide, .inr rfl, (fun i hi => by simp at hi), (fun i hi => by simp at hi)⟩
  · simp [Value.cells] at hcs
    obtain ⟨rfl, rfl, rfl⟩ := hcs
    have hlen : ((List.range len0).map fun i => (Z i).take (L i)).length = len0 := by simp
    obtain ⟨b, off, spot⟩ := a
    have hspot : 0 < len0 → spot = none := fun h => by simpa [Addr.add] using World.cell?_spot (hrow 0 (by omega)).1
    refine ⟨_, b, off, cap0, (List.range len0).map fun i => (Z i).take (L i), by rw [hlen], by omega, hm, ?_, ?_, ?_⟩
    · by_cases h0 : len0 = 0
      · right; subst h0; simp
      · left; rw [hspot (by omega)]
    · intro i hi
      rw [hlen] at hi
      have hs := hspot (by omega)
      subst hs
      obtain ⟨r1, r2, r3, r4, r5, r6, r7⟩ := hrow i (by omega)
      rw [add_at] at r1
      refine ⟨_, r1, ?_⟩
      have : ((List.range len0).map fun i => (Z i).take (L i)).getD i [] = (Z i).take (L i) := by simp [hi]
      rw [this]
      exact bts_of_cells r2 r3 r4 r5 r6 (fun a' e => (r7 a' e).2)
    · intro i hi n c hc
      rw [hlen] at hi
      have hs := hspot (by omega)
      subst hs
      obtain ⟨r1, r2, r3, r4, r5, r6, r7⟩ := hrow i (by omega)
      rw [add_at, hc] at r1
      simp at r1
      obtain ⟨e1, -, e3⟩ := r1
      rw [e3]; exact r6 e1.symm

end

end Go.Proofs.Ytcbhfdhnggdgbaa
