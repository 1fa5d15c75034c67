/- bytes.Join of two parts and bytes.Clone, in the words of these texts. -/
import Derived.Lib.SlParts
import Derived.Lib.SlFresh
import Derived.Test.YtdejjokgchbgnaaShelf
import Derived.Test.YtdejjokgchbgnaaCopy
set_option maxRecDepth 100000
namespace Go.Proofs.Ytdejjokgchbgnaa
open Go.RowKit

/-- A slice of bytes in new memory that may be written. -/
def Fresh (w : World) (base : Nat) (v : Value) (l : List Int) : Prop :=
  ∃ g cap : Nat, v = .slice (some ⟨g, 0, none⟩) l.length cap ∧ base ≤ g ∧ l.length ≤ cap ∧ cap ≤ maxLen ∧ isBytes l ∧ Sees w g 0 l ∧ ∀ i, i < l.length → w.frozen? ⟨g, i, none⟩ = false

theorem Fresh.bts {w : World} {base : Nat} {v : Value} {l : List Int} (h : Fresh w base v l) : Bts w v l := by
  obtain ⟨g, cap, h1, h2, h3, h4, h5, h6, h7⟩ := h
  exact ⟨_, cap, g, 0, h1, h3, h4, h5, .inl rfl, h6⟩

theorem Fresh.low {w : World} {base base' : Nat} {v : Value} {l : List Int} (h : Fresh w base v l) (hb : base' ≤ base) : Fresh w base' v l := by
  obtain ⟨g, cap, h1, h2, h3, h4, h5, h6, h7⟩ := h
  exact ⟨g, cap, h1, Nat.le_trans hb h2, h3, h4, h5, h6, h7⟩

def toU (l : List Int) : List UInt8 := Lib.bytesOf l

theorem toU_get (l : List Int) (hb : isBytes l) (i : Nat) (x : UInt8) (h : (toU l)[i]? = some x) : i < l.length ∧ (x.toNat : Int) = l.getD i 0 := by
  unfold toU Lib.bytesOf at h
  rw [List.getElem?_map] at h
  obtain ⟨y, hy, rfl⟩ := Option.map_eq_some_iff.1 h
  have hi : i < l.length := by
    rcases Nat.lt_or_ge i l.length with h | h
    · exact h
    · rw [List.getElem?_eq_none h] at hy; cases hy
  refine ⟨hi, ?_⟩
  rw [List.getElem?_eq_getElem hi] at hy
  have hyb := hb l[i] (List.getElem_mem hi)
  simp at hy
  subst hy
  simp [List.getD, List.getElem?_eq_getElem hi]
  omega

theorem toU_length (l : List Int) : (toU l).length = l.length := by simp [toU, Lib.bytesOf]

theorem toU_inj (l m : List Int) (h1 : isBytes l) (h2 : isBytes m) (h : toU l = toU m) : l = m := by
  have hl : l.length = m.length := by rw [← toU_length l, ← toU_length m, h]
  apply List.ext_getElem hl
  intro i hi hi'
  have e : i < (toU l).length := by rw [toU_length]; exact hi
  have a := toU_get l h1 i (toU l)[i] (List.getElem?_eq_getElem e)
  have b := toU_get m h2 i (toU l)[i] (by rw [← h]; exact List.getElem?_eq_getElem e)
  have : l.getD i 0 = m.getD i 0 := by rw [← a.2, ← b.2]
  simpa [List.getD, List.getElem?_eq_getElem hi, List.getElem?_eq_getElem hi'] using this

theorem holdsBytes_of {w : World} {v : Value} {l : List Int} (h : Bts w v l) : Lib.HoldsBytes w v (toU l) := by
  obtain ⟨a, cap, b, off, rfl, h2, h3, h4, h5, h6⟩ := h
  refine ⟨a, cap, by rw [toU_length], ?_, ?_⟩
  · intro e
    rcases h5 with h5 | h5
    · rw [e] at h5; cases h5
    · rw [h5]; rfl
  · intro a' ha i x hx
    obtain ⟨hi, hv⟩ := toU_get l h4 i x hx
    rcases h5 with h5 | h5
    · rw [ha] at h5
      cases h5
      rw [add_at, hv]
      exact h6 i hi
    · rw [h5] at hi; simp at hi

theorem fresh_of {w : World} {base : Nat} {v : Value} {l : List Int} (hb : isBytes l) (h : Lib.FreshBytes base w v (toU l)) : Fresh w base v l := by
  obtain ⟨g, cap, zs, hv, h1, h2, h3, h4, h5, h6, h7, h8⟩ := h
  rw [toU_length] at hv h2 h6
  have hz : zs.take l.length = l := toU_inj _ _ (fun z hz => h5 z (List.mem_of_mem_take hz)) hb h6
  refine ⟨g, cap, hv, h1, h2, h3, hb, ?_, fun i hi => h8 i (by omega)⟩
  intro i hi
  rw [Nat.zero_add, h7 i (by omega)]
  congr 2
  conv => rhs; rw [← hz]
  rw [getD_take _ _ _ hi]

/-- Clone of bytes that are there. -/
theorem clone_any (b off n c : Nat) (l : List Int) (w : World) (hL : l.length = n) (hs : Sees w b off l) (hr : n ≤ 140737488355328) :
    Calls Try.prog 58 #[.slice (some ⟨b, off, none⟩) n c] w fun e w' => ∃ v, e = .returned v ∧ Owns w' w.heap.size v l ∧ Below w.heap.size w w' := by
  refine (Try.bytes_Clone_at ⟨b, off, none⟩ n c l w hL hr (fun i hi => by rw [add_at]; exact hs i (by omega))).mono ?_
  rintro e w' ⟨v, rfl, ho, -, hbel⟩
  exact ⟨v, rfl, by unfold Owns; rw [hL]; exact ho, hbel⟩
end Go.Proofs.Ytdejjokgchbgnaa
