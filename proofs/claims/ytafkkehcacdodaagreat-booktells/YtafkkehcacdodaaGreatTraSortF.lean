/- slices.SortFunc of a row of spans, by their beginnings. -/
import Derived.Test.YtafkkehcacdodaaGreatTraRows
import Derived.Test.YtafkkehcacdodaaGreatSpShelf
set_option maxRecDepth 100000
namespace Go.Proofs.YtafkkehcacdodaaGreat
open Go.RowKit Go.Shelf Go.Sort

/-- How two numbers stand. -/
def cmpT (x y : Int) : Int := if x < y then -1 else if y < x then 1 else 0

theorem ltOf_cmp (x y : Sp) : ltOf (fun x y : Sp => cmpT x.frm y.frm) x y = decide (x.frm < y.frm) := by
  unfold ltOf cmpT
  by_cases h1 : x.frm < y.frm
  · simp [h1]
  · by_cases h2 : y.frm < x.frm <;> simp [h1, h2]

theorem swo_cmp : SWO (ltOf fun x y : Sp => cmpT x.frm y.frm) where
  irrefl x := by rw [ltOf_cmp]; simp
  trans x y z h1 h2 := by rw [ltOf_cmp] at *; simp at *; omega
  ntrans x y z h1 h2 := by rw [ltOf_cmp] at *; simp at *; omega

/-- A row of the call's own, laid anew. -/
theorem ownsRow_put {W : World} {base g n cap size m : Nat} {e : TypeId} {xs : List Value} {os : Array Obj} (h : W.ownsRow base e size (.slice (some ⟨g, 0, none⟩) n cap) n xs) (F : Array Value) (hF : F.size = n * size) :
    (grow (putRow id (Sort.ahead W m) g 0 F) os).ownsRow base e size (.slice (some ⟨g, 0, none⟩) n cap) n F.toList := by
  refine ⟨by simp [hF], ?_⟩
  rcases h.2 with ⟨hn, _⟩ | ⟨g', cap', cur, hv, h1, h2, h3, h4, h5, h6⟩
  · cases hn
  · injection hv with ha _ hc
    injection ha with ha
    injection ha with hg
    subst hg
    subst hc
    have hgl : g < W.heap.size := (Array.getElem?_eq_some_iff.1 h2).1
    have hsz : n * size ≤ cap * size := Nat.mul_le_mul_right _ h3
    refine .inr ⟨g, cap, putCells id 0 F cur, rfl, h1, ?_, h3, h4, by simp [putCells, h5], ?_⟩
    · rw [heap_grow_old _ _ (by simpa using hgl)]
      simp [putRow, mapBlock, Sort.ahead, Array.getElem?_modify, h2, onCells]
    · apply List.ext_getElem?
      intro j
      by_cases hj : j < n * size
      · have hjF : j < F.size := by omega
        rw [List.getElem?_take_of_lt hj, Array.getElem?_toList, Array.getElem?_toList]
        simp [putCells, hjF, show j < cur.size by omega]
      · rw [List.getElem?_take_eq_none (by omega), List.getElem?_eq_none (by simp [hF]; omega)]

theorem grown_put {W : World} {g m : Nat} {os : Array Obj} (F : Array Value) : W.grownBy (grow (putRow id (Sort.ahead W m) g 0 F) os) (some g) := by
  refine ⟨rfl, rfl, rfl, by simp, fun k hk hne => ?_⟩
  rw [heap_grow_old _ _ (by simpa using hk)]
  have : g ≠ k := fun e => hne (by rw [e])
  simp [putRow, mapBlock, Sort.ahead, Array.getElem?_modify, this]

theorem flatK_list (l : List Sp) : (flatK spC 6 l.toArray).toList = l.flatMap spC := by
  apply List.ext_getElem?
  intro j
  have hl := flat_length spC_length l
  have hs : (flatK spC 6 l.toArray).size = l.length * 6 := by simp
  by_cases hj : j < l.length * 6
  · rw [Array.getElem?_toList, Array.getElem?_eq_getElem (by omega)]
    have h1 := get_flatK spC 6 l.toArray j (by simpa using hj)
    rw [getElem!_pos _ j (by omega)] at h1
    rw [h1]
    have hi : j / 6 < l.length := by omega
    have h2 := flat_get spC_length (l := l) (i := j / 6) (j := j % 6) (List.getElem?_eq_getElem hi) (Nat.mod_lt _ (by decide))
    rw [show j / 6 * 6 + j % 6 = j by omega] at h2
    rw [h2, List.getElem?_eq_getElem (by rw [spC_length]; exact Nat.mod_lt _ (by decide))]
    congr 1
    rw [getElem!_pos (l.toArray) (j / 6) (by simpa using hi), getElem!_pos (spC _) (j % 6) (by rw [spC_length]; exact Nat.mod_lt _ (by decide))]
    rfl
  · rw [Array.getElem?_toList, Array.getElem?_eq_none (by omega), List.getElem?_eq_none (by omega)]

end Go.Proofs.YtafkkehcacdodaaGreat
