/- The document's Read, Sync. -/
import Derived.Test.YtafkkehcacdodaaSecRef3
set_option maxRecDepth 100000
namespace Go.Proofs.Ytafkkehcacdodaa
open Go.RowKit
attribute [local go_sem ↓] Go.wp_at_zero Go.wp_at_succ

theorem sec_getD (l : List Int) (k j : Nat) (hj : j < 64) : (sec l k).getD j 0 = l.getD (k * 64 + j) 0 := by
  unfold sec
  rw [List.getD_eq_getElem?_getD, List.getD_eq_getElem?_getD, List.getElem?_take_of_lt hj, List.getElem?_drop]

theorem row_byte {w : World} {g cap n : Nat} {l : List Int} (h : Row w 1 g cap n (bytesV l)) (j : Nat) (hj : j < l.length) : w.cell? ⟨g, j, none⟩ = some (.int .u8 (l.getD j 0)) := by
  have hl : l.length = n := by simpa using h.1
  rw [h.cell j (by omega)]
  simp [List.getElem?_eq_getElem hj]

/-- The document's Sync, under way: k bytes have been copied. -/
structure RMid (w : World) (base : Nat) (s : St) (p : ML) (k : Nat) (wr : World) : Prop where
  row : Row wr 1 p.S p.cS (s.n * 64) (bytesV (s.now.take k ++ s.sure.drop k))
  kept : ∀ q, q ≠ p.S → wr.heap[q]? = w.heap[q]?
  below : Below base w wr

theorem copied_set (a b : List Int) (k : Nat) (h : a.length = b.length) (hk : k < a.length) : (bytesV (a.take k ++ b.drop k)).set k (.int .u8 (a.getD k 0)) = bytesV (a.take (k + 1) ++ b.drop (k + 1)) := by
  apply List.ext_getElem?
  intro j
  rw [List.getElem?_set]
  by_cases e : k = j
  · subst e
    rw [if_pos rfl]
    simp only [List.length_map, List.length_append, List.length_take, List.length_drop, List.getElem?_map]
    rw [if_pos (by omega), List.getElem?_append_left (by simp; omega), List.getElem?_take_of_lt (by omega), List.getElem?_eq_getElem hk]
    simp [List.getD_eq_getElem?_getD, List.getElem?_eq_getElem hk]
  · rw [if_neg e]
    simp only [List.getElem?_map]
    congr 1
    by_cases hj : j < k
    · rw [List.getElem?_append_left (by simp; omega), List.getElem?_append_left (by simp; omega), List.getElem?_take_of_lt hj, List.getElem?_take_of_lt (by omega)]
    · rw [List.getElem?_append_right (by simp; omega), List.getElem?_append_right (by simp; omega), List.getElem?_drop, List.getElem?_drop]
      congr 1
      simp; omega

theorem MD.settle {w wr : World} {tag : Nat → Nat} {base o : Nat} {s : St} {p : ML} (h : MD w tag base o s p) (hM : RMid w base s p (s.n * 64) wr) :
    MD (wr.setCell ⟨p.M, 3, none⟩ (.slice none 0 0)) tag base o s.settled { p with sv := .slice none 0 0, bs := [] } ∧ Step tag tag base o w (wr.setCell ⟨p.M, 3, none⟩ (.slice none 0 0)) := by
  have hMS : p.M ≠ p.S := fun e => by have a := h.tM.1; have b := h.tS.1; rw [e] at a; omega
  have all : ∀ {g T : Nat}, tag g = T → T ≠ 16 * o + 1 → T ≠ 16 * o + 2 → (wr.setCell ⟨p.M, 3, none⟩ (.slice none 0 0)).heap[g]? = w.heap[g]? := fun {g T} ht n1 n2 => by
    rw [heap_setCell_other _ _ g _ (fun e => n1 (by rw [← ht, show g = p.M from e]; exact h.tM.1))]
    exact hM.kept g (fun e => n2 (by rw [← ht, e]; exact h.tS.1))
  have hr : Row wr 1 p.S p.cS (s.n * 64) (bytesV s.now) := by
    have := hM.row
    rw [List.take_of_length_le (by rw [h.ok.nl]; omega), List.drop_of_length_le (by rw [h.ok.sl]; omega), List.append_nil] at this
    exact this
  constructor
  · refine ⟨?_, hr.same (heap_setCell_other _ _ _ _ (fun e => hMS e.symm)), h.rN.same (all h.tN.1 (by omega) (by omega)), win_nil _ _, h.wO.same (fun g hg => all (h.tO g hg).1 (by omega) (by omega)), rfl, (fun k hk => by simp [St.settled] at hk), h.tM, h.tS, h.tN, (fun g hg => by simp [Value.ownBlock] at hg), h.tO, (fun k hk => by simp [St.settled] at hk), h.ok.settled⟩
    have := (h.bM.same (hM.kept p.M hMS)).set 3 (.slice none 0 0)
    simpa [St.settled] using this
  · refine Step.set ?_ h.tM.2 (by have := h.tM.1; omega) 3 _
    exact ⟨hM.below, fun _ _ => rfl, fun q hq hne => hM.kept q (fun e => hne (by rw [e]; have := h.tS.1; omega))⟩

end Go.Proofs.Ytafkkehcacdodaa
