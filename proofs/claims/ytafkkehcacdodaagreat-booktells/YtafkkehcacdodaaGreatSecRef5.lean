/- The document's Write: what its loop keeps; behind its append. -/
import Derived.Test.YtafkkehcacdodaaGreatSecRef4
import Derived.Deep.AppendLies
set_option maxRecDepth 100000
namespace Go.Proofs.YtafkkehcacdodaaGreat
open Go.RowKit

/-- The document's Write, under way: t bytes have been laid; the Write's own cells lie in block B. -/
structure RW (w1 : World) (base : Nat) (s : St) (p : ML) (l : List Int) (k t B : Nat) (vB : Value) (wr : World) : Prop where
  bW : Blk wr B [.int .i64 k, vB]
  own : wr.ownsRow (B + 1) 5 1 vB t (bytesV (l.take t))
  row : Row wr 1 p.N p.cN (s.n * 64) (bytesV (splice s.now (k * 64) (l.take t)))
  kept : ∀ q, q < B → q ≠ p.N → wr.heap[q]? = w1.heap[q]?
  size : B + 1 ≤ wr.heap.size
  below : Below base w1 wr

theorem Row.trail {w : World} {g cap n : Nat} {l m : List Int} (h : Row w 1 g cap n (bytesV l)) (e : l = m) : Row w 1 g cap n (bytesV m) := by rw [← e]; exact h

theorem splice_step (a l : List Int) (o t : Nat) (h : o + l.length ≤ a.length) (ht : t < l.length) : (bytesV (splice a o (l.take t))).set (o + t) (.int .u8 (l.getD t 0)) = bytesV (splice a o (l.take (t + 1))) := by
  apply List.ext_getElem?
  intro j
  rw [List.getElem?_set]
  have hl1 : (l.take t).length = t := by rw [List.length_take]; omega
  have hl2 : (l.take (t + 1)).length = t + 1 := by rw [List.length_take]; omega
  have hs : (splice a o (l.take t)).length = a.length := splice_length _ _ _ (by omega)
  by_cases e : o + t = j
  · subst e
    rw [if_pos rfl]
    simp only [List.length_map, hs, List.getElem?_map]
    rw [if_pos (by omega), splice_get _ _ _ _ (by omega), if_pos (by omega)]
    have : o + t - o = t := by omega
    rw [this, List.getElem?_take_of_lt (by omega), List.getElem?_eq_getElem ht]
    simp [List.getD_eq_getElem?_getD, List.getElem?_eq_getElem ht]
  · rw [if_neg e]
    simp only [List.getElem?_map]
    congr 1
    rw [splice_get _ _ _ _ (by omega), splice_get _ _ _ _ (by omega), hl1, hl2]
    by_cases hj : o ≤ j ∧ j < o + t
    · rw [if_pos hj, if_pos (by omega), List.getElem?_take_of_lt (by omega), List.getElem?_take_of_lt (by omega)]
    · rw [if_neg hj, if_neg (by omega)]

/-- Behind the append of one byte and its store. -/
theorem RW.grown {w1 : World} {base : Nat} {s : St} {p : ML} {l : List Int} {k t B : Nat} {vB : Value} {wr wx w3 : World} (h : RW w1 base s p l k t B vB wr) (hB : base ≤ B) (hpN : p.N < B) (ht : t < l.length)
    (hx : Below wr.heap.size wr wx) (g cap : Nat) (hown : w3.ownsRow (B + 1) 5 1 (.slice (some ⟨g, 0, none⟩) (t + 1) cap) (t + 1) (bytesV (l.take t) ++ [.int .u8 (l.getD t 0)])) (hgrow : wx.grownBy w3 vB.ownBlock) :
    Blk (w3.setCell ⟨B, 1, none⟩ (.slice (some ⟨g, 0, none⟩) (t + 1) cap)) B [.int .i64 k, .slice (some ⟨g, 0, none⟩) (t + 1) cap] ∧
    (w3.setCell ⟨B, 1, none⟩ (.slice (some ⟨g, 0, none⟩) (t + 1) cap)).ownsRow (B + 1) 5 1 (.slice (some ⟨g, 0, none⟩) (t + 1) cap) (t + 1) (bytesV (l.take (t + 1))) ∧
    Row (w3.setCell ⟨B, 1, none⟩ (.slice (some ⟨g, 0, none⟩) (t + 1) cap)) 1 p.N p.cN (s.n * 64) (bytesV (splice s.now (k * 64) (l.take t))) ∧
    (∀ q, q < B → q ≠ p.N → (w3.setCell ⟨B, 1, none⟩ (.slice (some ⟨g, 0, none⟩) (t + 1) cap)).heap[q]? = w1.heap[q]?) ∧
    B + 1 ≤ (w3.setCell ⟨B, 1, none⟩ (.slice (some ⟨g, 0, none⟩) (t + 1) cap)).heap.size ∧
    Below base w1 (w3.setCell ⟨B, 1, none⟩ (.slice (some ⟨g, 0, none⟩) (t + 1) cap)) ∧
    w3.cell? ⟨B, 1, none⟩ = some vB ∧ w3.frozen? ⟨B, 1, none⟩ = false := by
  have hsx := hx.size
  have hs3 : wx.heap.size ≤ w3.heap.size := hgrow.size
  have hBs := h.size
  have hv : ∀ j, vB.ownBlock = some j → B + 1 ≤ j := fun j hj => (h.own.lt j hj).1
  have e3 : ∀ q, q ≤ B → w3.heap[q]? = wr.heap[q]? := fun q hq => (hgrow.block q (by omega) (fun e => by have := hv q e.symm; omega)).trans (hx.block q (by omega))
  have b3 : Blk w3 B _ := h.bW.same (e3 B (Nat.le_refl _))
  have hb := Below.grown (h.below.trans (hx.mono (by omega))) hgrow (by omega) (fun j hj => by have := hv j hj; omega)
  refine ⟨by simpa using b3.set 1 (.slice (some ⟨g, 0, none⟩) (t + 1) cap), ?_, ?_, ?_, ?_, hb.setCell hB _, b3.cell 1, b3.frozen 1⟩
  · rw [take_snoc l t ht]
    have hg : B + 1 ≤ g := (hown.lt g rfl).1
    have := ownsRow_setCell_below hown (a := ⟨B, 1, none⟩) (by show B < B + 1; omega) (.slice (some ⟨g, 0, none⟩) (t + 1) cap)
    simpa using this
  · refine h.row.same ?_
    rw [heap_setCell_other _ _ _ _ (by show p.N ≠ B; omega)]
    exact e3 p.N (by omega)
  · intro q hq hne
    rw [heap_setCell_other _ _ _ _ (by show q ≠ B; omega), e3 q (by omega)]
    exact h.kept q hq hne
  · simp [World.setCell]; omega

/-- Behind the append of the Write itself. -/
theorem MD.written {w1 W wx w3 : World} {tag : Nat → Nat} {base o : Nat} {s : St} {p : ML} (h : MD w1 tag base o s p) (hbase : base ≤ w1.heap.size) (k : Nat) (hk : k < s.n) (l : List Int) (hl : l.length = 64) (hlb : isBytes l) (g cap : Nat)
    (hR : RW w1 base s p l k 64 w1.heap.size (.slice (some ⟨g, 0, none⟩) 64 cap) W) (hx : Below W.heap.size W wx) (v' : Value) (hgrow : wx.grownBy w3 p.sv.ownBlock) (hat : v'.ownBlock = p.sv.ownBlock ∨ v'.ownBlock = some wx.heap.size)
    (hwin : Win w3 2 v' (s.since.length + 1) (mcells s.since p.bs ++ [.int .i64 k, .slice (some ⟨g, 0, none⟩) 64 cap])) :
    ∃ p' tag', p'.M = p.M ∧ MD (w3.setCell ⟨p.M, 3, none⟩ v') tag' base o (s.wrote k l) p' ∧ Step tag tag' base o w1 (w3.setCell ⟨p.M, 3, none⟩ v') := by
  have hlt : l.take 64 = l := List.take_of_length_le (by omega)
  have hgl : w1.heap.size + 1 ≤ g ∧ g < W.heap.size := hR.own.lt g rfl
  have hsx := hx.size
  have hsW := hR.size
  have hs3 : wx.heap.size ≤ w3.heap.size := hgrow.size
  obtain ⟨tag2, ht2⟩ : ∃ tag2 : Nat → Nat, tag2 = fun q => if q = g then 16 * o + 6 else tag q := ⟨_, rfl⟩
  have t2o : ∀ q, q < w1.heap.size → tag2 q = tag q := fun q hq => by rw [ht2]; simp only; rw [if_neg (by omega)]
  have t2g : tag2 g = 16 * o + 6 := by rw [ht2]; simp
  have s1 : Step tag tag2 base o w1 W := ⟨hR.below, t2o, fun q hq hne => hR.kept q hq (fun e => hne (by rw [e]; have := h.tN.1; omega))⟩
  have s2 : Step tag tag2 base o w1 wx := s1.trans (step_below tag2 base o (by omega) hx)
  obtain ⟨s3, htv⟩ := step_grown (tag := tag2) (base := base) (T := 16 * o + 4) hgrow hat (fun q hq => ⟨by rw [t2o q (h.wS.lt q hq)]; exact (h.tV q hq).1, (h.tV q hq).2⟩) (show (16 * o + 4) / 16 = o by omega) (by omega)
  have s4 : Step tag (retag tag2 v' (16 * o + 4)) base o w1 w3 := s2.trans s3
  have hT : ∀ {q : Nat}, q < w1.heap.size → retag tag2 v' (16 * o + 4) q = tag q := fun {q} hq => s4.tags q hq
  have hTg : retag tag2 v' (16 * o + 4) g = 16 * o + 6 := by
    rw [s3.tags g (by omega)]; exact t2g
  have e3 : ∀ q, q < wx.heap.size → tag2 q ≠ 16 * o + 4 → w3.heap[q]? = wx.heap[q]? := fun q hq hne => hgrow.block q hq (fun e => hne (by rw [t2o q (h.wS.lt q e.symm)]; exact (h.tV q e.symm).1))
  have eW : ∀ q, q < w1.heap.size → tag q ≠ 16 * o + 4 → w3.heap[q]? = W.heap[q]? := fun q hq hne => (e3 q (by omega) (by rw [t2o q hq]; exact hne)).trans (hx.block q (by omega))
  have set3 : ∀ q, q ≠ p.M → (w3.setCell ⟨p.M, 3, none⟩ v').heap[q]? = w3.heap[q]? := fun q hq => heap_setCell_other _ _ q _ hq
  have all : ∀ {q T : Nat}, q < w1.heap.size → tag q = T → T ≠ 16 * o + 1 → T ≠ 16 * o + 3 → T ≠ 16 * o + 4 → (w3.setCell ⟨p.M, 3, none⟩ v').heap[q]? = w1.heap[q]? := fun {q T} hq ht n1 n3 n4 => by
    rw [set3 q (fun e => n1 (by rw [← ht, e]; exact h.tM.1)), eW q hq (by rw [ht]; exact n4)]
    exact hR.kept q hq (fun e => n3 (by rw [← ht, e]; exact h.tN.1))
  have hgM : g ≠ p.M := fun e => by have := h.bM.lt; omega
  refine ⟨{ p with sv := v', bs := p.bs ++ [(g, cap)] }, retag tag2 v' (16 * o + 4), rfl, ?_, s4.set h.tM.2 (by rw [hT h.bM.lt]; have := h.tM.1; omega) 3 _⟩
  have hrowB : Row (w3.setCell ⟨p.M, 3, none⟩ v') 1 g cap 64 (bytesV l) := by
    have := row_of_owns hR.own
    rw [hlt] at this
    refine this.same ?_
    rw [set3 g hgM, e3 g (by omega) (by rw [t2g]; omega), hx.block g (by omega)]
  refine ⟨?_, h.rS.same (all h.rS.lt h.tS.1 (by omega) (by omega) (by omega)), ?_, ?_, h.wO.same (fun q hq => all (h.wO.lt q hq) (h.tO q hq).1 (by omega) (by omega) (by omega)), ?_, ?_, ?_, ?_, ?_, htv, ?_, ?_, h.ok.wrote hk hl hlb⟩
  · have bb : Blk w3 p.M _ := (h.bM.same (hR.kept p.M h.bM.lt (fun e => by have a := h.tM.1; have b := h.tN.1; rw [e] at a; omega))).same (eW p.M h.bM.lt (by rw [h.tM.1]; omega))
    have := bb.set 3 v'
    simpa [St.wrote] using this
  · have := hR.row
    rw [hlt] at this
    show Row _ 1 p.N p.cN (s.n * 64) (bytesV (splice s.now (k * 64) l))
    refine this.same ?_
    rw [set3 p.N (fun e => by have a := h.tM.1; have b := h.tN.1; rw [e] at b; omega), eW p.N h.rN.lt (by rw [h.tN.1]; omega)]
  · have e : mcells (s.wrote k l).since (p.bs ++ [(g, cap)]) = mcells s.since p.bs ++ [.int .i64 k, .slice (some ⟨g, 0, none⟩) 64 cap] := mcells_snoc _ _ h.lb _ _
    have e' : (s.wrote k l).since.length = s.since.length + 1 := by simp [St.wrote]
    show Win _ 2 v' _ (mcells (s.wrote k l).since (p.bs ++ [(g, cap)]))
    rw [e, e']
    refine hwin.same (fun q hq => set3 q (fun e => ?_))
    have := (htv q hq).1
    rw [e, hT h.bM.lt, h.tM.1] at this
    omega
  · simp [St.wrote, h.lb]
  · intro i hi
    simp only [St.wrote, List.length_append, List.length_singleton] at hi
    by_cases hi2 : i < s.since.length
    · have r := h.bB i hi2
      have e1 : (p.bs ++ [(g, cap)]).getD i (0, 0) = p.bs.getD i (0, 0) := by
        have := h.lb
        simp [List.getD_eq_getElem?_getD, List.getElem?_append_left (show i < p.bs.length by omega)]
      have e2 : (s.wrote k l).since.getD i (0, []) = s.since.getD i (0, []) := by
        simp [St.wrote, List.getD_eq_getElem?_getD, List.getElem?_append_left hi2]
      show Row _ 1 ((p.bs ++ [(g, cap)]).getD i (0, 0)).1 ((p.bs ++ [(g, cap)]).getD i (0, 0)).2 64 _
      rw [e1, e2]
      exact r.same (all r.lt (h.tB i hi2).1 (by omega) (by omega) (by omega))
    · have hie : i = s.since.length := by omega
      have e1 : (p.bs ++ [(g, cap)]).getD i (0, 0) = (g, cap) := by
        rw [hie, h.lb]; simp [List.getD_eq_getElem?_getD]
      have e2 : (s.wrote k l).since.getD i (0, []) = (k, l) := by
        rw [hie]; simp [St.wrote, List.getD_eq_getElem?_getD]
      show Row _ 1 ((p.bs ++ [(g, cap)]).getD i (0, 0)).1 ((p.bs ++ [(g, cap)]).getD i (0, 0)).2 64 _
      rw [e1, e2]
      exact hrowB
  · exact ⟨by rw [hT h.bM.lt]; exact h.tM.1, h.tM.2⟩
  · exact ⟨by rw [hT h.rS.lt]; exact h.tS.1, h.tS.2⟩
  · exact ⟨by rw [hT h.rN.lt]; exact h.tN.1, h.tN.2⟩
  · intro q hq
    exact ⟨by rw [hT (h.wO.lt q hq)]; exact (h.tO q hq).1, (h.tO q hq).2⟩
  · intro i hi
    simp only [St.wrote, List.length_append, List.length_singleton] at hi
    by_cases hi2 : i < s.since.length
    · have e1 : (p.bs ++ [(g, cap)]).getD i (0, 0) = p.bs.getD i (0, 0) := by
        have := h.lb
        simp [List.getD_eq_getElem?_getD, List.getElem?_append_left (show i < p.bs.length by omega)]
      show retag tag2 v' (16 * o + 4) ((p.bs ++ [(g, cap)]).getD i (0, 0)).1 = _ ∧ base ≤ ((p.bs ++ [(g, cap)]).getD i (0, 0)).1
      rw [e1]
      exact ⟨by rw [hT (h.bB i hi2).lt]; exact (h.tB i hi2).1, (h.tB i hi2).2⟩
    · have hie : i = s.since.length := by omega
      have e1 : (p.bs ++ [(g, cap)]).getD i (0, 0) = (g, cap) := by
        rw [hie, h.lb]; simp [List.getD_eq_getElem?_getD]
      show retag tag2 v' (16 * o + 4) ((p.bs ++ [(g, cap)]).getD i (0, 0)).1 = _ ∧ base ≤ ((p.bs ++ [(g, cap)]).getD i (0, 0)).1
      rw [e1]
      exact ⟨hTg, by show base ≤ g; omega⟩

end Go.Proofs.YtafkkehcacdodaaGreat
