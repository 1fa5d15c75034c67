/- The document's Write: what its loop keeps; behind its append. -/
import Derived.Test.YtafkkehcacdodaaGreatM13
import Derived.Deep.AppendLies
set_option maxRecDepth 100000
namespace Go.Proofs.YtafkkehcacdodaaGreat
open Go.RowKit

/-- The document's Write, under way: t bytes have been laid; the Write's own cells lie in block B. -/
structure RW (w1 : World) (base : Nat) (s : St) (p : ML) (l : List Int) (k t B : Nat) (vB : Value) (wr : World) : Prop where
  bW : Blk wr B [.int .i64 k, vB]
  own : wr.ownsRow (B + 1) 5 1 vB t (bytesV (l.take t))
  row : Row wr 1 p.N p.cN (s.n * 64) (bytesV (splice s.now (k * 64) (l.take t)))
  kept : ∀ q, q < B → q ≠ p.N → wr.heap[q]? = w1.heap[q]?
  size : B + 1 ≤ wr.heap.size
  below : Below base w1 wr

theorem Row.trail {w : World} {g cap n : Nat} {l m : List Int} (h : Row w 1 g cap n (bytesV l)) (e : l = m) : Row w 1 g cap n (bytesV m) := by rw [← e]; exact h

theorem splice_step (a l : List Int) (o t : Nat) (h : o + l.length ≤ a.length) (ht : t < l.length) : (bytesV (splice a o (l.take t))).set (o + t) (.int .u8 (l.getD t 0)) = bytesV (splice a o (l.take (t + 1))) := by
  apply List.ext_getElem?
  intro j
  rw [List.getElem?_set]
  have hl1 : (l.take t).length = t := by rw [List.length_take]; omega
  have hl2 : (l.take (t + 1)).length = t + 1 := by rw [List.length_take]; omega
  have hs : (splice a o (l.take t)).length = a.length := splice_length _ _ _ (by omega)
  by_cases e : o + t = j
  · subst e
    rw [if_pos rfl]
    simp only [List.length_map, hs, List.getElem?_map]
    rw [if_pos (by omega), splice_get _ _ _ _ (by omega), if_pos (by omega)]
    have : o + t - o = t := by omega
    rw [this, List.getElem?_take_of_lt (by omega), List.getElem?_eq_getElem ht]
    simp [List.getD_eq_getElem?_getD, List.getElem?_eq_getElem ht]
  · rw [if_neg e]
    simp only [List.getElem?_map]
    congr 1
    rw [splice_get _ _ _ _ (by omega), splice_get _ _ _ _ (by omega), hl1, hl2]
    by_cases hj : o ≤ j ∧ j < o + t
    · rw [if_pos hj, if_pos (by omega), List.getElem?_take_of_lt (by omega), List.getElem?_take_of_lt (by omega)]
    · rw [if_neg hj, if_neg (by omega)]

/-- Behind the append of one byte and its store. -/
theorem RW.grown {w1 : World} {base : Nat} {s : St} {p : ML} {l : List Int} {k t B : Nat} {vB : Value} {wr wx w3 : World} (h : RW w1 base s p l k t B vB wr) (hB : base ≤ B) (hpN : p.N < B) (ht : t < l.length)
    (hx : Below wr.heap.size wr wx) (g cap : Nat) (hown : w3.ownsRow (B + 1) 5 1 (.slice (some ⟨g, 0, none⟩) (t + 1) cap) (t + 1) (bytesV (l.take t) ++ [.int .u8 (l.getD t 0)])) (hgrow : wx.grownBy w3 vB.ownBlock) :
    Blk (w3.setCell ⟨B, 1, none⟩ (.slice (some ⟨g, 0, none⟩) (t + 1) cap)) B [.int .i64 k, .slice (some ⟨g, 0, none⟩) (t + 1) cap] ∧
    (w3.setCell ⟨B, 1, none⟩ (.slice (some ⟨g, 0, none⟩) (t + 1) cap)).ownsRow (B + 1) 5 1 (.slice (some ⟨g, 0, none⟩) (t + 1) cap) (t + 1) (bytesV (l.take (t + 1))) ∧
    Row (w3.setCell ⟨B, 1, none⟩ (.slice (some ⟨g, 0, none⟩) (t + 1) cap)) 1 p.N p.cN (s.n * 64) (bytesV (splice s.now (k * 64) (l.take t))) ∧
    (∀ q, q < B → q ≠ p.N → (w3.setCell ⟨B, 1, none⟩ (.slice (some ⟨g, 0, none⟩) (t + 1) cap)).heap[q]? = w1.heap[q]?) ∧
    B + 1 ≤ (w3.setCell ⟨B, 1, none⟩ (.slice (some ⟨g, 0, none⟩) (t + 1) cap)).heap.size ∧
    Below base w1 (w3.setCell ⟨B, 1, none⟩ (.slice (some ⟨g, 0, none⟩) (t + 1) cap)) ∧
    w3.cell? ⟨B, 1, none⟩ = some vB ∧ w3.frozen? ⟨B, 1, none⟩ = false := by
  have hsx := hx.size
  have hs3 : wx.heap.size ≤ w3.heap.size := hgrow.size
  have hBs := h.size
  have hv : ∀ j, vB.ownBlock = some j → B + 1 ≤ j := fun j hj => (h.own.lt j hj).1
  have e3 : ∀ q, q ≤ B → w3.heap[q]? = wr.heap[q]? := fun q hq => (hgrow.block q (by omega) (fun e => by have := hv q e.symm; omega)).trans (hx.block q (by omega))
  have b3 : Blk w3 B _ := h.bW.same (e3 B (Nat.le_refl _))
  have hb := Below.grown (h.below.trans (hx.mono (by omega))) hgrow (by omega) (fun j hj => by have := hv j hj; omega)
  refine ⟨by simpa using b3.set 1 (.slice (some ⟨g, 0, none⟩) (t + 1) cap), ?_, ?_, ?_, ?_, hb.setCell hB _, b3.cell 1, b3.frozen 1⟩
  · rw [take_snoc l t ht]
    have hg : B + 1 ≤ g := (hown.lt g rfl).1
    have := ownsRow_setCell_below hown (a := ⟨B, 1, none⟩) (by show B < B + 1; omega) (.slice (some ⟨g, 0, none⟩) (t + 1) cap)
    simpa using this
  · refine h.row.same ?_
    rw [heap_setCell_other _ _ _ _ (by show p.N ≠ B; omega)]
    exact e3 p.N (by omega)
  · intro q hq hne
    rw [heap_setCell_other _ _ _ _ (by show q ≠ B; omega), e3 q (by omega)]
    exact h.kept q hq hne
  · simp [World.setCell]; omega

/-- Behind the append of the Write itself. -/
theorem MD.written {w1 W wx w3 : World} {tag : Nat → Nat} {base o : Nat} {s : St} {p : ML} (h : MD w1 tag base o s p) (hbase : base ≤ w1.heap.size) (k : Nat) (hk : k < s.n) (l : List Int) (hl : l.length = 64) (hlb : isBytes l) (g cap : Nat)
    (hR : RW w1 base s p l k 64 w1.heap.size (.slice (some ⟨g, 0, none⟩) 64 cap) W) (hx : Below W.heap.size W wx) (v' : Value) (hgrow : wx.grownBy w3 p.sv.ownBlock) (hat : v'.ownBlock = p.sv.ownBlock ∨ v'.ownBlock = some wx.heap.size)
    (hwin : Win w3 2 v' (s.since.length + 1) (mcells s.since p.bs ++ [.int .i64 k, .slice (some ⟨g, 0, none⟩) 64 cap])) :
    ∃ p' tag', p'.M = p.M ∧ MD (w3.setCell ⟨p.M, 3, none⟩ v') tag' base o (s.wrote k l) p' ∧ Step tag tag' base o w1 (w3.setCell ⟨p.M, 3, none⟩ v') := by
  have hlt : l.take 64 = l := List.take_of_length_le (by omega)
  have hgl : w1.heap.size + 1 ≤ g ∧ g < W.heap.size := hR.own.lt g rfl
  have hsx := hx.size
  have hsW := hR.size
  have hs3 : wx.heap.size ≤ w3.heap.size := hgrow.size
  obtain ⟨tag2, ht2⟩ : ∃ tag2 : Nat → Nat, tag2 = fun q => if q = g then 16 * o + 6 else tag q := ⟨_, rfl⟩
  have t2o : ∀ q, q < w1.heap.size → tag2 q = tag q := fun q hq => by rw [ht2]; simp only; rw [if_neg (by omega)]
  have t2g : tag2 g = 16 * o + 6 := by rw [ht2]; simp
  have s1 : Step tag tag2 base o w1 W := ⟨hR.below, t2o, fun q hq hne => hR.kept q hq (fun e => hne (by rw [e]; have := h.tN.1; omega))⟩
  have s2 : Step tag tag2 base o w1 wx := s1.trans (step_below tag2 base o (by omega) hx)
  obtain ⟨s3, htv⟩ := step_grown (tag := tag2) (base := base) (T := 16 * o + 4) hgrow hat (fun q hq => ⟨by rw [t2o q (h.wS.lt q hq)]; exact (h.tV q hq).1, (h.tV q hq).2⟩) (show (16 * o + 4) / 16 = o by omega) (by omega)
  have s4 : Step tag (retag tag2 v' (16 * o + 4)) base o w1 w3 := s2.trans s3
  have hT : ∀ {q : Nat}, q < w1.heap.size → retag tag2 v' (16 * o + 4) q = tag q := fun {q} hq => s4.tags q hq
  have hTg : retag tag2 v' (16 * o + 4) g = 16 * o + 6 := by
    rw [s3.tags g (by omega)]; exact t2g
  have e3 : ∀ q, q < wx.heap.size → tag2 q ≠ 16 * o + 4 → w3.heap[q]? = wx.heap[q]? := fun q hq hne => hgrow.block q hq (fun e => hne (by rw [t2o q (h.wS.lt q e.symm)]; exact (h.tV q e.symm).1))
  have eW : ∀ q, q < w1.heap.size → tag q ≠ 16 * o + 4 → w3.heap[q]? = W.heap[q]? := fun q hq hne => (e3 q (by omega) (by rw [t2o q hq]; exact hne)).trans (hx.block q (by omega))
  have set3 : ∀ q, q ≠ p.M → (w3.setCell ⟨p.M, 3, none⟩ v').heap[q]? = w3.heap[q]? := fun q hq => heap_setCell_other _ _ q _ hq
  have all : ∀ {q T : Nat}, q < w1.heap.size → tag q = T → T ≠ 16 * o + 1 → T ≠ 16 * o + 3 → T ≠ 16 * o + 4 → (w3.setCell ⟨p.M, 3, none⟩ v').heap[q]? = w1.heap[q]? := fun {q T} hq ht n1 n3 n4 => by
    rw [set3 q (fun e => n1 (by rw [← ht, e]; exact h.tM.1)), eW q hq (by rw [ht]; exact n4)]
    exact hR.kept q hq (fun e => n3 (by rw [← ht, e]; exact h.tN.1))
  have hgM : g ≠ p.M := fun e => by have := h.bM.lt; omega
  refine ⟨{ p with sv := v', bs := p.bs ++ [(g, cap)] }, retag tag2 v' (16 * o + 4), rfl, ?_, s4.set h.tM.2 (by rw [hT h.bM.lt]; have := h.tM.1; omega) 3 _⟩
  have hrowB : Row (w3.setCell ⟨p.M, 3, none⟩ v') 1 g cap 64 (bytesV l) := by
    have := row_of_owns hR.own
    rw [hlt] at this
    refine this.same ?_
    rw [set3 g hgM, e3 g (by omega) (by rw [t2g]; omega), hx.block g (by omega)]
  refine ⟨?_, h.rS.same (all h.rS.lt h.tS.1 (by omega) (by omega) (by omega)), ?_, ?_, h.wO.same (fun q hq => all (h.wO.lt q hq) (h.tO q hq).1 (by omega) (by omega) (by omega)), ?_, ?_, ?_, ?_, ?_, htv, ?_, ?_, h.ok.wrote hk hl hlb⟩
  · have bb : Blk w3 p.M _ := (h.bM.same (hR.kept p.M h.bM.lt (fun e => by have a := h.tM.1; have b := h.tN.1; rw [e] at a; omega))).same (eW p.M h.bM.lt (by rw [h.tM.1]; omega))
    have := bb.set 3 v'
    simpa [St.wrote] using this
  · have := hR.row
    rw [hlt] at this
    show Row _ 1 p.N p.cN (s.n * 64) (bytesV (splice s.now (k * 64) l))
    refine this.same ?_
    rw [set3 p.N (fun e => by have a := h.tM.1; have b := h.tN.1; rw [e] at b; omega), eW p.N h.rN.lt (by rw [h.tN.1]; omega)]
  · have e : mcells (s.wrote k l).since (p.bs ++ [(g, cap)]) = mcells s.since p.bs ++ [.int .i64 k, .slice (some ⟨g, 0, none⟩) 64 cap] := mcells_snoc _ _ h.lb _ _
    have e' : (s.wrote k l).since.length = s.since.length + 1 := by simp [St.wrote]
    show Win _ 2 v' _ (mcells (s.wrote k l).since (p.bs ++ [(g, cap)]))
    rw [e, e']
    refine hwin.same (fun q hq => set3 q (fun e => ?_))
    have := (htv q hq).1
    rw [e, hT h.bM.lt, h.tM.1] at this
    omega
  · simp [St.wrote, h.lb]
  · intro i hi
    simp only [St.wrote, List.length_append, List.length_singleton] at hi
    by_cases hi2 : i < s.since.length
    · have r := h.bB i hi2
      have e1 : (p.bs ++ [(g, cap)]).getD i (0, 0) = p.bs.getD i (0, 0) := by
        have := h.lb
        simp [List.getD_eq_getElem?_getD, List.getElem?_append_left (show i < p.bs.length by omega)]
      have e2 : (s.wrote k l).since.getD i (0, []) = s.since.getD i (0, []) := by
        simp [St.wrote, List.getD_eq_getElem?_getD, List.getElem?_append_left hi2]
      show Row _ 1 ((p.bs ++ [(g, cap)]).getD i (0, 0)).1 ((p.bs ++ [(g, cap)]).getD i (0, 0)).2 64 _
      rw [e1, e2]
      exact r.same (all r.lt (h.tB i hi2).1 (by omega) (by omega) (by omega))
    · have hie : i = s.since.length := by omega
      have e1 : (p.bs ++ [(g, cap)]).getD i (0, 0) = (g, cap) := by
        rw [hie, h.lb]; simp [List.getD_eq_getElem?_getD]
      have e2 : (s.wrote k l).since.getD i (0, []) = (k, l) := by
        rw [hie]; simp [St.wrote, List.getD_eq_getElem?_getD]
      show Row _ 1 ((p.bs ++ [(g, cap)]).getD i (0, 0)).1 ((p.bs ++ [(g, cap)]).getD i (0, 0)).2 64 _
      rw [e1, e2]
      exact hrowB
  · exact ⟨by rw [hT h.bM.lt]; exact h.tM.1, h.tM.2⟩
  · exact ⟨by rw [hT h.rS.lt]; exact h.tS.1, h.tS.2⟩
  · exact ⟨by rw [hT h.rN.lt]; exact h.tN.1, h.tN.2⟩
  · intro q hq
    exact ⟨by rw [hT (h.wO.lt q hq)]; exact (h.tO q hq).1, (h.tO q hq).2⟩
  · intro i hi
    simp only [St.wrote, List.length_append, List.length_singleton] at hi
    by_cases hi2 : i < s.since.length
    · have e1 : (p.bs ++ [(g, cap)]).getD i (0, 0) = p.bs.getD i (0, 0) := by
        have := h.lb
        simp [List.getD_eq_getElem?_getD, List.getElem?_append_left (show i < p.bs.length by omega)]
      show retag tag2 v' (16 * o + 4) ((p.bs ++ [(g, cap)]).getD i (0, 0)).1 = _ ∧ base ≤ ((p.bs ++ [(g, cap)]).getD i (0, 0)).1
      rw [e1]
      exact ⟨by rw [hT (h.bB i hi2).lt]; exact (h.tB i hi2).1, (h.tB i hi2).2⟩
    · have hie : i = s.since.length := by omega
      have e1 : (p.bs ++ [(g, cap)]).getD i (0, 0) = (g, cap) := by
        rw [hie, h.lb]; simp [List.getD_eq_getElem?_getD]
      show retag tag2 v' (16 * o + 4) ((p.bs ++ [(g, cap)]).getD i (0, 0)).1 = _ ∧ base ≤ ((p.bs ++ [(g, cap)]).getD i (0, 0)).1
      rw [e1]
      exact ⟨hTg, by show base ≤ g; omega⟩

end Go.Proofs.YtafkkehcacdodaaGreat

namespace Go.Proofs.YtafkkehcacdodaaGreat
open Go.RowKit
attribute [local go_sem ↓] Go.wp_at_zero Go.wp_at_succ

theorem infoRW : (Tryz.prog.info? 108).map (fun i => (i.zero, i.size, i.bytes)) = some (some (.agg #[.int .i64 0, .slice none 0 0]), 2, 32) := by kernel_rfl

set_option maxHeartbeats 1000000 in
theorem rwrite_no (w : World) (tag : Nat → Nat) (base o : Nat) (s : St) (p : ML) (h : MD w tag base o s p) (k : Int) (v : Value) (l : List Int) (hv : Bts w v l) (hk : hasB s.n k = false ∨ l.length ≠ 64) :
    Calls Tryz.prog 104 #[.pointer (some ⟨p.M, 0, none⟩), .int .i64 k, v] w fun e w' => e = .returned (.int .i64 1) ∧ w' = w := by
  obtain ⟨a, c, rfl, hl, hm, _⟩ := bts_src hv
  unfold maxLen at hm
  have h0 := h.m0
  clear h hv
  unfold hasB at hk
  simp only [decide_eq_false_iff_not] at hk
  by_cases h1 : k < 0
  · go_enter Tryz.func104, Tryz.ntmps104
    go_wp2
    go_ret
    exact ⟨rfl, rfl⟩
  · by_cases h2 : (s.n : Int) ≤ k
    · clear hk
      go_enter Tryz.func104, Tryz.ntmps104
      go_wp2
      go_ret
      exact ⟨rfl, rfl⟩
    · have hne : ((l.length : Int) != 64) = true := by
        rw [bne_iff_ne]; rcases hk with hk | hk <;> omega
      clear hk
      go_enter Tryz.func104, Tryz.ntmps104
      go_wp2
      go_ret
      exact ⟨rfl, rfl⟩

set_option maxHeartbeats 1000000 in
theorem rwrite_fail (w : World) (tag : Nat → Nat) (base o : Nat) (s : St) (p : ML) (h : MD w tag base o s p) (k : Nat) (hk : k < s.n) (v : Value) (l : List Int) (hv : Bts w v l) (hl : l.length = 64)
    (hops : s.ops ≤ 1000000) (hout : s.outs.length ≤ 1000000) (hd : doneB s.out = false) :
    Calls Tryz.prog 104 #[.pointer (some ⟨p.M, 0, none⟩), .int .i64 k, v] w fun e w' => e = .returned (.int .i64 (errC s.out)) ∧ ∃ p', p'.M = p.M ∧ MD w' tag base o s.take p' ∧ Step tag tag base o w w' := by
  have HA := rtake_ok w tag base o s p h hops hout
  have h0 := h.m0
  obtain ⟨a, c, hvs, hlc, hmc, _⟩ := bts_src hv
  rw [hl] at hvs hlc
  unfold maxLen at hmc
  subst hvs
  have h1 : ¬ (k : Int) < 0 := by omega
  have h2 : ¬ (s.n : Int) ≤ (k : Int) := by omega
  clear h hv hl
  go_enter Tryz.func104, Tryz.ntmps104
  go_wp2_with (go_at_call 106; refine HA.mono ?_; rintro e w1 ⟨rfl, p1, hD, hP, hS⟩)
  go_ret
  exact ⟨rfl, p1, hD, hP, hS⟩

set_option maxHeartbeats 8000000 in
theorem rwrite_done (w : World) (tag : Nat → Nat) (base o : Nat) (s : St) (p : ML) (h : MD w tag base o s p) (hbase : base ≤ w.heap.size) (k : Nat) (hk : k < s.n) (v : Value) (l : List Int) (hv : Bts w v l) (hl : l.length = 64)
    (hvo : ∀ g, v.ownBlock = some g → tag g / 16 ≠ o) (hops : s.ops ≤ 1000000) (hout : s.outs.length ≤ 1000000) (hsin : s.since.length ≤ 1000000) (hd : doneB s.out = true) :
    Calls Tryz.prog 104 #[.pointer (some ⟨p.M, 0, none⟩), .int .i64 k, v] w fun e w' => e = .returned (.int .i64 (errC s.out)) ∧ ∃ p' tag', p'.M = p.M ∧ MD w' tag' base o (s.take.wrote k l) p' ∧ Step tag tag' base o w w' := by
  obtain ⟨i0, hi, hz0, hz1, hz2⟩ := info_parts info5
  obtain ⟨i1, hi1, hy0, hy1, hy2⟩ := info_parts infoRW
  have HA := rtake_ok w tag base o s p h hops hout
  have h0 := h.m0
  have hlb : isBytes l := by obtain ⟨_, _, _, _, _, _, _, hb, _⟩ := hv; exact hb
  have HV : Hid (Bts w v l) := hv
  have HVO : Hid (∀ g, v.ownBlock = some g → tag g / 16 ≠ o) := hvo
  obtain ⟨a, cap, b, off, hvs, hlc, hmc, _, ha, hsees⟩ := hv
  rcases ha with rfl | hnil
  case inr => rw [hnil] at hl; simp at hl
  have hblt : b < w.heap.size := by
    have := hsees 0 (by omega)
    exact World.block_lt_of_cell? w _ this
  rw [hl] at hvs hlc
  unfold maxLen at hmc
  subst hvs
  have h1 : ¬ (k : Int) < 0 := by omega
  have h2 : ¬ (s.n : Int) ≤ (k : Int) := by omega
  have HLB : Hid (isBytes l) := hlb
  have HLL : Hid (l.length = 64) := hl
  have HB : Hid (base ≤ w.heap.size) := hbase
  clear h hl hsees hlb hbase hvo
  go_enter Tryz.func104, Tryz.ntmps104
  go_wp2_with (go_at_call 106; refine HA.mono ?_; rintro e w1 ⟨rfl, p1, hD, hP, hS⟩)
  clear HA h0
  have hs1 := hS.below.size
  have HP : Hid (MD w1 tag base o s.take p1) := hP
  have HS : Hid (Step tag tag base o w w1) := hS
  have HB1 : Hid (base ≤ w1.heap.size) := Nat.le_trans HB.out hs1
  have HBL : Hid (b < w1.heap.size) := Nat.lt_of_lt_of_le hblt hs1
  have hbN : Hid (b ≠ p1.N) := fun e => by have a := HVO.out b rfl; have c := hP.tN.1; rw [e, c] at a; omega
  have hnM : Hid (p1.M ≠ p1.N) := fun e => by have a := hP.tM.1; have c := hP.tN.1; rw [e] at a; omega
  have HNB : Hid (p1.N < w1.heap.size) := hP.rN.lt
  have HMB : Hid (p1.M < w1.heap.size) := hP.bM.lt
  have HBs : Hid (Sees w1 b off l) := by
    have := bts_other HV.out hS HVO.out
    obtain ⟨a', cap', b', off', e, _, _, _, ha', hs'⟩ := this
    simp only [Value.slice.injEq] at e
    rcases ha' with rfl | hn
    · have := e.1
      simp only [Option.some.injEq, Addr.mk.injEq, and_true] at this
      obtain ⟨rfl, rfl⟩ := this
      exact hs'
    · have := HLL.out; rw [hn] at this; simp at this
  obtain ⟨L, hL⟩ : ∃ L : Nat, L = s.n * 64 := ⟨_, rfl⟩
  have HL : Hid (L = s.n * 64) := hL
  have hLm : L ≤ 262144 := by have : s.n ≤ 4096 := hP.ok.n2; omega
  have hcN : L ≤ p1.cN := by rw [hL]; exact hP.rN.2.1
  have hcN2 : p1.cN ≤ 9223372036854775807 := hP.rN.2.2.1
  have HNL : Hid (s.now.length = L) := by show _ = _; rw [hL]; exact hP.ok.nl
  obtain ⟨A, hA⟩ : ∃ A : Nat, A = k * 64 := ⟨_, rfl⟩
  have HAk : Hid (A = k * 64) := hA
  have hAL : A + 64 ≤ L := by omega
  have e1 : IntKind.i64.wrap ((k : Int) * 64) = (A : Int) := by rw [IntWalk.i64_in _ (by omega)]; omega
  have HK : Hid (k < s.n) := hk
  clear hP hS hL hA hblt hs1 h1 h2 hk
  go_wp2
  go_loopw [10] (fun i wr => ∃ (t : Nat) (vB : Value), t ≤ 64 ∧ i = .int .i64 t ∧ RW w1 base s.take p1 l k t w1.heap.size vB wr) (fun i _ => 64 - (intOf i).toNat)
  case atStart =>
    refine ⟨0, .slice none 0 0, Nat.zero_le _, rfl, blk_new w1 _ _, World.ownsRow_nil _ _ _ _, ?_, fun q hq _ => Below.heap_alloc _ _ _ hq, by simp, (Below.refl _ _).alloc HB1.out _⟩
    have := HP.out.rN.later (below_alloc w1 (.cells #[.int .i64 k, .slice none 0 0] 108))
    simpa [splice_nil] using this
  case round =>
    obtain ⟨t, vB, ht, rfl, hR⟩ := hrel
    have hN1 : p1.N < w1.heap.size := HNB.out
    have hsz := hR.size
    by_cases hlt : t < 64
    · have hltI : (t : Int) < 64 := by omega
      have cB : wr.cell? ⟨w1.heap.size, 1, none⟩ = some vB := hR.bW.cell 1
      have cb : wr.cell? ⟨b, off + t, none⟩ = some (.int .u8 (l.getD t 0)) := by
        have := HBs.out t (by rw [HLL.out]; exact hlt)
        rw [World.cell?_of_block (w := w1) (a := ⟨b, off + t, none⟩) (hR.kept b HBL.out hbN.out)]; exact this
      have hb1 : b < wr.heap.size := Nat.lt_of_lt_of_le HBL.out (by omega)
      have hB9 : w1.heap.size < wr.heap.size := by omega
      have hHf := fun wx w3 hx g c ho hg => RW.grown (w3 := w3) (wx := wx) hR HB1.out hN1 (by rw [HLL.out]; exact hlt) hx g c ho hg
      have HF : Hid _ := hHf
      have hown := hR.own
      have HR : Hid (RW w1 base s.take p1 l k t w1.heap.size vB wr) := hR
      obtain ⟨va, vc, hvB⟩ : ∃ a c, vB = .slice a t c := by
        rcases hR.own.2 with ⟨hv, ht0⟩ | ⟨g, c, _, hv, _⟩
        · exact ⟨none, 0, by rw [hv, ht0]⟩
        · exact ⟨_, _, hv⟩
      subst hvB
      have hst := splice_step s.now l A t (by rw [HLL.out, HNL.out]; omega) (by rw [HLL.out]; exact hlt)
      have HST : Hid _ := hst
      clear hHf hR hst
      generalize hC : l.getD t 0 = c at *
      have HC : Hid (l.getD t 0 = c) := hC
      clear hC
      go_wp2
      go_region_law ((refine step_append_lies _ rfl (.tmp 41) (.tmp 46) 39 rfl (w1.heap.size + 1) 5 i0 (.int .u8 0) 1 1 Tryz.underlying39 hi hz0 hz1 hz2 rfl (by decide) (.slice va t vc) t (bytesV (l.take t)) (by rfl) (by exact (World.ownsRow.alloc hown _).drew) ⟨wr.heap.size, 0, none⟩ 1 1 [.int .u8 c] (by rfl) rfl (by exact news_new wr #[.int .u8 c] 5) (by intro u hu; simp at hu; subst hu; rfl) (by omega) (by unfold maxLen; omega) (by omega) (by simp; omega) (wr.heap.size + 1) (by simp) ?_; intro g cap3 w3 hown3 hgrow hat hg3; obtain ⟨F1, F2, F3, F4, F5, F6, F7, F8⟩ := HF.out _ w3 (below_alloc wr _).drew g cap3 hown3 hgrow))
      all_goals
        clear HF F7 F8 hat hg3 hown3 hgrow hown cB
        generalize w3.setCell ⟨w1.heap.size, 1, none⟩ (.slice (some ⟨g, 0, none⟩) (t + 1) cap3) = W at *
        have hbM := HP.out.bM.same (F4 p1.M HMB.out hnM.out)
        have c2 : W.cell? ⟨p.M, 2, none⟩ = some (.slice (some ⟨p1.N, 0, none⟩) L p1.cN) := by rw [← hD, HL.out]; exact hbM.cell 2
        have cb2 : W.cell? ⟨b, off + t, none⟩ = some (.int .u8 c) := by
          have := HBs.out t (by rw [HLL.out]; exact hlt)
          rw [HC.out] at this
          rw [World.cell?_of_block (w := w1) (a := ⟨b, off + t, none⟩) (F4 b HBL.out hbN.out)]; exact this
        obtain ⟨q, hq⟩ : ∃ q : Nat, q = A + t := ⟨_, rfl⟩
        have HQ : Hid (q = A + t) := hq
        have e2 : IntKind.i64.wrap ((A : Int) + (t : Int)) = (q : Int) := by rw [IntWalk.i64_in _ (by omega)]; omega
        have hqL : (q : Int) < (L : Int) := by omega
        have hqn : q < s.n * 64 := by have := HL.out; omega
        have c4 := F3.cell q (by show q < s.n * 64 * 1; omega)
        have c4' : ∃ u, W.cell? ⟨p1.N, q, none⟩ = some u := ⟨_, by rw [c4]; exact List.getElem?_eq_getElem (by have := F3.1; simp only [show s.take.n = s.n from rfl] at this; omega)⟩
        obtain ⟨u, c4'⟩ := c4'
        have f4 : W.frozen? ⟨p1.N, q, none⟩ = false := F3.frozen q
        clear c4 hbM hq
        have K1 : W.drew.cell? ⟨p.M, 2, none⟩ = some (.slice (some ⟨p1.N, 0, none⟩) L p1.cN) ∧ W.drew.cell? ⟨b, off + t, none⟩ = some (.int .u8 c) := ⟨c2, cb2⟩
        have K2 : Hid ((W.setCell ⟨p1.N, q, none⟩ (.int .u8 c)).drew.cell? ⟨p.M, 2, none⟩ = some (.slice (some ⟨p1.N, 0, none⟩) L p1.cN) ∧ (W.setCell ⟨p1.N, q, none⟩ (.int .u8 c)).drew.cell? ⟨b, off + t, none⟩ = some (.int .u8 c)) := by
          refine ⟨?_, ?_⟩
          · show (W.setCell _ _).cell? _ = _
            rw [World.cell?_setCell_other _ _ _ _ (by intro e; exact hnM.out (by rw [hD]; exact (congrArg Addr.block e).symm))]; exact c2
          · show (W.setCell _ _).cell? _ = _
            rw [World.cell?_setCell_other _ _ _ _ (by intro e; exact hbN.out (congrArg Addr.block e).symm)]; exact cb2
        have HRW : Hid (RW w1 base s.take p1 l k (t + 1) w1.heap.size (.slice (some ⟨g, 0, none⟩) (t + 1) cap3) (W.setCell ⟨p1.N, q, none⟩ (.int .u8 c)).drew) := by
          have hset : ∀ j, j ≠ p1.N → (W.setCell ⟨p1.N, q, none⟩ (.int .u8 c)).drew.heap[j]? = W.heap[j]? := fun j hj => heap_setCell_other W ⟨p1.N, q, none⟩ j _ hj
          refine ⟨F1.same (hset _ (by omega)), ?_, ?_, ?_, ?_, (F6.setCell HP.out.tN.2 _).drew⟩
          · exact (ownsRow_setCell_below F2 (a := ⟨p1.N, q, none⟩) (by show p1.N < w1.heap.size + 1; omega) _).drew
          · have r := F3.set q (.int .u8 c)
            rw [show s.take.now = s.now from rfl, ← HAk.out, HQ.out, HST.out] at r
            rw [show s.take.now = s.now from rfl, ← HAk.out, HQ.out]
            exact r
          · intro j hj hne
            rw [hset j hne]; exact F4 j hj hne
          · show _ ≤ (W.setCell _ _).heap.size
            simpa [World.setCell] using F5
        clear F1 F2 F3 F4 F5 F6 HST
        go_wp2
        go_region_held3 (fun w' => w'.cell? ⟨p.M, 2, none⟩ = some (.slice (some ⟨p1.N, 0, none⟩) L p1.cN) ∧ w'.cell? ⟨b, off + t, none⟩ = some (.int .u8 c)) (first | (with_reducible exact K1) | (with_reducible exact K2.out)) (fail)
        go_wp2
        go_roundw
        case rel => exact ⟨t + 1, _, by omega, by go_num, HRW.out⟩
        case measure => simp [intOf]; omega
    · have hte : t = 64 := by omega
      subst hte
      obtain ⟨g, cap3, hvB, hg1, hg2⟩ := hR.own.form (by omega)
      subst hvB
      have hbM := HP.out.bM.same (hR.kept p1.M HMB.out hnM.out)
      have c3 : wr.cell? ⟨p.M, 3, none⟩ = some p1.sv := by rw [← hD]; exact hbM.cell 3
      have f3 : wr.frozen? ⟨p.M, 3, none⟩ = false := by rw [← hD]; exact hbM.frozen 3
      have b0 : wr.cell? ⟨w1.heap.size, 0, none⟩ = some (.int .i64 k) := hR.bW.cell 0
      have b1 : wr.cell? ⟨w1.heap.size, 1, none⟩ = some (.slice (some ⟨g, 0, none⟩) 64 cap3) := hR.bW.cell 1
      have hMlt : p.M < wr.heap.size := by rw [← hD]; have := HMB.out; omega
      have hB9 : w1.heap.size < wr.heap.size := by omega
      have hsv : ∀ q, p1.sv.ownBlock = some q → q < w1.heap.size ∧ q ≠ p1.N ∧ q ≠ p1.M := fun q hq => ⟨HP.out.wS.lt q hq, fun e => by have a := (HP.out.tV q hq).1; have c := HP.out.tN.1; rw [e] at a; omega, fun e => by have a := (HP.out.tV q hq).1; have c := HP.out.tM.1; rw [e] at a; omega⟩
      have HWin : Win wr 2 p1.sv s.since.length (mcells s.since p1.bs) := HP.out.wS.same (fun q hq => hR.kept q (hsv q hq).1 (hsv q hq).2.1)
      have K3 : Hid (∀ wx w3, Below wr.heap.size wr wx → wx.grownBy w3 p1.sv.ownBlock → w3.cell? ⟨p.M, 3, none⟩ = some p1.sv ∧ w3.frozen? ⟨p.M, 3, none⟩ = false) := by
        intro wx w3 hx hg
        have hb3 : Blk w3 p1.M _ := hbM.same ((hg.block p1.M (by have := hx.size; have := HMB.out; omega) (fun e => (hsv _ e.symm).2.2 rfl)).trans (hx.block p1.M (by have := HMB.out; omega)))
        rw [← hD]
        exact ⟨hb3.cell 3, hb3.frozen 3⟩
      have HF : Hid (∀ wx w3 v', Below wr.heap.size wr wx → wx.grownBy w3 p1.sv.ownBlock → (v'.ownBlock = p1.sv.ownBlock ∨ v'.ownBlock = some wx.heap.size) → Win w3 2 v' (s.since.length + 1) (mcells s.since p1.bs ++ [.int .i64 k, .slice (some ⟨g, 0, none⟩) 64 cap3]) →
          ∃ p' tag', p'.M = p.M ∧ MD (w3.setCell ⟨p.M, 3, none⟩ v') tag' base o (s.take.wrote k l) p' ∧ Step tag tag' base o w (w3.setCell ⟨p.M, 3, none⟩ v')) := by
        intro wx w3 v' hx hg ha hw
        obtain ⟨p', tag', e1, e2, e3⟩ := HP.out.written HB1.out k HK.out l HLL.out HLB.out g cap3 hR hx v' hg ha hw
        rw [hD] at e1 e2 e3
        exact ⟨p', tag', e1, e2, HS.out.trans e3⟩
      obtain ⟨sa, sc, hsf, _, _⟩ := HP.out.sform
      have hsf' : p1.sv = .slice sa s.since.length sc := hsf
      rw [hsf'] at c3 HWin K3 HF
      clear hR hbM hsv hsf hsf'
      go_wp2
      go_region_law ((refine step_win_append rfl (.tmp 66) (.tmp 68) 69 rfl 108 i1 (.agg #[.int .i64 0, .slice none 0 0]) 2 32 Tryz.underlying69 hi1 hy0 hy1 hy2 rfl (by decide) (.slice sa s.since.length sc) s.since.length (mcells s.since p1.bs) (by rfl) (by exact HWin.later (below_alloc wr _).drew) ⟨wr.heap.size, 0, none⟩ 1 1 [.int .i64 k, .slice (some ⟨g, 0, none⟩) 64 cap3] (by rfl) rfl (by exact news_new wr #[.int .i64 k, .slice (some ⟨g, 0, none⟩) 64 cap3] 108) (by intro u hu; simp at hu; rcases hu with rfl | rfl <;> rfl) (by unfold maxLen; omega) (by omega) ?_; intro v' w3 hwin hgrow hat; obtain ⟨va, vc, hvv⟩ := win_shape hwin; subst hvv; obtain ⟨g4, g5⟩ := K3.out _ w3 (below_alloc wr _).drew hgrow))
      all_goals
        go_wp2
        go_ret
        exact ⟨rfl, HF.out _ w3 _ (below_alloc wr _).drew hgrow hat hwin⟩

/-- The document's Write, whatever the outcome, place and bytes. -/
theorem rwrite_any (w : World) (tag : Nat → Nat) (base o : Nat) (s : St) (p : ML) (h : MD w tag base o s p) (hbase : base ≤ w.heap.size) (K : Int) (v : Value) (l : List Int) (hv : Bts w v l)
    (hvo : ∀ g, v.ownBlock = some g → tag g / 16 ≠ o) (hops : s.ops ≤ 1000000) (hout : s.outs.length ≤ 1000000) (hsin : s.since.length ≤ 1000000) (D : Nat) (hD : p.M = D) :
    Calls Tryz.prog 104 #[.pointer (some ⟨D, 0, none⟩), .int .i64 K, v] w fun e w' => e = .returned (.int .i64 (wE s K l)) ∧ ∃ p' tag', p'.M = D ∧ MD w' tag' base o (wS s K l) p' ∧ Step tag tag' base o w w' := by
  subst hD
  by_cases hk : wOk s K l = true
  · have hk' := hk
    unfold wOk hasB at hk
    simp only [Bool.and_eq_true, decide_eq_true_eq] at hk
    obtain ⟨k, rfl⟩ : ∃ k : Nat, K = k := ⟨K.toNat, by omega⟩
    unfold wE wS
    rw [if_pos hk', if_pos hk']
    have hkt : (k : Int).toNat = k := rfl
    rw [hkt]
    by_cases hd : doneB s.out = true
    · refine (rwrite_done w tag base o s p h hbase k (by omega) v l hv hk.2 hvo hops hout hsin hd).mono ?_
      rintro e w' ⟨rfl, p', tag', e1, e2, e3⟩
      exact ⟨rfl, p', tag', e1, by unfold St.write; rw [if_pos hd]; exact e2, e3⟩
    · have hd' : doneB s.out = false := by simpa using hd
      refine (rwrite_fail w tag base o s p h k (by omega) v l hv hk.2 hops hout hd').mono ?_
      rintro e w' ⟨rfl, p', e1, e2, e3⟩
      exact ⟨rfl, p', tag, e1, by unfold St.write; rw [if_neg hd]; exact e2, e3⟩
  · have hk' : hasB s.n K = false ∨ l.length ≠ 64 := by
      unfold wOk at hk
      simp only [Bool.and_eq_true, decide_eq_true_eq, not_and] at hk
      by_cases hb : hasB s.n K = true
      · exact .inr (hk hb)
      · exact .inl (by simpa using hb)
    refine (rwrite_no w tag base o s p h K v l hv hk').mono ?_
    rintro e w' ⟨rfl, rfl⟩
    unfold wE wS
    rw [if_neg hk, if_neg hk]
    exact ⟨rfl, p, tag, rfl, h, Step.refl _ _ _ _⟩

end Go.Proofs.YtafkkehcacdodaaGreat
