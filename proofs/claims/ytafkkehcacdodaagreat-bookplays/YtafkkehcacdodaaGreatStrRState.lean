/- A strand of the document in memory. -/
import Derived.Test.YtafkkehcacdodaaGreatStrBtw
import Derived.Test.YtafkkehcacdodaaGreatStrSmall
set_option maxRecDepth 100000
namespace Go.Proofs.YtafkkehcacdodaaGreat
open Go.RowKit

/-- Where a strand of the document lies: itself, its row of bodies, its row of counts. -/
structure TL where
  T : Nat
  lv : Value
  vs : List Value
  I : Nat

/-- A strand of the document over the disk at M, in memory that is o's. -/
structure MS (w : World) (tag : Nat → Nat) (base o M n pos used : Nat) (bs : List (List Int)) (cs : List Int) (q : TL) : Prop where
  bT : Blk w q.T [.pointer (some ⟨M, 0, none⟩), .int .i64 pos, .int .i64 used, q.lv, .slice (some ⟨q.I, 0, none⟩) n n]
  wL : Win w 1 q.lv bs.length q.vs
  bt : ∀ i, i < bs.length → Bts w (q.vs.getD i undef) (bs.getD i [])
  rI : Blk w q.I (cs.map (Value.int .i64))
  cl : cs.length = n
  tT : tag q.T = 16 * o + 7 ∧ base ≤ q.T
  tL : ∀ g, q.lv.ownBlock = some g → tag g = 16 * o + 8 ∧ base ≤ g
  tB : ∀ i, i < bs.length → ∀ g, (q.vs.getD i undef).ownBlock = some g → tag g = 16 * o + 9 ∧ base ≤ g ∧ g < w.heap.size
  tI : tag q.I = 16 * o + 10 ∧ base ≤ q.I

section
variable {w w' : World} {tag tag' : Nat → Nat} {base o o' o2 M n pos used : Nat} {bs : List (List Int)} {cs : List Int} {q : TL}

theorem MS.keep (h : MS w tag base o M n pos used bs cs q) (hk : ∀ k, k < w.heap.size → tag k / 16 = o → w'.heap[k]? = w.heap[k]?) (ht : ∀ k, k < w.heap.size → tag' k = tag k) (hs : w.heap.size ≤ w'.heap.size) : MS w' tag' base o M n pos used bs cs q :=
  ⟨h.bT.same (hk _ h.bT.lt (by have := h.tT.1; omega)), h.wL.same (fun g hg => hk g (h.wL.lt g hg) (by have := (h.tL g hg).1; omega)),
    fun i hi => bts_same (h.bt i hi) (fun g hg hlt => hk g hlt (by have := (h.tB i hi g hg).1; omega)), h.rI.same (hk _ h.rI.lt (by have := h.tI.1; omega)), h.cl,
    ⟨by rw [ht _ h.bT.lt]; exact h.tT.1, h.tT.2⟩, fun g hg => ⟨by rw [ht _ (h.wL.lt g hg)]; exact (h.tL g hg).1, (h.tL g hg).2⟩,
    fun i hi g hg => ⟨by rw [ht _ (h.tB i hi g hg).2.2]; exact (h.tB i hi g hg).1, (h.tB i hi g hg).2.1, Nat.lt_of_lt_of_le (h.tB i hi g hg).2.2 hs⟩, ⟨by rw [ht _ h.rI.lt]; exact h.tI.1, h.tI.2⟩⟩

theorem MS.later (h : MS w tag base o M n pos used bs cs q) (hb : Below w.heap.size w w') : MS w' tag base o M n pos used bs cs q :=
  h.keep (fun k hk _ => hb.block k hk) (fun _ _ => rfl) hb.size

theorem MS.other (h : MS w tag base o M n pos used bs cs q) (hb : Step tag tag' base o' w w') (ho : o ≠ o') : MS w' tag' base o M n pos used bs cs q :=
  h.keep (fun k hk ht => hb.kept k hk (by rw [ht]; exact ho)) hb.tags hb.below.size

theorem MS.other2 (h : MS w tag base o M n pos used bs cs q) (hb : Step2 tag tag' base o' o2 w w') (h1 : o ≠ o') (h2 : o ≠ o2) : MS w' tag' base o M n pos used bs cs q :=
  h.keep (fun k hk ht => hb.kept k hk (by rw [ht]; exact h1) (by rw [ht]; exact h2)) hb.tags hb.below.size

/-- Behind a store into the strand's own block. -/
theorem MS.placed (h : MS w tag base o M n pos used bs cs q) (pos' used' : Nat) (hb : Blk w' q.T [.pointer (some ⟨M, 0, none⟩), .int .i64 pos', .int .i64 used', q.lv, .slice (some ⟨q.I, 0, none⟩) n n])
    (hk : ∀ k, k < w.heap.size → k ≠ q.T → w'.heap[k]? = w.heap[k]?) (hs : w.heap.size ≤ w'.heap.size) : MS w' tag base o M n pos' used' bs cs q := by
  have hne : ∀ {g T : Nat}, g < w.heap.size → tag g = T → T ≠ 16 * o + 7 → w'.heap[g]? = w.heap[g]? := fun {g T} hg hT hn => hk g hg (fun e => hn (by rw [← hT, e]; exact h.tT.1))
  exact ⟨hb, h.wL.same (fun g hg => hne (h.wL.lt g hg) (h.tL g hg).1 (by omega)), fun i hi => bts_same (h.bt i hi) (fun g hg hlt => hne hlt (h.tB i hi g hg).1 (by omega)), h.rI.same (hne h.rI.lt h.tI.1 (by omega)), h.cl, h.tT, h.tL,
    fun i hi g hg => ⟨(h.tB i hi g hg).1, (h.tB i hi g hg).2.1, Nat.lt_of_lt_of_le (h.tB i hi g hg).2.2 hs⟩, h.tI⟩

theorem blk_t1 {w : World} {T : Nat} {a b c d e b' : Value} (h : Blk w T [a, b, c, d, e]) : Blk (w.setCell ⟨T, 1, none⟩ b') T [a, b', c, d, e] := by
  have := h.set 1 b'
  simpa using this
theorem blk_t2 {w : World} {T : Nat} {a b c d e c' : Value} (h : Blk w T [a, b, c, d, e]) : Blk (w.setCell ⟨T, 2, none⟩ c') T [a, b, c', d, e] := by
  have := h.set 2 c'
  simpa using this

theorem MS.at (h : MS w tag base o M n pos used bs cs q) (p : Nat) : MS (w.setCell ⟨q.T, 1, none⟩ (.int .i64 p)) tag base o M n p used bs cs q ∧ Step tag tag base o w (w.setCell ⟨q.T, 1, none⟩ (.int .i64 p)) :=
  ⟨h.placed p used (blk_t1 h.bT) (fun k _ hk => heap_setCell_other _ _ k _ hk) (by simp [World.setCell]), step_set tag base o w h.tT.2 (by have := h.tT.1; omega) 1 _⟩

theorem MS.byte (h : MS w tag base o M n pos used bs cs q) (u : Nat) : MS (w.setCell ⟨q.T, 2, none⟩ (.int .i64 u)) tag base o M n pos u bs cs q ∧ Step tag tag base o w (w.setCell ⟨q.T, 2, none⟩ (.int .i64 u)) :=
  ⟨h.placed pos u (blk_t2 h.bT) (fun k _ hk => heap_setCell_other _ _ k _ hk) (by simp [World.setCell]), step_set tag base o w h.tT.2 (by have := h.tT.1; omega) 2 _⟩

/-- Behind a store into the row of counts. -/
theorem MS.count (h : MS w tag base o M n pos used bs cs q) (j : Nat) (c : Int) : MS (w.setCell ⟨q.I, j, none⟩ (.int .i64 c)) tag base o M n pos used bs (cs.set j c) q ∧ Step tag tag base o w (w.setCell ⟨q.I, j, none⟩ (.int .i64 c)) := by
  have hne : ∀ {g T : Nat}, tag g = T → T ≠ 16 * o + 10 → (w.setCell ⟨q.I, j, none⟩ (.int .i64 c)).heap[g]? = w.heap[g]? := fun {g T} hT hn => heap_setCell_other w ⟨q.I, j, none⟩ g _ (fun e => hn (by rw [← hT, e]; exact h.tI.1))
  refine ⟨⟨h.bT.same (hne h.tT.1 (by omega)), h.wL.same (fun g hg => hne (h.tL g hg).1 (by omega)), fun i hi => bts_same (h.bt i hi) (fun g hg hlt => hne (h.tB i hi g hg).1 (by omega)), ?_, by rw [List.length_set]; exact h.cl, h.tT, h.tL,
    fun i hi g hg => ⟨(h.tB i hi g hg).1, (h.tB i hi g hg).2.1, by simp [World.setCell]; exact (h.tB i hi g hg).2.2⟩, h.tI⟩, step_set tag base o w h.tI.2 (by have := h.tI.1; omega) j _⟩
  rw [List.map_set]; exact h.rI.set j _

/-- Behind one body more. -/
theorem MS.pushed {wx w3 : World} (h : MS w tag base o M n pos used bs cs q) (hbase : base ≤ w.heap.size) (hx : Below w.heap.size w wx) (x : List Int) (u v' : Value) (hu : Bts w u x) (htu : ∀ g, u.ownBlock = some g → tag g = 16 * o + 9 ∧ base ≤ g ∧ g < w.heap.size)
    (hg : wx.grownBy w3 q.lv.ownBlock) (ha : v'.ownBlock = q.lv.ownBlock ∨ v'.ownBlock = some wx.heap.size) (hw : Win w3 1 v' (bs.length + 1) (q.vs ++ [u])) :
    ∃ tag', MS (w3.setCell ⟨q.T, 3, none⟩ v') tag' base o M n pos used (bs ++ [x]) cs ⟨q.T, v', q.vs ++ [u], q.I⟩ ∧ Step tag tag' base o w (w3.setCell ⟨q.T, 3, none⟩ v') ∧ ∀ g, g < w.heap.size → tag g = 16 * o + 9 → (w3.setCell ⟨q.T, 3, none⟩ v').heap[g]? = w.heap[g]? := by
  have hsx := hx.size
  have hs3 := hg.size
  have hkeep : ∀ g, g < w.heap.size → q.lv.ownBlock ≠ some g → g ≠ q.T → (w3.setCell ⟨q.T, 3, none⟩ v').heap[g]? = w.heap[g]? := fun g h1 h2 h3 => by
    rw [heap_setCell_other _ _ g _ h3, hg.block g (by omega) (fun e => h2 e.symm), hx.block g h1]
  have hSr : q.lv.ownBlock ≠ some q.T := fun e => by have := (h.tL _ e).1; rw [h.tT.1] at this; omega
  have hkt : ∀ {g T : Nat}, g < w.heap.size → tag g = T → T ≠ 16 * o + 7 → T ≠ 16 * o + 8 → (w3.setCell ⟨q.T, 3, none⟩ v').heap[g]? = w.heap[g]? := fun {g T} h1 hT h7 h8 =>
    hkeep g h1 (fun e => h8 (by rw [← hT]; exact (h.tL g e).1)) (fun e => h7 (by rw [← hT, e]; exact h.tT.1))
  have hvS : v'.ownBlock ≠ some q.T := by
    rcases ha with e | e
    · rw [e]; exact hSr
    · rw [e]; intro e'; simp at e'; have := h.bT.lt; omega
  have htag : ∀ g, g < w.heap.size → retag tag v' (16 * o + 8) g = tag g := fun g hlt => by
    unfold retag
    split
    · rename_i e
      rcases ha with e' | e'
      · rw [e'] at e; exact (h.tL g e).1.symm
      · rw [e'] at e; simp at e; omega
    · rfl
  have hvl : q.vs.length = bs.length := by have := h.wL.1; omega
  refine ⟨retag tag v' (16 * o + 8), ⟨?_, ?_, ?_, h.rI.same (hkt h.rI.lt h.tI.1 (by omega) (by omega)), h.cl, ?_, ?_, ?_, ?_⟩, ⟨?_, htag, ?_⟩, fun g h1 h2 => hkt h1 h2 (by omega) (by omega)⟩
  · have hb : Blk w3 q.T _ := h.bT.same ((hg.block q.T (by have := h.bT.lt; omega) (fun e => hSr e.symm)).trans (hx.block q.T h.bT.lt))
    simpa using hb.set 3 v'
  · rw [List.length_append]
    exact hw.same (fun g hgv => heap_setCell_other _ _ g _ (fun e => hvS (by rw [hgv, show g = q.T from e])))
  · intro i hi
    rw [List.length_append, List.length_singleton] at hi
    by_cases hil : i < bs.length
    · rw [getD_snoc_lt _ _ _ _ (by rw [hvl]; exact hil), getD_snoc_lt _ _ _ _ hil]
      exact bts_same (h.bt i hil) (fun g hgv hlt => hkt hlt (h.tB i hil g hgv).1 (by omega) (by omega))
    · have : i = bs.length := by omega
      subst this
      rw [getD_snoc_eq]
      show Bts _ ((q.vs ++ [u]).getD bs.length undef) x
      rw [← hvl, getD_snoc_eq]
      exact bts_same hu (fun g hgv hlt => hkt hlt (htu g hgv).1 (by omega) (by omega))
  · exact ⟨by rw [htag _ h.bT.lt]; exact h.tT.1, h.tT.2⟩
  · intro g hgv
    refine ⟨by simp [retag, hgv], ?_⟩
    rcases ha with e | e
    · rw [e] at hgv; exact (h.tL g hgv).2
    · rw [e] at hgv; simp at hgv; omega
  · intro i hi g hgv
    rw [List.length_append, List.length_singleton] at hi
    have hsz : (w3.setCell ⟨q.T, 3, none⟩ v').heap.size = w3.heap.size := by simp [World.setCell]
    by_cases hil : i < bs.length
    · rw [getD_snoc_lt _ _ _ _ (by rw [hvl]; exact hil)] at hgv
      obtain ⟨e1, e2, e3⟩ := h.tB i hil g hgv
      exact ⟨by rw [htag g e3]; exact e1, e2, by omega⟩
    · have : i = bs.length := by omega
      subst this
      have hgv' : ((q.vs ++ [u]).getD bs.length undef).ownBlock = some g := hgv
      rw [← hvl, getD_snoc_eq] at hgv'
      obtain ⟨e1, e2, e3⟩ := htu g hgv'
      exact ⟨by rw [htag g e3]; exact e1, e2, by omega⟩
  · exact ⟨by rw [htag _ h.rI.lt]; exact h.tI.1, h.tI.2⟩
  · refine Below.setCell ?_ h.tT.2 _
    exact (hx.mono hbase).grown hg (by omega) (fun g hgv => (h.tL g hgv).2)
  · intro g hlt hne
    exact hkeep g hlt (fun e => hne (by rw [(h.tL g e).1]; omega)) (fun e => hne (by rw [e, h.tT.1]; omega))

theorem MS.t0 (h : MS w tag base o M n pos used bs cs q) : w.cell? ⟨q.T, 0, none⟩ = some (.pointer (some ⟨M, 0, none⟩)) := h.bT.cell 0
theorem MS.t1 (h : MS w tag base o M n pos used bs cs q) : w.cell? ⟨q.T, 1, none⟩ = some (.int .i64 pos) := h.bT.cell 1
theorem MS.t2 (h : MS w tag base o M n pos used bs cs q) : w.cell? ⟨q.T, 2, none⟩ = some (.int .i64 used) := h.bT.cell 2
theorem MS.t3 (h : MS w tag base o M n pos used bs cs q) : w.cell? ⟨q.T, 3, none⟩ = some q.lv := h.bT.cell 3
theorem MS.t4 (h : MS w tag base o M n pos used bs cs q) : w.cell? ⟨q.T, 4, none⟩ = some (.slice (some ⟨q.I, 0, none⟩) n n) := h.bT.cell 4
theorem MS.fT (h : MS w tag base o M n pos used bs cs q) (j : Nat) : w.frozen? ⟨q.T, j, none⟩ = false := h.bT.frozen j
theorem MS.fI (h : MS w tag base o M n pos used bs cs q) (j : Nat) : w.frozen? ⟨q.I, j, none⟩ = false := h.rI.frozen j
theorem MS.i (h : MS w tag base o M n pos used bs cs q) (j : Nat) (hj : j < n) : w.cell? ⟨q.I, j, none⟩ = some (.int .i64 (cs.getD j 0)) := by
  rw [h.rI.cell]; simp [List.getD, List.getElem?_eq_getElem (show j < cs.length by rw [h.cl]; exact hj)]
theorem MS.lsx (h : MS w tag base o M n pos used bs cs q) : Lsx w q.lv q.vs bs := ⟨h.wL, h.bt⟩

end

/-- How many records each sector has. -/
def cntL (rs : List (Nat × List Int)) (n : Nat) : List Int := (List.range n).map fun k => ((rs.countP fun x => x.1 == k : Nat) : Int)

theorem cntL_len (rs : List (Nat × List Int)) (n : Nat) : (cntL rs n).length = n := by simp [cntL]

theorem cntL_get (rs : List (Nat × List Int)) (n k : Nat) (h : k < n) : (cntL rs n).getD k 0 = (rs.countP fun x => x.1 == k : Nat) := by
  simp [cntL, List.getD, h]

theorem cntL_snoc (rs : List (Nat × List Int)) (n k : Nat) (x : List Int) (h : k < n) : cntL (rs ++ [(k, x)]) n = (cntL rs n).set k ((cntL rs n).getD k 0 + 1) := by
  apply List.ext_getElem
  · rw [List.length_set, cntL_len, cntL_len]
  · intro i h1 h2
    rw [cntL_len] at h1
    rw [List.getElem_set]
    have e1 : (cntL (rs ++ [(k, x)]) n)[i]'(by rw [cntL_len]; exact h1) = ((rs ++ [(k, x)]).countP fun x => x.1 == i : Nat) := by simp [cntL]
    have e2 : (cntL rs n)[i]'(by rw [cntL_len]; exact h1) = (rs.countP fun x => x.1 == i : Nat) := by simp [cntL]
    rw [e1, e2, List.countP_append, List.countP_singleton]
    by_cases e : k = i
    · subst e; rw [if_pos rfl, cntL_get _ _ _ h]; simp
    · rw [if_neg e]; simp [e]

/-- The document's strand in the numbers of the program's. -/
abbrev MSt (w : World) (tag : Nat → Nat) (base o M n : Nat) (t : Sd) (q : TL) : Prop := MS w tag base o M n t.pos t.used (bodies t) (cntL t.recs n) q

end Go.Proofs.YtafkkehcacdodaaGreat
