/- A strand in memory. -/
import Derived.Test.YtafkkehcacdodaaGreatStrScan2
import Derived.Test.YtafkkehcacdodaaGreatStrBlank
set_option maxRecDepth 100000
namespace Go.Proofs.YtafkkehcacdodaaGreat
open Go.RowKit

/-- Where a strand of the program lies: itself, its row of records, each record's bytes. -/
structure SL where
  S : Nat
  rv : Value
  vs : List Value

def rcell (x : (Nat × List Int) × Value) : List Value := [.int .i64 x.1.1, x.2]
def rcells (rs : List (Nat × List Int)) (vs : List Value) : List Value := (rs.zip vs).flatMap rcell

theorem rcells_snoc (rs : List (Nat × List Int)) (vs : List Value) (h : rs.length = vs.length) (x : Nat × List Int) (v : Value) : rcells (rs ++ [x]) (vs ++ [v]) = rcells rs vs ++ [.int .i64 x.1, v] := by
  simp [rcells, List.zip_append h, rcell]

theorem rcells_len (rs : List (Nat × List Int)) (vs : List Value) (h : rs.length = vs.length) : (rcells rs vs).length = rs.length * 2 := by
  induction rs generalizing vs with
  | nil => simp [rcells]
  | cons x r ih =>
    cases vs with
    | nil => simp at h
    | cons b bs =>
      have := ih bs (by simpa using h)
      simp only [rcells, List.zip_cons_cons, List.flatMap_cons, List.length_append, List.length_cons] at this ⊢
      rw [this]; simp [rcell]; omega

theorem rcells_at (rs : List (Nat × List Int)) (vs : List Value) (h : rs.length = vs.length) (k : Nat) (hk : k < rs.length) :
    (rcells rs vs)[k * 2]? = some (.int .i64 (rs.getD k (0, [])).1) ∧ (rcells rs vs)[k * 2 + 1]? = some (vs.getD k undef) := by
  induction rs generalizing vs k with
  | nil => simp at hk
  | cons x r ih =>
    cases vs with
    | nil => simp at h
    | cons b bs =>
      have e : rcells (x :: r) (b :: bs) = rcell (x, b) ++ rcells r bs := by simp [rcells]
      rw [e]
      cases k with
      | zero => simp [rcell]
      | succ k =>
        have := ih bs (by simpa using h) k (by simpa using hk)
        rw [show (k + 1) * 2 = k * 2 + 2 by omega, List.getElem?_append_right (by simp [rcell]), List.getElem?_append_right (by simp [rcell])]
        rw [show k * 2 + 2 - (rcell (x, b)).length = k * 2 by simp [rcell], show k * 2 + 2 + 1 - (rcell (x, b)).length = k * 2 + 1 by simp [rcell]]
        simpa using this

/-- A strand of the program over the disk at D, in memory that is o's. -/
structure PO (w : World) (tag : Nat → Nat) (base o D : Nat) (t : Sd) (q : SL) : Prop where
  bS : Blk w q.S [.pointer (some ⟨D, 0, none⟩), .int .i64 t.pos, .int .i64 t.used, q.rv]
  wR : Win w 2 q.rv t.recs.length (rcells t.recs q.vs)
  lv : t.recs.length = q.vs.length
  bt : ∀ i, i < t.recs.length → Bts w (q.vs.getD i undef) (t.recs.getD i (0, [])).2
  tS : tag q.S = 16 * o + 7 ∧ base ≤ q.S
  tR : ∀ g, q.rv.ownBlock = some g → tag g = 16 * o + 8 ∧ base ≤ g
  tB : ∀ i, i < t.recs.length → ∀ g, (q.vs.getD i undef).ownBlock = some g → tag g = 16 * o + 9 ∧ base ≤ g ∧ g < w.heap.size

theorem PO.keep {w w' : World} {tag tag' : Nat → Nat} {base o D : Nat} {t : Sd} {q : SL} (h : PO w tag base o D t q) (hk : ∀ k, k < w.heap.size → tag k / 16 = o → w'.heap[k]? = w.heap[k]?) (ht : ∀ k, k < w.heap.size → tag' k = tag k) (hs : w.heap.size ≤ w'.heap.size) : PO w' tag' base o D t q :=
  ⟨h.bS.same (hk _ h.bS.lt (by have := h.tS.1; omega)), h.wR.same (fun g hg => hk g (h.wR.lt g hg) (by have := (h.tR g hg).1; omega)), h.lv,
    fun i hi => bts_same (h.bt i hi) (fun g hg hlt => hk g hlt (by have := (h.tB i hi g hg).1; omega)),
    ⟨by rw [ht _ h.bS.lt]; exact h.tS.1, h.tS.2⟩, fun g hg => ⟨by rw [ht _ (h.wR.lt g hg)]; exact (h.tR g hg).1, (h.tR g hg).2⟩,
    fun i hi g hg => ⟨by rw [ht _ (h.tB i hi g hg).2.2]; exact (h.tB i hi g hg).1, (h.tB i hi g hg).2.1, Nat.lt_of_lt_of_le (h.tB i hi g hg).2.2 hs⟩⟩

theorem PO.later {w w' : World} {tag : Nat → Nat} {base o D : Nat} {t : Sd} {q : SL} (h : PO w tag base o D t q) (hb : Below w.heap.size w w') : PO w' tag base o D t q :=
  h.keep (fun k hk _ => hb.block k hk) (fun _ _ => rfl) hb.size

theorem PO.other {w w' : World} {tag tag' : Nat → Nat} {base o o' D : Nat} {t : Sd} {q : SL} (h : PO w tag base o D t q) (hb : Step tag tag' base o' w w') (ho : o ≠ o') : PO w' tag' base o D t q :=
  h.keep (fun k hk ht => hb.kept k hk (by rw [ht]; exact ho)) hb.tags hb.below.size

/-- Tags, and one tag for all behind. -/
def tagOver (tag : Nat → Nat) (N T : Nat) : Nat → Nat := fun k => if k < N then tag k else T

theorem tagOver_lt (tag : Nat → Nat) (N T k : Nat) (h : k < N) : tagOver tag N T k = tag k := by simp [tagOver, h]
theorem tagOver_ge (tag : Nat → Nat) (N T k : Nat) (h : N ≤ k) : tagOver tag N T k = T := by simp [tagOver, Nat.not_lt.2 h]

theorem step_over (tag : Nat → Nat) (base o T : Nat) {w w' : World} (hb : base ≤ w.heap.size) (h : Below w.heap.size w w') : Step tag (tagOver tag w.heap.size T) base o w w' :=
  ⟨h.mono hb, fun _ hk => tagOver_lt _ _ _ _ hk, fun k hk _ => h.block k hk⟩

/-- A step by either of two owners. -/
structure Step2 (tag tag' : Nat → Nat) (base o o' : Nat) (w w' : World) : Prop where
  below : Below base w w'
  tags : ∀ k, k < w.heap.size → tag' k = tag k
  kept : ∀ k, k < w.heap.size → tag k / 16 ≠ o → tag k / 16 ≠ o' → w'.heap[k]? = w.heap[k]?

section
variable {tag tag' tag'' : Nat → Nat} {base o o' : Nat} {w w' w'' : World}

theorem Step.two1 (h : Step tag tag' base o w w') (o' : Nat) : Step2 tag tag' base o o' w w' := ⟨h.below, h.tags, fun k hk h1 _ => h.kept k hk h1⟩
theorem Step.two2 (h : Step tag tag' base o' w w') (o : Nat) : Step2 tag tag' base o o' w w' := ⟨h.below, h.tags, fun k hk _ h2 => h.kept k hk h2⟩
theorem Step2.refl (tag : Nat → Nat) (base o o' : Nat) (w : World) : Step2 tag tag base o o' w w := ⟨Below.refl _ _, fun _ _ => rfl, fun _ _ _ _ => rfl⟩
theorem Step2.trans (h : Step2 tag tag' base o o' w w') (k : Step2 tag' tag'' base o o' w' w'') : Step2 tag tag'' base o o' w w'' := by
  have hs := h.below.size
  exact ⟨h.below.trans k.below, fun i hi => (k.tags i (by omega)).trans (h.tags i hi), fun i hi h1 h2 => (k.kept i (by omega) (by rw [h.tags i hi]; exact h1) (by rw [h.tags i hi]; exact h2)).trans (h.kept i hi h1 h2)⟩

theorem PD.other2 {b : Nat} {s : St} {p : PL} (h : PD w tag base b s p) (hb : Step2 tag tag' base o o' w w') (h1 : b ≠ o) (h2 : b ≠ o') : PD w' tag' base b s p :=
  h.keep (fun k hk ht => hb.kept k hk (by rw [ht]; exact h1) (by rw [ht]; exact h2)) hb.tags
theorem MD.other2 {b : Nat} {s : St} {p : ML} (h : MD w tag base b s p) (hb : Step2 tag tag' base o o' w w') (h1 : b ≠ o) (h2 : b ≠ o') : MD w' tag' base b s p :=
  h.keep (fun k hk ht => hb.kept k hk (by rw [ht]; exact h1) (by rw [ht]; exact h2)) hb.tags
theorem PO.other2 {b D : Nat} {t : Sd} {q : SL} (h : PO w tag base b D t q) (hb : Step2 tag tag' base o o' w w') (h1 : b ≠ o) (h2 : b ≠ o') : PO w' tag' base b D t q :=
  h.keep (fun k hk ht => hb.kept k hk (by rw [ht]; exact h1) (by rw [ht]; exact h2)) hb.tags hb.below.size
theorem Held.two {v : Value} {l : List Int} (h : Held w tag v l) (hS : Step2 tag tag' base o o' w w') (h1 : 1 ≤ o) (h2 : 1 ≤ o') : Held w' tag' v l :=
  ⟨bts_same h.1 (fun g hg hlt => hS.kept g hlt (by rw [(h.2 g hg).1]; omega) (by rw [(h.2 g hg).1]; omega)), fun g hg => ⟨by rw [hS.tags g (h.2 g hg).2]; exact (h.2 g hg).1, Nat.lt_of_lt_of_le (h.2 g hg).2 hS.below.size⟩⟩

end

/-- Behind stores into the strand's own block: the place is another one. -/
theorem PO.placed {w : World} {tag : Nat → Nat} {base o D : Nat} {t : Sd} {q : SL} (h : PO w tag base o D t q) (w' : World) (t' : Sd) (hb : Blk w' q.S [.pointer (some ⟨D, 0, none⟩), .int .i64 t'.pos, .int .i64 t'.used, q.rv]) (hr : t'.recs = t.recs)
    (hk : ∀ k, k < w.heap.size → k ≠ q.S → w'.heap[k]? = w.heap[k]?) (hs : w.heap.size ≤ w'.heap.size) : PO w' tag base o D t' q := by
  have hne : ∀ {g T : Nat}, g < w.heap.size → tag g = T → T ≠ 16 * o + 7 → w'.heap[g]? = w.heap[g]? := fun {g T} hg hT hn => hk g hg (fun e => hn (by rw [← hT, e]; exact h.tS.1))
  refine ⟨hb, ?_, by rw [hr]; exact h.lv, ?_, h.tS, h.tR, ?_⟩
  · rw [hr]; exact h.wR.same (fun g hg => hne (h.wR.lt g hg) (h.tR g hg).1 (by omega))
  · rw [hr]; exact fun i hi => bts_same (h.bt i hi) (fun g hg hlt => hne hlt (h.tB i hi g hg).1 (by omega))
  · rw [hr]; exact fun i hi g hg => ⟨(h.tB i hi g hg).1, (h.tB i hi g hg).2.1, Nat.lt_of_lt_of_le (h.tB i hi g hg).2.2 hs⟩

/-- Behind one record more. -/
theorem PO.pushed {w wx w3 : World} {tag : Nat → Nat} {base o D : Nat} {t : Sd} {q : SL} (h : PO w tag base o D t q) (hbase : base ≤ w.heap.size) (hx : Below w.heap.size w wx) (k : Nat) (x : List Int) (u v' : Value) (hu : Bts w u x) (htu : ∀ g, u.ownBlock = some g → tag g = 16 * o + 9 ∧ base ≤ g ∧ g < w.heap.size)
    (hg : wx.grownBy w3 q.rv.ownBlock) (ha : v'.ownBlock = q.rv.ownBlock ∨ v'.ownBlock = some wx.heap.size) (hw : Win w3 2 v' (t.recs.length + 1) (rcells t.recs q.vs ++ [.int .i64 k, u])) :
    ∃ tag', PO (w3.setCell ⟨q.S, 3, none⟩ v') tag' base o D ⟨t.pos, t.used, t.recs ++ [(k, x)]⟩ ⟨q.S, v', q.vs ++ [u]⟩ ∧ Step tag tag' base o w (w3.setCell ⟨q.S, 3, none⟩ v') ∧ ∀ g, g < w.heap.size → tag g = 16 * o + 9 → (w3.setCell ⟨q.S, 3, none⟩ v').heap[g]? = w.heap[g]? := by
  have hsx := hx.size
  have hs3 := hg.size
  have hsz : (w3.setCell ⟨q.S, 3, none⟩ v').heap.size = w3.heap.size := by simp [World.setCell]
  have hkeep : ∀ g, g < w.heap.size → q.rv.ownBlock ≠ some g → g ≠ q.S → (w3.setCell ⟨q.S, 3, none⟩ v').heap[g]? = w.heap[g]? := fun g h1 h2 h3 => by
    rw [heap_setCell_other _ _ g _ h3, hg.block g (by omega) (fun e => h2 e.symm), hx.block g h1]
  have hSr : q.rv.ownBlock ≠ some q.S := fun e => by have := (h.tR _ e).1; rw [h.tS.1] at this; omega
  have hkt : ∀ {g T : Nat}, g < w.heap.size → tag g = T → T ≠ 16 * o + 7 → T ≠ 16 * o + 8 → (w3.setCell ⟨q.S, 3, none⟩ v').heap[g]? = w.heap[g]? := fun {g T} h1 hT h7 h8 =>
    hkeep g h1 (fun e => h8 (by rw [← hT]; exact (h.tR g e).1)) (fun e => h7 (by rw [← hT, e]; exact h.tS.1))
  have hvS : v'.ownBlock ≠ some q.S := by
    rcases ha with e | e
    · rw [e]; exact hSr
    · rw [e]; intro e'; simp at e'; have := h.bS.lt; omega
  have htag : ∀ g, g < w.heap.size → retag tag v' (16 * o + 8) g = tag g := fun g hlt => by
    unfold retag
    split
    · rename_i e
      rcases ha with e' | e'
      · rw [e'] at e; exact (h.tR g e).1.symm
      · rw [e'] at e; simp at e; omega
    · rfl
  refine ⟨retag tag v' (16 * o + 8), ⟨?_, ?_, ?_, ?_, ?_, ?_, ?_⟩, ⟨?_, htag, ?_⟩, fun g h1 h2 => hkt h1 h2 (by omega) (by omega)⟩
  · have hb : Blk w3 q.S _ := h.bS.same ((hg.block q.S (by have := h.bS.lt; omega) (fun e => hSr e.symm)).trans (hx.block q.S h.bS.lt))
    simpa using hb.set 3 v'
  · rw [rcells_snoc _ _ h.lv]
    have : Win w3 2 v' (t.recs ++ [(k, x)]).length (rcells t.recs q.vs ++ [.int .i64 k, u]) := by rw [List.length_append]; exact hw
    exact this.same (fun g hgv => heap_setCell_other _ _ g _ (fun e => hvS (by rw [hgv, show g = q.S from e])))
  · simp [h.lv]
  · intro i hi
    rw [List.length_append, List.length_singleton] at hi
    by_cases hil : i < t.recs.length
    · rw [getD_snoc_lt _ _ _ _ (by rw [← h.lv]; exact hil), getD_snoc_lt _ _ _ _ hil]
      exact bts_same (h.bt i hil) (fun g hgv hlt => hkt hlt (h.tB i hil g hgv).1 (by omega) (by omega))
    · have : i = t.recs.length := by omega
      subst this
      rw [getD_snoc_eq]
      show Bts _ ((q.vs ++ [u]).getD t.recs.length undef) x
      rw [h.lv, getD_snoc_eq]
      exact bts_same hu (fun g hgv hlt => hkt hlt (htu g hgv).1 (by omega) (by omega))
  · exact ⟨by rw [htag _ h.bS.lt]; exact h.tS.1, h.tS.2⟩
  · intro g hgv
    refine ⟨by simp [retag, hgv], ?_⟩
    rcases ha with e | e
    · rw [e] at hgv; exact (h.tR g hgv).2
    · rw [e] at hgv; simp at hgv; omega
  · intro i hi g hgv
    rw [List.length_append, List.length_singleton] at hi
    by_cases hil : i < t.recs.length
    · rw [getD_snoc_lt _ _ _ _ (by rw [← h.lv]; exact hil)] at hgv
      obtain ⟨e1, e2, e3⟩ := h.tB i hil g hgv
      exact ⟨by rw [htag g e3]; exact e1, e2, by omega⟩
    · have : i = t.recs.length := by omega
      subst this
      have hgv' : ((q.vs ++ [u]).getD t.recs.length undef).ownBlock = some g := hgv
      rw [h.lv, getD_snoc_eq] at hgv'
      obtain ⟨e1, e2, e3⟩ := htu g hgv'
      exact ⟨by rw [htag g e3]; exact e1, e2, by omega⟩
  · refine Below.setCell ?_ h.tS.2 _
    exact (hx.mono hbase).grown hg (by omega) (fun g hgv => (h.tR g hgv).2)
  · intro g hlt hne
    exact hkeep g hlt (fun e => hne (by rw [(h.tR g e).1]; omega)) (fun e => hne (by rw [e, h.tS.1]; omega))

section
variable {w : World} {tag : Nat → Nat} {base o D : Nat} {t : Sd} {q : SL}
theorem PO.s0 (h : PO w tag base o D t q) : w.cell? ⟨q.S, 0, none⟩ = some (.pointer (some ⟨D, 0, none⟩)) := h.bS.cell 0
theorem PO.s1 (h : PO w tag base o D t q) : w.cell? ⟨q.S, 1, none⟩ = some (.int .i64 t.pos) := h.bS.cell 1
theorem PO.s2 (h : PO w tag base o D t q) : w.cell? ⟨q.S, 2, none⟩ = some (.int .i64 t.used) := h.bS.cell 2
theorem PO.s3 (h : PO w tag base o D t q) : w.cell? ⟨q.S, 3, none⟩ = some q.rv := h.bS.cell 3
theorem PO.fS (h : PO w tag base o D t q) (j : Nat) : w.frozen? ⟨q.S, j, none⟩ = false := h.bS.frozen j
theorem PO.rform (h : PO w tag base o D t q) : ∃ a c, q.rv = .slice a t.recs.length c ∧ t.recs.length ≤ c ∧ c ≤ maxLen := by
  rcases h.wR.2 with ⟨h1, h2⟩ | ⟨g, oo, cap, cs, h1, _, h2, h3, _⟩
  · exact ⟨none, 0, by rw [h1, h2], by omega, by decide⟩
  · exact ⟨_, _, h1, h2, h3⟩
end

end Go.Proofs.YtafkkehcacdodaaGreat
