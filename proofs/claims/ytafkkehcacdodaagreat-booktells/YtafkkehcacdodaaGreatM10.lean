/- Scan. -/
import Derived.Test.YtafkkehcacdodaaGreatM9
import Derived.Deep.LoopGhost
import Derived.Test.YtafkkehcacdodaaGreatM8
import Derived.Deep.RegionHeld3
set_option maxRecDepth 100000
namespace Go.Proofs.YtafkkehcacdodaaGreat
open Go.RowKit

/-- What holds between two rounds of Scan. -/
def ScanI (w : World) (R : Nat) (l : List Int) (gk : Nat) (v bo ok : Value) (wr : World) : Prop :=
  ∃ ls vs, Lst wr (R + 1) v vs ls ∧ Below R w wr ∧ R < wr.heap.size ∧ ls.length + gk ≤ l.length + 1 ∧
    ((ok = .bool false ∧ scanB l = ls) ∨ (ok = .bool true ∧ ∃ x r A b off cap, Bts wr bo x ∧ x ≠ [] ∧ x.length ≤ 56 ∧ Rdr wr R A b off cap r ∧ (r ≠ [] → b < R) ∧ scanB l = ls ++ x :: scanB r ∧ gk = r.length + 1))

theorem Rdr.same {w w' : World} {R : Nat} {A : Option Addr} {b off cap : Nat} {l : List Int} (h : Rdr w R A b off cap l) (hR : w'.heap[R]? = w.heap[R]?) (hb : l ≠ [] → w'.heap[b]? = w.heap[b]?) : Rdr w' R A b off cap l := by
  have e1 : ∀ j, w'.cell? ⟨R, j, none⟩ = w.cell? ⟨R, j, none⟩ := fun j => by unfold World.cell?; simp only [hR]
  have e2 : w'.frozen? ⟨R, 0, none⟩ = w.frozen? ⟨R, 0, none⟩ := by unfold World.frozen?; simp only [hR]
  refine ⟨by rw [e1]; exact h.cell, by rw [e2]; exact h.frz, h.le, h.mx, h.bt, h.ad, ?_, h.ne⟩
  intro i hi
  have hne : l ≠ [] := fun e => by rw [e] at hi; simp at hi
  rw [← h.sees i hi]
  unfold World.cell?
  simp only [hb hne]

/-- What next answers, at whatever bytes. -/
theorem next_any (w : World) (R : Nat) (A : Option Addr) (b off cap : Nat) (l : List Int) (h : Rdr w R A b off cap l) (hR : R < w.heap.size) (hb : l ≠ [] → b < R) :
    Calls Tryz.prog 95 #[.pointer (some ⟨R, 0, none⟩)] w fun e w' => ∃ v ok, e = .returned (.tuple #[v, .bool ok]) ∧ Below R w w' ∧ (∀ g, g < w.heap.size → g ≠ R → w'.heap[g]? = w.heap[g]?) ∧
      ((ok = false ∧ okB l = false ∧ ∃ A' b' off' cap', Rdr w' R A' b' off' cap' l) ∨ (ok = true ∧ okB l = true ∧ Bts w' v (bodyB l) ∧ ∃ A' b' off' cap', Rdr w' R A' b' off' cap' (l.drop ((bodyB l).length + 7)) ∧ (l.drop ((bodyB l).length + 7) ≠ [] → b' < R))) := by
  by_cases hk : okB l = true
  · have hl := bodyB_len hk
    have hne : l ≠ [] := fun e => by rw [e] at hl; simp at hl
    refine (next_ok8 w R A b off cap l h hR (by have := hb hne; omega) hk).mono ?_
    rintro e w' ⟨v, rfl, hN⟩
    obtain ⟨A', off', cap', hR'⟩ := hN.rest
    exact ⟨v, true, rfl, hN.below R (Nat.le_refl _) (by omega), hN.kept, .inr ⟨rfl, hk, hN.body, A', b, off', cap', hR', fun _ => hb hne⟩⟩
  · have hk' : okB l = false := by simpa using hk
    refine (next_no w R A b off cap l h hk').mono ?_
    rintro e w' ⟨rfl, hB⟩
    refine ⟨_, false, rfl, hB.mono (by omega), fun g hg _ => hB.block g hg, .inl ⟨rfl, hk', A, b, off, cap, h.same (hB.block R hR) (fun hne => hB.block b (by have := hb hne; omega))⟩⟩

set_option maxHeartbeats 4000000 in
theorem scan_ok (w : World) (v0 : Value) (l : List Int) (h : Bts w v0 l) (hbig : l.length ≤ 900000) :
    Calls Tryz.prog 64 #[v0] w fun e w' => ∃ v vs, e = .returned v ∧ Lst w' w.heap.size v vs (scanB l) ∧ Below w.heap.size w w' := by
  have HV : Hid (Bts w v0 l) := h
  obtain ⟨a, cap, b, off, rfl, hl, hm, hbb, ha, hs⟩ := h
  have hR0 : Rdr (w.alloc (.cells #[.slice a l.length cap] 159)) w.heap.size a b off cap l := by
    have hb := blk_new w #[.slice a l.length cap] 159
    refine ⟨hb.cell 0, hb.frozen 0, hl, hm, hbb, ha, hs.later (below_alloc _ _), ?_⟩
    intro hne e
    have := World.block_lt_of_cell? w _ (hs 0 (List.length_pos_iff.2 hne))
    have : b < w.heap.size := this
    omega
  have hb0 : l ≠ [] → b < w.heap.size := fun hne => World.block_lt_of_cell? w _ (hs 0 (List.length_pos_iff.2 hne))
  have HN := next_any _ w.heap.size a b off cap l hR0 (by simp) hb0
  clear hR0 hs ha hb0
  go_enter Tryz.func64, Tryz.ntmps64
  go_wp2_with (go_at_call 95; refine HN.mono ?_; rintro e w1 ⟨bo, ok, rfl, hB1, _, hx⟩)
  go_loopg [5, 6, 7] (if ok = true then (l.drop ((bodyB l).length + 7)).length + 1 else 0) (fun gk v bo ok wr => ScanI w w.heap.size l gk v bo ok wr)
  case atStart =>
    have hB : Below w.heap.size w w1 := (below_alloc w _).trans hB1
    refine ⟨[], [], lst_nil _ _, hB, by have := hB1.size; simp at this; omega, ?_, ?_⟩
    · split <;> simp
    · rcases hx with ⟨rfl, hk, _⟩ | ⟨rfl, hk, hbt, A', b', off', cap', hR', hb'⟩
      · exact .inl ⟨rfl, scanB_no hk⟩
      · have hl := bodyB_len hk
        exact .inr ⟨rfl, bodyB l, _, A', b', off', cap', hbt, fun e => by rw [e] at hl; simp at hl, hl.2.2.1, hR', hb', by rw [List.nil_append]; exact scanB_yes hk, by simp⟩
  case round =>
    obtain ⟨ls, vs, hL, hB, hRlt, hsz, ⟨rfl, hE⟩ | ⟨rfl, x, r, A, b, off, cap, hbo, hx, hx56, hR, hbR, hE, rfl⟩⟩ := hrel
    · go_wp2
      go_ret
      exact ⟨_, vs, rfl, by rw [hE]; exact hL.mono (by omega), hB⟩
    · obtain ⟨av, cv, hvv⟩ := win_shape hL.win
      subst hvv
      have HC := clone8_ok wr _ x hbo hx (by omega)
      have hxb : isBytes x := by obtain ⟨_, _, _, _, _, _, _, hb, _⟩ := hbo; exact hb
      have HPU : Hid (∀ w2 u, Owns w2 wr.heap.size u x → Below wr.heap.size wr w2 → ∃ v' w3, (Builtin.append_ #[79, 79] 79 #[.slice av ls.length cv, .slice (some ⟨w2.heap.size, 0, none⟩) 1 1]).run Tryz.prog (w2.alloc (.cells #[u] 39)) = .ok v' w3 ∧ Lst w3 (w.heap.size + 1) v' (vs ++ [u]) (ls ++ [x]) ∧
          Below w.heap.size w w3 ∧ w.heap.size < w3.heap.size ∧ (∃ a c, v' = .slice a (ls.length + 1) c) ∧ Rdr w3 w.heap.size A b off cap r) := by
        intro w2 u hO hB2
        obtain ⟨v', w3, e1, e2, _, e4, e5⟩ := hL.push hB2 (hO.bts hxb) (fun g hg => hO.lt g hg) (by omega) (by have := hsz; omega)
        have hs2 := hB2.size
        have hs3 := e4.size
        rw [World.size_alloc] at hs3
        have hkeep : ∀ g, g ≤ w.heap.size → w3.heap[g]? = wr.heap[g]? := fun g hg => by
          rw [e4.block g (by simp; omega) (fun e => by have := hL.blk g e.symm; omega), Below.heap_alloc _ _ _ (by omega)]
          exact hB2.block g (by omega)
        refine ⟨v', w3, e1, e2, ?_, by omega, e5, hR.same (hkeep _ (Nat.le_refl _)) (fun hne => hkeep _ (by have := hbR hne; omega))⟩
        refine (hB.trans ((hB2.trans ((below_alloc w2 _).mono hs2)).mono hB.size)).grown e4 (by simp; omega) (fun k hk => by have := hL.blk k hk; omega)
      obtain ⟨ba, bc, hbv, _⟩ := bts_src hbo
      subst hbv
      clear hbo hL hB hR hx
      go_wp2_with (first
        | (go_at_call 72; refine HC.mono ?_; rintro e w2 ⟨u, rfl, hO, hB2⟩; obtain ⟨v', w3, hrun, hL3, hB3, hR3, ⟨a3, c3, rfl⟩, hr3⟩ := HPU.out w2 u hO hB2; obtain ⟨ua, uc, rfl, _⟩ := bts_src (hO.bts hxb))
        | (at_builtin; refine wpl_append_run rfl _ _ 79 rfl _ _ rfl rfl hrun ?_))
      refine (next_any w3 w.heap.size A b off cap r hr3 hR3 hbR).mono ?_
      rintro e w4 ⟨bo4, ok4, rfl, hB4, hk4, hx4⟩
      have HB4 : Hid (Below w.heap.size w3 w4) := hB4
      have HL4 : Hid (Lst w4 (w.heap.size + 1) (.slice a3 (ls.length + 1) c3) (vs ++ [.slice ua x.length uc]) (ls ++ [x])) := hL3.kept (fun g h1 h2 => hk4 g h2 (by omega)) hB4.size
      have hsb : w3.heap.size ≤ w4.heap.size := hB4.size
      clear hB4 hL3 hO hB2 hr3 hk4
      go_wp2
      go_roundg (if ok4 = true then (r.drop ((bodyB r).length + 7)).length + 1 else 0)
      case measure =>
        have : (r.drop ((bodyB r).length + 7)).length + 1 ≤ r.length + 1 := by simp
        split
        · rename_i hok
          rcases hx4 with ⟨e, _⟩ | ⟨_, hk, _⟩
          · rw [e] at hok; cases hok
          · have := bodyB_len hk
            simp only [List.length_drop]; omega
        · omega
      case rel =>
        refine ⟨ls ++ [x], vs ++ [.slice ua x.length uc], HL4.out, hB3.trans HB4.out, by omega, ?_, ?_⟩
        · rw [List.length_append, List.length_singleton]
          have : (r.drop ((bodyB r).length + 7)).length + 1 ≤ r.length + 1 := by simp
          split
          · rename_i hok
            rcases hx4 with ⟨e, _⟩ | ⟨_, hk, _⟩
            · rw [e] at hok; cases hok
            · have := bodyB_len hk
              simp only [List.length_drop] at this ⊢; omega
          · omega
        · rcases hx4 with ⟨rfl, hk, _⟩ | ⟨rfl, hk, hbt, A', b', off', cap', hR', hb'⟩
          · exact .inl ⟨rfl, by rw [hE, scanB_no hk]⟩
          · have hl := bodyB_len hk
            exact .inr ⟨rfl, bodyB r, _, A', b', off', cap', hbt, fun e => by rw [e] at hl; simp at hl, hl.2.2.1, hR', hb', by rw [hE, scanB_yes hk]; simp, by simp⟩

end Go.Proofs.YtafkkehcacdodaaGreat

namespace Go.Proofs.YtafkkehcacdodaaGreat
open Go.RowKit

/-- Where a strand of the program lies: itself, its row of records, each record's bytes. -/
structure SL where
  S : Nat
  rv : Value
  vs : List Value

def rcell (x : (Nat × List Int) × Value) : List Value := [.int .i64 x.1.1, x.2]
def rcells (rs : List (Nat × List Int)) (vs : List Value) : List Value := (rs.zip vs).flatMap rcell

theorem rcells_snoc (rs : List (Nat × List Int)) (vs : List Value) (h : rs.length = vs.length) (x : Nat × List Int) (v : Value) : rcells (rs ++ [x]) (vs ++ [v]) = rcells rs vs ++ [.int .i64 x.1, v] := by
  simp [rcells, List.zip_append h, rcell]

theorem rcells_len (rs : List (Nat × List Int)) (vs : List Value) (h : rs.length = vs.length) : (rcells rs vs).length = rs.length * 2 := by
  induction rs generalizing vs with
  | nil => simp [rcells]
  | cons x r ih =>
    cases vs with
    | nil => simp at h
    | cons b bs =>
      have := ih bs (by simpa using h)
      simp only [rcells, List.zip_cons_cons, List.flatMap_cons, List.length_append, List.length_cons] at this ⊢
      rw [this]; simp [rcell]; omega

theorem rcells_at (rs : List (Nat × List Int)) (vs : List Value) (h : rs.length = vs.length) (k : Nat) (hk : k < rs.length) :
    (rcells rs vs)[k * 2]? = some (.int .i64 (rs.getD k (0, [])).1) ∧ (rcells rs vs)[k * 2 + 1]? = some (vs.getD k undef) := by
  induction rs generalizing vs k with
  | nil => simp at hk
  | cons x r ih =>
    cases vs with
    | nil => simp at h
    | cons b bs =>
      have e : rcells (x :: r) (b :: bs) = rcell (x, b) ++ rcells r bs := by simp [rcells]
      rw [e]
      cases k with
      | zero => simp [rcell]
      | succ k =>
        have := ih bs (by simpa using h) k (by simpa using hk)
        rw [show (k + 1) * 2 = k * 2 + 2 by omega, List.getElem?_append_right (by simp [rcell]), List.getElem?_append_right (by simp [rcell])]
        rw [show k * 2 + 2 - (rcell (x, b)).length = k * 2 by simp [rcell], show k * 2 + 2 + 1 - (rcell (x, b)).length = k * 2 + 1 by simp [rcell]]
        simpa using this

/-- A strand of the program over the disk at D, in memory that is o's. -/
structure PO (w : World) (tag : Nat → Nat) (base o D : Nat) (t : Sd) (q : SL) : Prop where
  bS : Blk w q.S [.pointer (some ⟨D, 0, none⟩), .int .i64 t.pos, .int .i64 t.used, q.rv]
  wR : Win w 2 q.rv t.recs.length (rcells t.recs q.vs)
  lv : t.recs.length = q.vs.length
  bt : ∀ i, i < t.recs.length → Bts w (q.vs.getD i undef) (t.recs.getD i (0, [])).2
  tS : tag q.S = 16 * o + 7 ∧ base ≤ q.S
  tR : ∀ g, q.rv.ownBlock = some g → tag g = 16 * o + 8 ∧ base ≤ g
  tB : ∀ i, i < t.recs.length → ∀ g, (q.vs.getD i undef).ownBlock = some g → tag g = 16 * o + 9 ∧ base ≤ g ∧ g < w.heap.size

theorem PO.keep {w w' : World} {tag tag' : Nat → Nat} {base o D : Nat} {t : Sd} {q : SL} (h : PO w tag base o D t q) (hk : ∀ k, k < w.heap.size → tag k / 16 = o → w'.heap[k]? = w.heap[k]?) (ht : ∀ k, k < w.heap.size → tag' k = tag k) (hs : w.heap.size ≤ w'.heap.size) : PO w' tag' base o D t q :=
  ⟨h.bS.same (hk _ h.bS.lt (by have := h.tS.1; omega)), h.wR.same (fun g hg => hk g (h.wR.lt g hg) (by have := (h.tR g hg).1; omega)), h.lv,
    fun i hi => bts_same (h.bt i hi) (fun g hg hlt => hk g hlt (by have := (h.tB i hi g hg).1; omega)),
    ⟨by rw [ht _ h.bS.lt]; exact h.tS.1, h.tS.2⟩, fun g hg => ⟨by rw [ht _ (h.wR.lt g hg)]; exact (h.tR g hg).1, (h.tR g hg).2⟩,
    fun i hi g hg => ⟨by rw [ht _ (h.tB i hi g hg).2.2]; exact (h.tB i hi g hg).1, (h.tB i hi g hg).2.1, Nat.lt_of_lt_of_le (h.tB i hi g hg).2.2 hs⟩⟩

theorem PO.later {w w' : World} {tag : Nat → Nat} {base o D : Nat} {t : Sd} {q : SL} (h : PO w tag base o D t q) (hb : Below w.heap.size w w') : PO w' tag base o D t q :=
  h.keep (fun k hk _ => hb.block k hk) (fun _ _ => rfl) hb.size

theorem PO.other {w w' : World} {tag tag' : Nat → Nat} {base o o' D : Nat} {t : Sd} {q : SL} (h : PO w tag base o D t q) (hb : Step tag tag' base o' w w') (ho : o ≠ o') : PO w' tag' base o D t q :=
  h.keep (fun k hk ht => hb.kept k hk (by rw [ht]; exact ho)) hb.tags hb.below.size

/-- Tags, and one tag for all behind. -/
def tagOver (tag : Nat → Nat) (N T : Nat) : Nat → Nat := fun k => if k < N then tag k else T

theorem tagOver_lt (tag : Nat → Nat) (N T k : Nat) (h : k < N) : tagOver tag N T k = tag k := by simp [tagOver, h]
theorem tagOver_ge (tag : Nat → Nat) (N T k : Nat) (h : N ≤ k) : tagOver tag N T k = T := by simp [tagOver, Nat.not_lt.2 h]

theorem step_over (tag : Nat → Nat) (base o T : Nat) {w w' : World} (hb : base ≤ w.heap.size) (h : Below w.heap.size w w') : Step tag (tagOver tag w.heap.size T) base o w w' :=
  ⟨h.mono hb, fun _ hk => tagOver_lt _ _ _ _ hk, fun k hk _ => h.block k hk⟩

/-- A step by either of two owners. -/
structure Step2 (tag tag' : Nat → Nat) (base o o' : Nat) (w w' : World) : Prop where
  below : Below base w w'
  tags : ∀ k, k < w.heap.size → tag' k = tag k
  kept : ∀ k, k < w.heap.size → tag k / 16 ≠ o → tag k / 16 ≠ o' → w'.heap[k]? = w.heap[k]?

section
variable {tag tag' tag'' : Nat → Nat} {base o o' : Nat} {w w' w'' : World}

theorem Step.two1 (h : Step tag tag' base o w w') (o' : Nat) : Step2 tag tag' base o o' w w' := ⟨h.below, h.tags, fun k hk h1 _ => h.kept k hk h1⟩
theorem Step.two2 (h : Step tag tag' base o' w w') (o : Nat) : Step2 tag tag' base o o' w w' := ⟨h.below, h.tags, fun k hk _ h2 => h.kept k hk h2⟩
theorem Step2.refl (tag : Nat → Nat) (base o o' : Nat) (w : World) : Step2 tag tag base o o' w w := ⟨Below.refl _ _, fun _ _ => rfl, fun _ _ _ _ => rfl⟩
theorem Step2.trans (h : Step2 tag tag' base o o' w w') (k : Step2 tag' tag'' base o o' w' w'') : Step2 tag tag'' base o o' w w'' := by
  have hs := h.below.size
  exact ⟨h.below.trans k.below, fun i hi => (k.tags i (by omega)).trans (h.tags i hi), fun i hi h1 h2 => (k.kept i (by omega) (by rw [h.tags i hi]; exact h1) (by rw [h.tags i hi]; exact h2)).trans (h.kept i hi h1 h2)⟩

theorem PD.other2 {b : Nat} {s : St} {p : PL} (h : PD w tag base b s p) (hb : Step2 tag tag' base o o' w w') (h1 : b ≠ o) (h2 : b ≠ o') : PD w' tag' base b s p :=
  h.keep (fun k hk ht => hb.kept k hk (by rw [ht]; exact h1) (by rw [ht]; exact h2)) hb.tags
theorem MD.other2 {b : Nat} {s : St} {p : ML} (h : MD w tag base b s p) (hb : Step2 tag tag' base o o' w w') (h1 : b ≠ o) (h2 : b ≠ o') : MD w' tag' base b s p :=
  h.keep (fun k hk ht => hb.kept k hk (by rw [ht]; exact h1) (by rw [ht]; exact h2)) hb.tags
theorem PO.other2 {b D : Nat} {t : Sd} {q : SL} (h : PO w tag base b D t q) (hb : Step2 tag tag' base o o' w w') (h1 : b ≠ o) (h2 : b ≠ o') : PO w' tag' base b D t q :=
  h.keep (fun k hk ht => hb.kept k hk (by rw [ht]; exact h1) (by rw [ht]; exact h2)) hb.tags hb.below.size
theorem Held.two {v : Value} {l : List Int} (h : Held w tag v l) (hS : Step2 tag tag' base o o' w w') (h1 : 1 ≤ o) (h2 : 1 ≤ o') : Held w' tag' v l :=
  ⟨bts_same h.1 (fun g hg hlt => hS.kept g hlt (by rw [(h.2 g hg).1]; omega) (by rw [(h.2 g hg).1]; omega)), fun g hg => ⟨by rw [hS.tags g (h.2 g hg).2]; exact (h.2 g hg).1, Nat.lt_of_lt_of_le (h.2 g hg).2 hS.below.size⟩⟩

end

/-- Behind stores into the strand's own block: the place is another one. -/
theorem PO.placed {w : World} {tag : Nat → Nat} {base o D : Nat} {t : Sd} {q : SL} (h : PO w tag base o D t q) (w' : World) (t' : Sd) (hb : Blk w' q.S [.pointer (some ⟨D, 0, none⟩), .int .i64 t'.pos, .int .i64 t'.used, q.rv]) (hr : t'.recs = t.recs)
    (hk : ∀ k, k < w.heap.size → k ≠ q.S → w'.heap[k]? = w.heap[k]?) (hs : w.heap.size ≤ w'.heap.size) : PO w' tag base o D t' q := by
  have hne : ∀ {g T : Nat}, g < w.heap.size → tag g = T → T ≠ 16 * o + 7 → w'.heap[g]? = w.heap[g]? := fun {g T} hg hT hn => hk g hg (fun e => hn (by rw [← hT, e]; exact h.tS.1))
  refine ⟨hb, ?_, by rw [hr]; exact h.lv, ?_, h.tS, h.tR, ?_⟩
  · rw [hr]; exact h.wR.same (fun g hg => hne (h.wR.lt g hg) (h.tR g hg).1 (by omega))
  · rw [hr]; exact fun i hi => bts_same (h.bt i hi) (fun g hg hlt => hne hlt (h.tB i hi g hg).1 (by omega))
  · rw [hr]; exact fun i hi g hg => ⟨(h.tB i hi g hg).1, (h.tB i hi g hg).2.1, Nat.lt_of_lt_of_le (h.tB i hi g hg).2.2 hs⟩

/-- Behind one record more. -/
theorem PO.pushed {w wx w3 : World} {tag : Nat → Nat} {base o D : Nat} {t : Sd} {q : SL} (h : PO w tag base o D t q) (hbase : base ≤ w.heap.size) (hx : Below w.heap.size w wx) (k : Nat) (x : List Int) (u v' : Value) (hu : Bts w u x) (htu : ∀ g, u.ownBlock = some g → tag g = 16 * o + 9 ∧ base ≤ g ∧ g < w.heap.size)
    (hg : wx.grownBy w3 q.rv.ownBlock) (ha : v'.ownBlock = q.rv.ownBlock ∨ v'.ownBlock = some wx.heap.size) (hw : Win w3 2 v' (t.recs.length + 1) (rcells t.recs q.vs ++ [.int .i64 k, u])) :
    ∃ tag', PO (w3.setCell ⟨q.S, 3, none⟩ v') tag' base o D ⟨t.pos, t.used, t.recs ++ [(k, x)]⟩ ⟨q.S, v', q.vs ++ [u]⟩ ∧ Step tag tag' base o w (w3.setCell ⟨q.S, 3, none⟩ v') ∧ ∀ g, g < w.heap.size → tag g = 16 * o + 9 → (w3.setCell ⟨q.S, 3, none⟩ v').heap[g]? = w.heap[g]? := by
  have hsx := hx.size
  have hs3 := hg.size
  have hsz : (w3.setCell ⟨q.S, 3, none⟩ v').heap.size = w3.heap.size := by simp [World.setCell]
  have hkeep : ∀ g, g < w.heap.size → q.rv.ownBlock ≠ some g → g ≠ q.S → (w3.setCell ⟨q.S, 3, none⟩ v').heap[g]? = w.heap[g]? := fun g h1 h2 h3 => by
    rw [heap_setCell_other _ _ g _ h3, hg.block g (by omega) (fun e => h2 e.symm), hx.block g h1]
  have hSr : q.rv.ownBlock ≠ some q.S := fun e => by have := (h.tR _ e).1; rw [h.tS.1] at this; omega
  have hkt : ∀ {g T : Nat}, g < w.heap.size → tag g = T → T ≠ 16 * o + 7 → T ≠ 16 * o + 8 → (w3.setCell ⟨q.S, 3, none⟩ v').heap[g]? = w.heap[g]? := fun {g T} h1 hT h7 h8 =>
    hkeep g h1 (fun e => h8 (by rw [← hT]; exact (h.tR g e).1)) (fun e => h7 (by rw [← hT, e]; exact h.tS.1))
  have hvS : v'.ownBlock ≠ some q.S := by
    rcases ha with e | e
    · rw [e]; exact hSr
    · rw [e]; intro e'; simp at e'; have := h.bS.lt; omega
  have htag : ∀ g, g < w.heap.size → retag tag v' (16 * o + 8) g = tag g := fun g hlt => by
    unfold retag
    split
    · rename_i e
      rcases ha with e' | e'
      · rw [e'] at e; exact (h.tR g e).1.symm
      · rw [e'] at e; simp at e; omega
    · rfl
  refine ⟨retag tag v' (16 * o + 8), ⟨?_, ?_, ?_, ?_, ?_, ?_, ?_⟩, ⟨?_, htag, ?_⟩, fun g h1 h2 => hkt h1 h2 (by omega) (by omega)⟩
  · have hb : Blk w3 q.S _ := h.bS.same ((hg.block q.S (by have := h.bS.lt; omega) (fun e => hSr e.symm)).trans (hx.block q.S h.bS.lt))
    simpa using hb.set 3 v'
  · rw [rcells_snoc _ _ h.lv]
    have : Win w3 2 v' (t.recs ++ [(k, x)]).length (rcells t.recs q.vs ++ [.int .i64 k, u]) := by rw [List.length_append]; exact hw
    exact this.same (fun g hgv => heap_setCell_other _ _ g _ (fun e => hvS (by rw [hgv, show g = q.S from e])))
  · simp [h.lv]
  · intro i hi
    rw [List.length_append, List.length_singleton] at hi
    by_cases hil : i < t.recs.length
    · rw [getD_snoc_lt _ _ _ _ (by rw [← h.lv]; exact hil), getD_snoc_lt _ _ _ _ hil]
      exact bts_same (h.bt i hil) (fun g hgv hlt => hkt hlt (h.tB i hil g hgv).1 (by omega) (by omega))
    · have : i = t.recs.length := by omega
      subst this
      rw [getD_snoc_eq]
      show Bts _ ((q.vs ++ [u]).getD t.recs.length undef) x
      rw [h.lv, getD_snoc_eq]
      exact bts_same hu (fun g hgv hlt => hkt hlt (htu g hgv).1 (by omega) (by omega))
  · exact ⟨by rw [htag _ h.bS.lt]; exact h.tS.1, h.tS.2⟩
  · intro g hgv
    refine ⟨by simp [retag, hgv], ?_⟩
    rcases ha with e | e
    · rw [e] at hgv; exact (h.tR g hgv).2
    · rw [e] at hgv; simp at hgv; omega
  · intro i hi g hgv
    rw [List.length_append, List.length_singleton] at hi
    by_cases hil : i < t.recs.length
    · rw [getD_snoc_lt _ _ _ _ (by rw [← h.lv]; exact hil)] at hgv
      obtain ⟨e1, e2, e3⟩ := h.tB i hil g hgv
      exact ⟨by rw [htag g e3]; exact e1, e2, by omega⟩
    · have : i = t.recs.length := by omega
      subst this
      have hgv' : ((q.vs ++ [u]).getD t.recs.length undef).ownBlock = some g := hgv
      rw [h.lv, getD_snoc_eq] at hgv'
      obtain ⟨e1, e2, e3⟩ := htu g hgv'
      exact ⟨by rw [htag g e3]; exact e1, e2, by omega⟩
  · refine Below.setCell ?_ h.tS.2 _
    exact (hx.mono hbase).grown hg (by omega) (fun g hgv => (h.tR g hgv).2)
  · intro g hlt hne
    exact hkeep g hlt (fun e => hne (by rw [(h.tR g e).1]; omega)) (fun e => hne (by rw [e, h.tS.1]; omega))

section
variable {w : World} {tag : Nat → Nat} {base o D : Nat} {t : Sd} {q : SL}
theorem PO.s0 (h : PO w tag base o D t q) : w.cell? ⟨q.S, 0, none⟩ = some (.pointer (some ⟨D, 0, none⟩)) := h.bS.cell 0
theorem PO.s1 (h : PO w tag base o D t q) : w.cell? ⟨q.S, 1, none⟩ = some (.int .i64 t.pos) := h.bS.cell 1
theorem PO.s2 (h : PO w tag base o D t q) : w.cell? ⟨q.S, 2, none⟩ = some (.int .i64 t.used) := h.bS.cell 2
theorem PO.s3 (h : PO w tag base o D t q) : w.cell? ⟨q.S, 3, none⟩ = some q.rv := h.bS.cell 3
theorem PO.fS (h : PO w tag base o D t q) (j : Nat) : w.frozen? ⟨q.S, j, none⟩ = false := h.bS.frozen j
theorem PO.rform (h : PO w tag base o D t q) : ∃ a c, q.rv = .slice a t.recs.length c ∧ t.recs.length ≤ c ∧ c ≤ maxLen := by
  rcases h.wR.2 with ⟨h1, h2⟩ | ⟨g, oo, cap, cs, h1, _, h2, h3, _⟩
  · exact ⟨none, 0, by rw [h1, h2], by omega, by decide⟩
  · exact ⟨_, _, h1, h2, h3⟩
end

end Go.Proofs.YtafkkehcacdodaaGreat

namespace Go.Proofs.YtafkkehcacdodaaGreat
open Go.RowKit

set_option maxHeartbeats 400000 in
theorem smade_ok (w : World) (tag : Nat → Nat) (base o D : Nat) (t : Sd) (q : SL) (h : PO w tag base o D t q) :
    Calls Tryz.prog 71 #[.pointer (some ⟨q.S, 0, none⟩)] w fun e w' => e = .returned (.bool true) ∧ w' = w := by
  have h1 := h.s0
  clear h
  go_enter Tryz.func71, Tryz.ntmps71
  go_wp2
  go_ret
  exact ⟨rfl, rfl⟩

theorem blk_s {w : World} {S : Nat} {a b c d b' c' : Value} (h : Blk w S [a, b, c, d]) : Blk ((w.setCell ⟨S, 1, none⟩ b').setCell ⟨S, 2, none⟩ c') S [a, b', c', d] := by
  have := (h.set 1 b').set 2 c'
  simpa using this

set_option maxHeartbeats 400000 in
theorem leave_ok (w : World) (tag : Nat → Nat) (base o D : Nat) (t : Sd) (q : SL) (h : PO w tag base o D t q) (hp : t.pos ≤ 1000000) :
    Calls Tryz.prog 109 #[.pointer (some ⟨q.S, 0, none⟩)] w fun e w' => e = .returned (.tuple #[]) ∧ PO w' tag base o D t.leave q ∧ Step tag tag base o w w' := by
  have h1 := h.s1
  have f1 := h.fS 1
  have f2 := h.fS 2
  have h2 := h.s2
  have HP : Hid (PO w tag base o D t q) := h
  clear h
  go_enter Tryz.func109, Tryz.ntmps109
  go_wp2
  refine bodyPost_end (results_none rfl _ _ _) rfl ?_
  have hb := blk_s (b' := .int .i64 ((t.pos + 1 : Nat) : Int)) (c' := .int .i64 ((0 : Nat) : Int)) HP.out.bS
  refine ⟨rfl, HP.out.placed _ t.leave hb rfl (fun k _ hk => by rw [heap_setCell_other _ _ k _ hk, heap_setCell_other _ _ k _ hk]) (by simp [World.setCell]), ?_⟩
  exact (step_set tag base o w HP.out.tS.2 (by have := HP.out.tS.1; omega) 1 _).set HP.out.tS.2 (by have := HP.out.tS.1; omega) 2 _

set_option maxHeartbeats 1000000 in
theorem ssync_ok (w : World) (tag : Nat → Nat) (base o o' : Nat) (ho : o ≠ o') (s : St) (p : PL) (h : PD w tag base o s p) (t : Sd) (q : SL) (hq : PO w tag base o' p.D t q) (hbase : base ≤ w.heap.size) (hp : t.pos ≤ 1000000)
    (hops : s.ops ≤ 1000000) (hout : s.outs.length ≤ 1000000) (hsin : s.since.length ≤ 1000000) :
    Calls Tryz.prog 90 #[.pointer (some ⟨q.S, 0, none⟩)] w fun e w' => e = .returned (.int .i64 (errC s.out)) ∧ ∃ p' tag', p'.D = p.D ∧ PD w' tag' base o s.sync p' ∧ PO w' tag' base o' p.D (synT s t) q ∧ Step2 tag tag' base o o' w w' := by
  have h0 := hq.s0
  have HM := smade_ok w tag base o' p.D t q hq
  have HS := sync_ok w tag base o s p h hbase hops hout hsin
  have HQ : Hid (PO w tag base o' p.D t q) := hq
  clear hq h
  rcases err_cases s.out with hE | hE
  · have HT : Hid (synT s t = t) := by show _ = _; unfold synT; rw [hE]; simp
    rw [hE] at HS ⊢
    clear hE
    go_enter Tryz.func90, Tryz.ntmps90
    go_wp2_with (first
      | (go_at_call 71; refine HM.mono ?_; rintro e w' ⟨rfl, hx⟩; have HX1 : Hid (w' = w) := hx; clear hx; rw [HX1.out])
      | (go_at_call 112; refine HS.mono ?_; rintro e w1 ⟨rfl, p1, hD, hP, hS⟩; have hq1 := HQ.out.other hS (fun e => ho e.symm); have g2 := hq1.s2; have HP1 : Hid (PD w1 tag base o s.sync p1) := hP; have HS1 : Hid (Step tag tag base o w w1) := hS; have HQ1 : Hid (PO w1 tag base o' p.D t q) := hq1; clear hP hS hq1))
    go_ret
    exact ⟨rfl, p1, tag, hD, HP1.out, by rw [HT.out]; exact HQ1.out, HS1.out.two1 o'⟩
  · rw [hE] at HS ⊢
    by_cases hu : 0 < t.used
    · have HT : Hid (synT s t = t.leave) := by show _ = _; unfold synT; rw [hE]; simp [hu]
      have huI : (0 : Int) < t.used := by omega
      clear hE
      go_enter Tryz.func90, Tryz.ntmps90
      go_wp2_with (first
        | (go_at_call 71; refine HM.mono ?_; rintro e w' ⟨rfl, hx⟩; have HX1 : Hid (w' = w) := hx; clear hx; rw [HX1.out])
        | (go_at_call 112; refine HS.mono ?_; rintro e w1 ⟨rfl, p1, hD, hP, hS⟩; have hq1 := HQ.out.other hS (fun e => ho e.symm); have g2 := hq1.s2; have HP1 : Hid (PD w1 tag base o s.sync p1) := hP; have HS1 : Hid (Step tag tag base o w w1) := hS; have HLv := leave_ok w1 tag base o' p.D t q hq1 hp; clear hP hS hq1)
        | (go_at_call 109; refine HLv.mono ?_; rintro e w2 ⟨rfl, hq2, hS2⟩))
      go_ret
      exact ⟨rfl, p1, tag, hD, HP1.out.other hS2 ho, by rw [HT.out]; exact hq2, (HS1.out.two1 o').trans (hS2.two2 o)⟩
    · have hu0 : t.used = 0 := by omega
      have HT : Hid (synT s t = t) := by show _ = _; unfold synT; rw [hu0]; simp
      have huI : ¬ (0 : Int) < t.used := by omega
      clear hE
      go_enter Tryz.func90, Tryz.ntmps90
      go_wp2_with (first
        | (go_at_call 71; refine HM.mono ?_; rintro e w' ⟨rfl, hx⟩; have HX1 : Hid (w' = w) := hx; clear hx; rw [HX1.out])
        | (go_at_call 112; refine HS.mono ?_; rintro e w1 ⟨rfl, p1, hD, hP, hS⟩; have hq1 := HQ.out.other hS (fun e => ho e.symm); have g2 := hq1.s2; have HP1 : Hid (PD w1 tag base o s.sync p1) := hP; have HS1 : Hid (Step tag tag base o w w1) := hS; have HQ1 : Hid (PO w1 tag base o' p.D t q) := hq1; clear hP hS hq1))
      go_ret
      exact ⟨rfl, p1, tag, hD, HP1.out, by rw [HT.out]; exact HQ1.out, HS1.out.two1 o'⟩

end Go.Proofs.YtafkkehcacdodaaGreat

namespace Go.Proofs.YtafkkehcacdodaaGreat
open Go.RowKit

theorem copy_row (w : World) (b o n c : Nat) (ad : Addr) (m c' : Nat) (cs : List Value) (hl : cs.length = Nat.min m n) (hsrc : ∀ j v, cs[j]? = some v → w.cell? (ad.add j) = some v) (hth : w.there b o cs.length) (h1 : ∀ v ∈ cs, v.oneCell' = true) :
    (Builtin.copy_ #[39, 39] 3 #[.slice (some ⟨b, o, none⟩) n c, .slice (some ad) m c']).run Tryz.prog w = .ok (.int .i64 cs.length) (w.setCells b o cs) := by
  have := run_copy_cells (P := Tryz.prog) w 39 39 3 5 b o n c ad m c' cs Tryz.underlying39 size5 hl hsrc (fun j hj => (hth j hj).1) (fun j hj => (hth j hj).2) h1
  rw [this]; rfl

theorem laid_with (sc f : List Int) (u : Nat) (hs : sc.length = 64) (hu : u + f.length ≤ 64) : splice (splice (bytesV (zeros 64)) 0 (bytesV (sc.take u))) u (bytesV f) = bytesV (withB sc u f) := by
  have hl1 : (splice (bytesV (zeros 64)) 0 (bytesV (sc.take u))).length = 64 := by rw [splice_length _ _ _ (by simp [zeros]; omega)]; simp [zeros]
  apply List.ext_getElem?
  intro j
  rw [splice_get _ _ _ _ (by rw [hl1]; simp; omega), splice_get _ _ _ _ (by simp [zeros]; omega)]
  unfold withB
  simp only [List.map_append, List.getElem?_append, List.length_map, List.length_take, List.length_append, zeros, List.map_replicate, List.getElem?_replicate, List.getElem?_map, Nat.zero_add]
  rw [Nat.min_eq_left (by omega)]
  by_cases h1 : j < u
  · rw [if_neg (by omega), if_pos (by omega), if_pos (by omega), if_pos h1]; simp
  · by_cases h2 : j < u + f.length
    · rw [if_pos (by omega), if_pos h2, if_neg h1]
    · rw [if_neg (by omega), if_neg (by omega), if_neg h2]
      by_cases h3 : j < 64
      · rw [if_pos h3, if_pos (by omega)]
      · rw [if_neg h3, if_neg (by omega)]

theorem row_bts {w : World} {g cap n : Nat} {l : List Int} (h : Row w 1 g cap n (bytesV l)) (hb : isBytes l) : Bts w (.slice (some ⟨g, 0, none⟩) n cap) l := by
  have hl : l.length = n := by have := h.1; simpa using this
  subst hl
  refine ⟨_, cap, g, 0, rfl, h.2.1, h.2.2.1, hb, .inl rfl, fun i hi => ?_⟩
  rw [Nat.zero_add, h.cell i (by omega)]
  simp [List.getElem?_eq_getElem hi]

set_option maxHeartbeats 2000000 in
theorem with_ok (w : World) (tag : Nat → Nat) (base o o' : Nat) (s : St) (p : PL) (h : PD w tag base o s p) (t : Sd) (q : SL) (hq : PO w tag base o' p.D t q) (hp : t.pos < s.n) (v : Value) (f : List Int) (hv : Bts w v f) (hf : 1 ≤ f.length) (hu : t.used + f.length ≤ 64) :
    Calls Tryz.prog 111 #[.pointer (some ⟨q.S, 0, none⟩), v] w fun e w' => ∃ g, e = .returned (.slice (some ⟨g, 0, none⟩) 64 64) ∧ w.heap.size ≤ g ∧ Bts w' (.slice (some ⟨g, 0, none⟩) 64 64) (withB (sec s.now t.pos) t.used f) ∧ Below w.heap.size w w' := by
  obtain ⟨i0, hi, hz0, hz1, hz2⟩ := info_parts info5
  have hsl := sec_len h.ok.nl hp
  have hsb := sec_bytes h.ok.nb t.pos
  have hfb : isBytes f := by obtain ⟨_, _, _, _, _, _, _, hb, _⟩ := hv; exact hb
  have h0 := hq.s0
  have h1 := hq.s1
  have h2 := hq.s2
  have hSlt := hq.bS.lt
  have HPD : Hid (PD w tag base o s p) := h
  have HV : Hid (Bts w v f) := hv
  obtain ⟨fa, fc, hfv, hfl, hfm, _⟩ := bts_src hv
  subst hfv
  unfold maxLen at hfm
  have huI : (t.used : Int) ≤ 64 := by omega
  have huI2 : (t.used : Int) < 64 := by omega
  clear h hq hv
  go_enter Tryz.func111, Tryz.ntmps111
  go_wp2_with (at_make; refine wpList_make_full _ rfl _ _ 39 rfl w.heap.size 5 i0 (.int .u8 0) 1 Tryz.underlying39 hi hz0 hz1 .i64 .i64 _ _ 64 rfl rfl rfl rfl (by rw [hz2]; omega) (by unfold maxLen; omega) (Nat.le_refl _) ?_; intro w1 hown hgrow)
  rw [made8] at hown
  have hB1 : Below w.heap.size w w1 := (Below.refl _ _).grown hgrow (Nat.le_refl _) (fun k hk => by cases hk)
  have hs1 := hB1.size
  have hrow := row_of_owns hown
  have hBd : Below w.heap.size w w1.drew := hB1.drew
  have HR := read_ok w1.drew tag base o s p (HPD.out.later hBd) t.pos hp
  have hB2 : Below w.heap.size w (w1.drew.alloc (.cells (bytesV (sec s.now t.pos)).toArray 103)) := hBd.trans ((below_alloc w1.drew _).mono hs1)
  have K1 : w1.drew.cell? ⟨q.S, 0, none⟩ = some (.pointer (some ⟨p.D, 0, none⟩)) ∧ w1.drew.cell? ⟨q.S, 1, none⟩ = some (.int .i64 t.pos) := ⟨cell_later hBd h0, cell_later hBd h1⟩
  have K2 : Hid ((w1.drew.alloc (.cells (bytesV (sec s.now t.pos)).toArray 103)).cell? ⟨q.S, 0, none⟩ = some (.pointer (some ⟨p.D, 0, none⟩)) ∧ (w1.drew.alloc (.cells (bytesV (sec s.now t.pos)).toArray 103)).cell? ⟨q.S, 1, none⟩ = some (.int .i64 t.pos)) := ⟨cell_later hB2 h0, cell_later hB2 h1⟩
  have hr2 : Row (w1.drew.alloc (.cells (bytesV (sec s.now t.pos)).toArray 103)) 1 w.heap.size 64 64 (bytesV (zeros 64)) := (hrow.later (Below.refl _ _).drew).later (below_alloc _ _)
  have hsrc := blk_new w1.drew (bytesV (sec s.now t.pos)).toArray 103
  have hg2 := cell_later hB2 h2
  have hv2 := HV.out.later hB2
  obtain ⟨W2, hW2⟩ : ∃ W2, W2 = w1.drew.alloc (.cells (bytesV (sec s.now t.pos)).toArray 103) := ⟨_, rfl⟩
  rw [← hW2] at hr2 hsrc hg2 hv2 hB2 HR K2
  have hsz2 : w1.heap.size < W2.heap.size := hsrc.lt
  have hth1 := hr2.there 0 t.used (by omega)
  have hcl : (bytesV ((sec s.now t.pos).take t.used)).length = t.used := by simp; omega
  have hcp1 := copy_row W2 w.heap.size 0 t.used 64 ⟨w1.heap.size, 0, none⟩ 64 64 (bytesV ((sec s.now t.pos).take t.used)) (by rw [hcl]; exact (Nat.min_eq_right (by omega)).symm)
    (fun j v hj => by
      rw [add_at, Nat.zero_add]
      have hj' : j < t.used := by have := (List.getElem?_eq_some_iff.1 hj).1; omega
      have := hsrc.cell j
      rw [show w1.drew.heap.size = w1.heap.size from rfl] at this
      rw [this, ← hj]
      simp [hj']) (by rw [hcl]; exact hth1) (ones_bytes _)
  have hr3 := hr2.sets 0 (bytesV ((sec s.now t.pos).take t.used)) (by rw [hcl]; omega)
  have hB3 : Below w.heap.size W2 (W2.setCells w.heap.size 0 (bytesV ((sec s.now t.pos).take t.used))) := below_setCells w.heap.size (Nat.le_refl _) _ _
  have hg3 : (W2.setCells w.heap.size 0 (bytesV ((sec s.now t.pos).take t.used))).cell? ⟨q.S, 2, none⟩ = some (.int .i64 t.used) := by
    rw [World.cell?_setCells_out _ _ _ _ _ (fun e _ => absurd e (by show q.S ≠ w.heap.size; omega))]; exact hg2
  have hv3 : Bts (W2.setCells w.heap.size 0 (bytesV ((sec s.now t.pos).take t.used))) (.slice fa f.length fc) f := HV.out.later (hB2.trans hB3)
  obtain ⟨W3, hW3⟩ : ∃ W3, W3 = W2.setCells w.heap.size 0 (bytesV ((sec s.now t.pos).take t.used)) := ⟨_, rfl⟩
  rw [← hW3] at hr3 hB3 hg3 hv3 hcp1
  obtain ⟨fa', fc', e, _, _, hsf⟩ := bts_src hv3
  simp only [Value.slice.injEq, true_and] at e
  obtain ⟨rfl, rfl⟩ := e
  rcases hsf with ⟨ad, rfl, hsf⟩ | h00
  case inr => omega
  have hcp2 := copy_row W3 w.heap.size t.used (64 - t.used) (64 - t.used) ad f.length fc (bytesV f) (by rw [List.length_map]; exact (Nat.min_eq_left (by omega)).symm) hsf (hr3.there t.used _ (by simp; omega)) (ones_bytes _)
  have hr4 := hr3.sets t.used (bytesV f) (by simp; omega)
  rw [laid_with _ _ _ hsl hu] at hr4
  have HF : Hid (Bts (W3.setCells w.heap.size t.used (bytesV f)) (.slice (some ⟨w.heap.size, 0, none⟩) 64 64) (withB (sec s.now t.pos) t.used f) ∧ Below w.heap.size w (W3.setCells w.heap.size t.used (bytesV f))) :=
    ⟨row_bts hr4 (withB_bytes _ _ _ hsb hfb), (hB2.trans hB3).trans (below_setCells w.heap.size (Nat.le_refl _) _ _)⟩
  rw [hcl] at hcp1
  rw [List.length_map] at hcp2
  have HW2 : Hid (W2 = w1.drew.alloc (.cells (bytesV (sec s.now t.pos)).toArray 103)) := hW2
  clear hown hgrow hrow hB1 hBd hB2 hB3 hr2 hr3 hr4 hsrc hth1 hv2 hv3 hsf hW2 hW3 h0 h1 h2 hs1 hsz2 hsl hsb
  go_region_held3 (fun w' => w'.cell? ⟨q.S, 0, none⟩ = some (.pointer (some ⟨p.D, 0, none⟩)) ∧ w'.cell? ⟨q.S, 1, none⟩ = some (.int .i64 t.pos))
    (first | (with_reducible exact K1) | (with_reducible exact K2.out)) ((go_at_call 63; refine HR.mono ?_; rintro e w2 ⟨rfl, hx⟩; have HX : Hid (w2 = W2) := hx; clear hx; rw [HX.out]))
  all_goals
    go_wp2_with (first
      | (refine wpl_copy_run rfl (.tmp 26) (.tmp 27) 39 rfl _ _ rfl rfl hcp1 ?_)
      | (refine wpl_copy_run rfl (.tmp 34) (.tmp 35) 39 rfl _ _ rfl rfl hcp2 ?_))
    go_ret
    exact ⟨w.heap.size, rfl, Nat.le_refl _, HF.out.1, HF.out.2⟩

end Go.Proofs.YtafkkehcacdodaaGreat

namespace Go.Proofs.YtafkkehcacdodaaGreat
open Go.RowKit

/-- The i-th record's cells. -/
theorem PO.rAt {w : World} {tag : Nat → Nat} {base o D : Nat} {t : Sd} {q : SL} (h : PO w tag base o D t q) (hne : 0 < t.recs.length) : ∃ g oo cap, q.rv = .slice (some ⟨g, oo, none⟩) t.recs.length cap ∧ t.recs.length ≤ cap ∧ cap ≤ maxLen ∧
    ∀ i, i < t.recs.length → w.cell? ⟨g, oo + i * 2, none⟩ = some (.int .i64 (t.recs.getD i (0, [])).1) ∧ w.cell? ⟨g, oo + i * 2 + 1, none⟩ = some (q.vs.getD i undef) := by
  rcases h.wR.2 with ⟨_, h0⟩ | ⟨g, oo, cap, cs, h1, hb, h2, h3, h4, h5⟩
  · omega
  refine ⟨g, oo, cap, h1, h2, h3, fun i hi => ?_⟩
  obtain ⟨e1, e2⟩ := rcells_at t.recs q.vs h.lv i hi
  have := hb.range oo (t.recs.length * 2)
  rw [h5] at this
  exact ⟨this (i * 2) _ e1, by have := this (i * 2 + 1) _ e2; rwa [← Nat.add_assoc] at this⟩

theorem lst_made {w : World} {base : Nat} {v : Value} (h : w.ownsRow base 39 1 v 0 []) : Lst w base v [] [] := by
  refine ⟨win_of_owns h, fun g hg => ?_, fun i hi => by simp at hi, fun i hi => by simp at hi⟩
  rcases h.2 with ⟨rfl, _⟩ | ⟨g', c, cur, rfl, hb, _⟩
  · simp [Value.ownBlock] at hg
  · simp [Value.ownBlock] at hg; omega

def bodies (t : Sd) : List (List Int) := t.recs.map Prod.snd

theorem bodies_len (t : Sd) : (bodies t).length = t.recs.length := by simp [bodies]

theorem bodies_take (t : Sd) (k : Nat) (h : k < t.recs.length) : (bodies t).take (k + 1) = (bodies t).take k ++ [(t.recs.getD k (0, [])).2] := by
  rw [List.take_succ_eq_append_getElem (by rw [bodies_len]; exact h)]
  simp [bodies, List.getD, List.getElem?_eq_getElem h]

set_option maxHeartbeats 4000000 in
theorem all_ok (w : World) (tag : Nat → Nat) (base o D : Nat) (t : Sd) (q : SL) (h : PO w tag base o D t q) (n : Nat) (ht : t.Ok n) (hrec : t.recs.length ≤ 900000) :
    Calls Tryz.prog 32 #[.pointer (some ⟨q.S, 0, none⟩)] w fun e w' => ∃ v vs, e = .returned v ∧ Lst w' w.heap.size v vs (bodies t) ∧ Below w.heap.size w w' := by
  obtain ⟨i0, hi, hz0, hz1, hz2⟩ := info_parts infoB
  have HP : Hid (PO w tag base o D t q) := h
  have HM := smade_ok w tag base o D t q h
  have h3 := h.s3
  obtain ⟨ra, rc, hrv, hr1, hr2⟩ := h.rform
  have HRV : Hid (q.rv = .slice ra t.recs.length rc) := hrv
  rw [hrv] at h3
  clear hrv h
  unfold maxLen at hr2
  go_enter Tryz.func32, Tryz.ntmps32
  go_wp2_with (first
    | (go_at_call 71; refine HM.mono ?_; rintro e w' ⟨rfl, hx⟩; have HX1 : Hid (w' = w) := hx; clear hx; rw [HX1.out])
    | (at_make; refine wpList_make_own _ rfl _ _ 79 rfl w.heap.size 39 i0 (.slice none 0 0) 1 Tryz.underlying79 hi hz0 hz1 .i64 .i64 _ t.recs.length rfl rfl rfl (by rw [hz2]; omega) (by unfold maxLen; omega) (Nat.le_refl _) ?_; intro w1 hown hgrow; have hB1 : Below w.heap.size w w1 := (Below.refl _ _).grown hgrow (Nat.le_refl _) (fun k hk => by cases hk); have g3 := cell_later hB1 h3))
  go_loopw [3, 20] (fun v i wr => ∃ (k : Nat) (vs : List Value), k ≤ t.recs.length ∧ i = .int .i64 k ∧ Lst wr w.heap.size v vs ((bodies t).take k) ∧ Below w.heap.size w wr) (fun _ i _ => t.recs.length - (intOf i).toNat)
  case atStart => exact ⟨0, [], Nat.zero_le _, rfl, by rw [List.take_zero]; exact lst_made hown, hB1⟩
  case round =>
    obtain ⟨k, vs, hk, rfl, hL, hB⟩ := hrel
    by_cases hlt : k < t.recs.length
    · have hltI : (k : Int) < (t.recs.length : Int) := by omega
      obtain ⟨g, oo, cap, hvv, _, _, hr⟩ := HP.out.rAt (by omega)
      rw [HRV.out] at hvv
      simp only [Value.slice.injEq, true_and] at hvv
      obtain ⟨rfl, rfl⟩ := hvv
      obtain ⟨r1, r2⟩ := hr k hlt
      have r1' := cell_later hB r1
      have r2' := cell_later hB r2
      have hbt := HP.out.bt k hlt
      have hrk := ht.rc (t.recs.getD k (0, [])) (by rw [List.getD_eq_getElem?_getD, List.getElem?_eq_getElem hlt]; exact List.getElem_mem hlt)
      have HT : Hid ((bodies t).take (k + 1) = (bodies t).take k ++ [(t.recs.getD k (0, [])).2]) := bodies_take t k hlt
      have htl : ((bodies t).take k).length = k := by rw [List.length_take, bodies_len]; omega
      generalize (t.recs.getD k (0, [])).1 = at_ at *
      generalize (t.recs.getD k (0, [])).2 = x at *
      generalize q.vs.getD k undef = y at *
      obtain ⟨ya, yc, hyv, _⟩ := bts_src hbt
      subst hyv
      have hBx : Below wr.heap.size wr (wr.alloc (.cells #[.int .i64 at_, .slice ya x.length yc] 138)) := below_alloc _ _
      have hbx := hbt.later (hB.trans (hBx.mono hB.size))
      have HC := clone8_ok _ _ x hbx (fun e => by rw [e] at hrk; simp at hrk) (by omega)
      obtain ⟨av, cv, hvv⟩ := win_shape hL.win
      subst hvv
      have hxb : isBytes x := hrk.2.1
      have HPU : Hid (∀ w2 u, Owns w2 (wr.heap.size + 1) u x → Below (wr.heap.size + 1) (wr.alloc (.cells #[.int .i64 at_, .slice ya x.length yc] 138)) w2 → ∃ v' w3, (Builtin.append_ #[79, 79] 79 #[.slice av ((bodies t).take k).length cv, .slice (some ⟨w2.heap.size, 0, none⟩) 1 1]).run Tryz.prog (w2.alloc (.cells #[u] 39)) = .ok v' w3 ∧ Lst w3 w.heap.size v' (vs ++ [u]) ((bodies t).take (k + 1)) ∧
          Below w.heap.size w w3 ∧ (∃ a c, v' = .slice a (((bodies t).take k).length + 1) c)) := by
        intro w2 u hO hB2
        have hB2' : Below wr.heap.size wr w2 := hBx.trans (hB2.mono (by omega))
        obtain ⟨v', w3, e1, e2, _, e4, e5⟩ := hL.push hB2' (hO.bts hxb) (fun g hg => ⟨by have := (hO.lt g hg).1; omega, (hO.lt g hg).2⟩) hB.size (by rw [htl]; omega)
        refine ⟨v', w3, e1, by rw [HT.out]; exact e2, ?_, e5⟩
        exact (hB.trans ((hB2'.trans ((below_alloc w2 _).mono hB2'.size)).mono hB.size)).grown e4 (by have := hB2'.size; have := hB.size; simp; omega) (fun k hk => hL.blk k hk)
      rw [htl] at HPU
      rw [World.size_alloc] at HC
      clear hbt hL hB hbx hBx r1 r2 hr
      go_wp2_with (first
        | (go_at_call 72; refine HC.mono ?_; rintro e w2 ⟨u, rfl, hO, hB2⟩; obtain ⟨v', w3, hrun, hL3, hB3, ⟨a3, c3, rfl⟩⟩ := HPU.out w2 u hO hB2; obtain ⟨ua, uc, rfl, _⟩ := bts_src (hO.bts hxb))
        | (at_builtin; refine wpl_append_run rfl _ _ 79 rfl _ _ rfl rfl hrun ?_))
      go_roundw
      case rel => exact ⟨k + 1, _, by omega, by go_num, hL3, hB3⟩
      case measure => simp [intOf]; omega
    · have hke : k = t.recs.length := by omega
      subst hke
      have e : (bodies t).take t.recs.length = bodies t := List.take_of_length_le (by rw [bodies_len]; exact Nat.le_refl _)
      rw [e] at hL
      clear e
      go_wp2
      go_ret
      exact ⟨_, vs, rfl, hL, hB⟩

end Go.Proofs.YtafkkehcacdodaaGreat

namespace Go.Proofs.YtafkkehcacdodaaGreat
open Go.RowKit

def segM (rs : List (Nat × List Int)) : Nat := rs.foldl (fun m x => max m (x.1 / 16 + 1)) 0
def segC (rs : List (Nat × List Int)) (j : Nat) : Nat := rs.countP fun x => x.1 / 16 == j
/-- How many records each segment has. -/
def segL (rs : List (Nat × List Int)) : List Int := (List.range (segM rs)).map fun j => (segC rs j : Int)

theorem segM_snoc (rs : List (Nat × List Int)) (x : Nat × List Int) : segM (rs ++ [x]) = max (segM rs) (x.1 / 16 + 1) := by simp [segM]
theorem segC_snoc (rs : List (Nat × List Int)) (x : Nat × List Int) (j : Nat) : segC (rs ++ [x]) j = segC rs j + if x.1 / 16 = j then 1 else 0 := by
  simp only [segC, List.countP_append, List.countP_singleton]
  simp
theorem segL_len (rs : List (Nat × List Int)) : (segL rs).length = segM rs := by simp [segL]

theorem segM_mono (rs : List (Nat × List Int)) : ∀ (m : Nat), m ≤ rs.foldl (fun m x => max m (x.1 / 16 + 1)) m := by
  induction rs with
  | nil => intro m; exact Nat.le_refl _
  | cons x r ih => intro m; exact Nat.le_trans (Nat.le_max_left _ _) (ih _)

theorem segM_ge (rs : List (Nat × List Int)) : ∀ (m : Nat) (x : Nat × List Int), x ∈ rs → x.1 / 16 + 1 ≤ rs.foldl (fun m x => max m (x.1 / 16 + 1)) m := by
  induction rs with
  | nil => intro m x hx; cases hx
  | cons y r ih =>
    intro m x hx
    rcases List.mem_cons.1 hx with rfl | hx
    · exact Nat.le_trans (Nat.le_max_right _ _) (segM_mono r _)
    · exact ih _ x hx

theorem segC_past (rs : List (Nat × List Int)) (j : Nat) (h : segM rs ≤ j) : segC rs j = 0 := by
  unfold segC
  rw [List.countP_eq_zero]
  intro x hx
  have := segM_ge rs 0 x hx
  unfold segM at h
  simp; omega

theorem segM_le (rs : List (Nat × List Int)) (n : Nat) (h : ∀ x ∈ rs, x.1 < n) : ∀ m, m ≤ n → rs.foldl (fun m x => max m (x.1 / 16 + 1)) m ≤ n := by
  induction rs with
  | nil => intro m hm; exact hm
  | cons y r ih =>
    intro m hm
    have := h y (by simp)
    exact ih (fun x hx => h x (by simp [hx])) _ (by show max m (y.1 / 16 + 1) ≤ n; omega)

theorem segL_step (rs : List (Nat × List Int)) (x : Nat × List Int) (j : Nat) (h : segM rs + j = max (segM rs) (x.1 / 16 + 1)) :
    (segL rs ++ List.replicate j 0).set (x.1 / 16) ((segL rs ++ List.replicate j 0).getD (x.1 / 16) 0 + 1) = segL (rs ++ [x]) := by
  have hl : (segL rs ++ List.replicate j (0 : Int)).length = segM rs + j := by simp [segL_len]
  have hg : ∀ i, i < segM rs + j → (segL rs ++ List.replicate j (0 : Int)).getD i 0 = segC rs i := by
    intro i hi
    by_cases hi2 : i < segM rs
    · rw [getD_app_left _ _ _ (by rw [segL_len]; exact hi2)]
      simp [segL, List.getD, hi2]
    · rw [getD_app_right _ _ _ (by rw [segL_len]; omega), segC_past rs i (by omega)]
      simp [List.getD, List.getElem?_replicate]
      split <;> rfl
  apply List.ext_getElem
  · rw [List.length_set, hl, segL_len, segM_snoc]; exact h
  · intro i h1 h2
    rw [List.length_set, hl] at h1
    rw [List.getElem_set]
    have hR : (segL (rs ++ [x]))[i] = (segC (rs ++ [x]) i : Int) := by simp [segL]
    rw [hR, segC_snoc]
    have hgi := hg i h1
    have hgi' : (segL rs ++ List.replicate j (0 : Int))[i]'(by rw [hl]; exact h1) = segC rs i := by
      rw [← hgi]; simp [List.getD, List.getElem?_eq_getElem (show i < (segL rs ++ List.replicate j (0 : Int)).length by rw [hl]; exact h1)]
    by_cases e : x.1 / 16 = i
    · rw [if_pos e, if_pos e, e, hgi]; simp
    · rw [if_neg e, if_neg e, hgi']; simp

theorem info3 : (Tryz.prog.info? 3).map (fun i => (i.zero, i.size, i.bytes)) = some (some (.int .i64 0), 1, 8) := by kernel_rfl

/-- A row of numbers of the call's own. -/
def OwnI (w : World) (base : Nat) (v : Value) (l : List Int) : Prop := w.ownsRow base 3 1 v l.length (l.map (Value.int .i64))

theorem OwnI.cell {w : World} {base g cap n : Nat} {l : List Int} (h : OwnI w base (.slice (some ⟨g, 0, none⟩) n cap) l) (hn : l.length = n) (j : Nat) (hj : j < l.length) : w.cell? ⟨g, j, none⟩ = some (.int .i64 (l.getD j 0)) := by
  subst hn
  have h' : w.ownsRow base 3 1 (.slice (some ⟨g, 0, none⟩) l.length cap) l.length (l.map (Value.int .i64)) := h
  rw [h'.cellAt j (by omega)]
  simp [List.getElem?_eq_getElem hj]

theorem segL_nonneg (rs : List (Nat × List Int)) (j i : Nat) : 0 ≤ (segL rs ++ List.replicate j (0 : Int)).getD i 0 ∧ (segL rs ++ List.replicate j (0 : Int)).getD i 0 ≤ rs.length := by
  by_cases hi2 : i < segM rs
  · rw [getD_app_left _ _ _ (by rw [segL_len]; exact hi2)]
    have := List.countP_le_length (p := fun x : Nat × List Int => x.1 / 16 == i) (l := rs)
    simp [segL, List.getD, hi2, segC]
    omega
  · rw [getD_app_right _ _ _ (by rw [segL_len]; omega)]
    simp [List.getD, List.getElem?_replicate]
    split <;> simp <;> omega

end Go.Proofs.YtafkkehcacdodaaGreat
