/- What StrandSurvives carries from deed to deed: the disk, the strand, three rows. -/
import Derived.Test.YtlgkndebhafliaaStrBtw
import Derived.Test.YtlgkndebhafliaaStrDeeds
set_option maxRecDepth 100000
namespace Go.Proofs.Ytlgkndebhafliaa
open Go.RowKit

/-- Behind an append of one cell onto a row that is owner 3's. -/
theorem row_push {w : World} {tag : Nat → Nat} {base T : Nat} (hT : T / 16 = 3) {v : Value} {n : Nat} {xs : List Value} (hw : Win w 1 v n xs) (ht : ∀ g, v.ownBlock = some g → tag g = T ∧ base ≤ g) (hbase : base ≤ w.heap.size)
    (u : Value) (hu : u.oneCell' = true) (t e : TypeId) (i0 : TypeInfo) (z : Value) (by_ : Nat) (hte : Try.prog.underlying t = some (.slice e)) (hi : Try.prog.info? e = some i0) (hz : i0.zero = some z) (hs1 : i0.size = 1) (hby : i0.bytes = by_) (hby2 : by_ ≤ 64) (hzc : z.cells.size = 1) (hn : n + 1 ≤ 1000000) :
    ∃ v' w' tag', (Builtin.append_ #[t, t] t #[v, .slice (some ⟨w.heap.size, 0, none⟩) 1 1]).run Try.prog (w.alloc (.cells #[u] e)) = .ok v' w' ∧ Win w' 1 v' (n + 1) (xs ++ [u]) ∧ (∀ g, v'.ownBlock = some g → tag' g = T ∧ base ≤ g) ∧
      Step tag tag' base 3 w w' ∧ (∀ g, g < w.heap.size → tag g ≠ T → w'.heap[g]? = w.heap[g]?) := by
  have hB := below_alloc w (.cells #[u] e)
  have hsz : (w.alloc (.cells #[u] e)).heap.size = w.heap.size + 1 := World.size_alloc _ _
  obtain ⟨v', w', hr, hw', hg, hat⟩ := win_append (P := Try.prog) (w.alloc (.cells #[u] e)) t t e i0 z 1 by_ hte hi hz hs1 hby hzc (by decide) v n xs (hw.later hB)
    (some ⟨w.heap.size, 0, none⟩) 1 1 [u] rfl (.inl ⟨_, rfl, news_new w #[u] e⟩) (by intro u' hu'; simp at hu'; subst hu'; exact hu) (by unfold maxLen; omega) (by
      have : (n + 1) * by_ ≤ 1000000 * 64 := Nat.mul_le_mul hn hby2
      omega)
  obtain ⟨hst, htg⟩ := step_grown (tag := tag) (o := 3) hg hat ht hT (base := base) (by omega)
  refine ⟨v', w', retag tag v' T, hr, hw', htg, (step_below tag base 3 hbase hB).trans hst, fun g hlt hne => ?_⟩
  rw [hg.block g (by omega) (fun e' => hne (ht g e'.symm).1), hB.block g hlt]

/-- A window's cell is set. -/
theorem win_set {w : World} {B O n c : Nat} {xs : List Value} (h : Win w 1 (.slice (some ⟨B, O, none⟩) n c) n xs) (j : Nat) (hj : j < n) (u : Value) : Win (w.setCell ⟨B, O + j, none⟩ u) 1 (.slice (some ⟨B, O, none⟩) n c) n (xs.set j u) := by
  rcases h.2 with ⟨h0, _⟩ | ⟨B', O', c', cs, e, hb, h2, h3, h4, h5⟩
  · cases h0
  · simp only [Value.slice.injEq, Option.some.injEq, Addr.mk.injEq, and_true, true_and] at e
    obtain ⟨⟨rfl, rfl⟩, rfl⟩ := e
    refine ⟨by rw [List.length_set]; exact h.1, .inr ⟨B, O, c, _, rfl, hb.set (O + j) u, h2, h3, by rw [List.length_set]; exact h4, ?_⟩⟩
    rw [← h5]
    apply List.ext_getElem?
    intro i
    rw [List.getElem?_take, List.getElem?_set, List.getElem?_take]
    by_cases hi : i < n * 1
    · rw [if_pos hi, if_pos hi, List.getElem?_drop, List.getElem?_set, List.getElem?_drop]
      by_cases e : j = i
      · subst e
        rw [if_pos rfl, if_pos rfl, if_pos (by omega), if_pos (by rw [List.length_take, List.length_drop]; omega)]
      · rw [if_neg (by omega), if_neg e]
    · rw [if_neg hi, if_neg hi]
      split
      · rename_i e
        subst e
        omega
      · rfl

theorem win_bool {w : World} {v : Value} {n : Nat} {l : List Bool} (h : Win w 1 v n (l.map Value.bool)) (hne : 0 < n) : ∃ B O c, v = .slice (some ⟨B, O, none⟩) n c ∧ n ≤ c ∧ c ≤ maxLen ∧ (∀ i, i < n → w.cell? ⟨B, O + i, none⟩ = some (.bool (l.getD i false))) ∧ ∀ i, i < n → w.frozen? ⟨B, O + i, none⟩ = false := by
  obtain ⟨B, O, c, e, h1, h2, h3⟩ := win_read h hne
  have hl : l.length = n := by have := h.1; simpa using this
  refine ⟨B, O, c, e, h1, h2, fun i hi => ?_, fun i hi => ?_⟩
  · rw [h3 i hi]; simp [List.getD, List.getElem?_eq_getElem (show i < l.length by omega)]
  · rcases h.2 with ⟨h0, h0'⟩ | ⟨B', O', c', cs, e', hb, _⟩
    · omega
    · rw [e] at e'
      simp only [Value.slice.injEq, Option.some.injEq, Addr.mk.injEq, and_true, true_and] at e'
      obtain ⟨⟨rfl, rfl⟩, rfl⟩ := e'
      exact hb.frozen _

/-- The disk (owner 1), the strand (owner 2), the rows (owner 3). -/
structure SwI (w0 : World) (D S : Nat) (s : St) (t : Sd) (bs : List (List Int)) (fs us : List Bool) (v9 v10 v11 : Value) (wr : World) (p : PL) (q : SL) (tag : Nat → Nat) (vs : List Value) : Prop where
  pd : PD wr tag w0.heap.size 1 s p
  po : PO wr tag w0.heap.size 2 D t q
  hD : p.D = D
  hS : q.S = S
  w9 : Win wr 1 v9 bs.length vs
  w10 : Win wr 1 v10 fs.length (fs.map Value.bool)
  w11 : Win wr 1 v11 us.length (us.map Value.bool)
  bt : ∀ i, i < bs.length → Bts w0 (vs.getD i undef) (bs.getD i [])
  t9 : ∀ g, v9.ownBlock = some g → tag g = 49 ∧ w0.heap.size ≤ g
  t10 : ∀ g, v10.ownBlock = some g → tag g = 50 ∧ w0.heap.size ≤ g
  t11 : ∀ g, v11.ownBlock = some g → tag g = 51 ∧ w0.heap.size ≤ g
  z : ∀ j, j < w0.heap.size → tag j = 0
  below : Below w0.heap.size w0 wr

section
variable {w0 : World} {D S : Nat} {s : St} {t : Sd} {bs : List (List Int)} {fs us : List Bool} {v9 v10 v11 : Value} {wr : World} {p : PL} {q : SL} {tag : Nat → Nat} {vs : List Value}

theorem win_keep {w w' : World} {tag tag' : Nat → Nat} {T base n : Nat} {v : Value} {xs : List Value} (h : Win w 1 v n xs) (ht : ∀ g, v.ownBlock = some g → tag g = T ∧ base ≤ g) (hk : ∀ g, g < w.heap.size → tag g = T → w'.heap[g]? = w.heap[g]?) (hT : ∀ g, g < w.heap.size → tag' g = tag g) :
    Win w' 1 v n xs ∧ ∀ g, v.ownBlock = some g → tag' g = T ∧ base ≤ g :=
  ⟨h.same (fun g hg => hk g (h.lt g hg) (ht g hg).1), fun g hg => ⟨by rw [hT g (h.lt g hg)]; exact (ht g hg).1, (ht g hg).2⟩⟩

/-- The disk and the strand go on. -/
theorem SwI.step2 (h : SwI w0 D S s t bs fs us v9 v10 v11 wr p q tag vs) {s' : St} {t' : Sd} {w' : World} {p' : PL} {q' : SL} {tag' : Nat → Nat} (hst : Step2 tag tag' w0.heap.size 1 2 wr w') (hp : PD w' tag' w0.heap.size 1 s' p') (hq : PO w' tag' w0.heap.size 2 D t' q') (hD : p'.D = D) (hS : q'.S = S) :
    SwI w0 D S s' t' bs fs us v9 v10 v11 w' p' q' tag' vs := by
  have k : ∀ T, T / 16 = 3 → ∀ g, g < wr.heap.size → tag g = T → w'.heap[g]? = wr.heap[g]? := fun T hT g hg ht => hst.kept g hg (by omega) (by omega)
  have a9 := win_keep h.w9 h.t9 (k 49 rfl) hst.tags
  have a10 := win_keep h.w10 h.t10 (k 50 rfl) hst.tags
  have a11 := win_keep h.w11 h.t11 (k 51 rfl) hst.tags
  exact ⟨hp, hq, hD, hS, a9.1, a10.1, a11.1, h.bt, a9.2, a10.2, a11.2, fun j hj => by rw [hst.tags j (Nat.lt_of_lt_of_le hj h.below.size)]; exact h.z j hj, h.below.trans hst.below⟩

theorem SwI.later (h : SwI w0 D S s t bs fs us v9 v10 v11 wr p q tag vs) {w' : World} (hb : Below wr.heap.size wr w') : SwI w0 D S s t bs fs us v9 v10 v11 w' p q tag vs :=
  ⟨h.pd.later hb, h.po.later hb, h.hD, h.hS, h.w9.later hb, h.w10.later hb, h.w11.later hb, h.bt, h.t9, h.t10, h.t11, h.z, h.below.trans (hb.mono h.below.size)⟩

theorem SwI.push9 (h : SwI w0 D S s t bs fs us v9 v10 v11 wr p q tag vs) (u : Value) (b : List Int) (hu : Bts w0 u b) (hn : bs.length + 1 ≤ 1000000) :
    ∃ v' w' tag', (Builtin.append_ #[40, 40] 40 #[v9, .slice (some ⟨wr.heap.size, 0, none⟩) 1 1]).run Try.prog (wr.alloc (.cells #[u] 23)) = .ok v' w' ∧ SwI w0 D S s t (bs ++ [b]) fs us v' v10 v11 w' p q tag' (vs ++ [u]) := by
  obtain ⟨i0, hi, hz0, hz1, hz2⟩ := info_parts infoB
  obtain ⟨v', w', tag', hr, hw, ht, hst, hk⟩ := row_push (T := 49) rfl h.w9 h.t9 h.below.size u (one_of_bts hu) 40 23 i0 (.slice none 0 0) 24 Try.underlying40 hi hz0 hz1 hz2 (by decide) rfl hn
  have hvl : vs.length = bs.length := by have := h.w9.1; omega
  have a10 := win_keep h.w10 h.t10 (fun g hg e => hk g hg (by omega)) hst.tags
  have a11 := win_keep h.w11 h.t11 (fun g hg e => hk g hg (by omega)) hst.tags
  refine ⟨v', w', tag', hr, h.pd.other hst (by omega), h.po.other hst (by omega), h.hD, h.hS, by rw [List.length_append]; exact hw, a10.1, a11.1, ?_, ht, a10.2, a11.2, fun j hj => by rw [hst.tags j (Nat.lt_of_lt_of_le hj h.below.size)]; exact h.z j hj, h.below.trans hst.below⟩
  intro i hi
  rw [List.length_append, List.length_singleton] at hi
  by_cases hil : i < bs.length
  · rw [getD_snoc_lt _ _ _ _ (by omega), getD_snoc_lt _ _ _ _ hil]; exact h.bt i hil
  · have : i = bs.length := by omega
    subst this
    rw [getD_snoc_eq, ← hvl, getD_snoc_eq]; exact hu

theorem SwI.push10 (h : SwI w0 D S s t bs fs us v9 v10 v11 wr p q tag vs) (b : Bool) (hn : fs.length + 1 ≤ 1000000) :
    ∃ v' w' tag', (Builtin.append_ #[60, 60] 60 #[v10, .slice (some ⟨wr.heap.size, 0, none⟩) 1 1]).run Try.prog (wr.alloc (.cells #[.bool b] 4)) = .ok v' w' ∧ SwI w0 D S s t bs (fs ++ [b]) us v9 v' v11 w' p q tag' vs := by
  obtain ⟨i0, hi, hz0, hz1, hz2⟩ := info_parts infoBool
  obtain ⟨v', w', tag', hr, hw, ht, hst, hk⟩ := row_push (T := 50) rfl h.w10 h.t10 h.below.size (.bool b) rfl 60 4 i0 (.bool false) 1 Try.underlying60 hi hz0 hz1 hz2 (by decide) rfl hn
  have a9 := win_keep h.w9 h.t9 (fun g hg e => hk g hg (by omega)) hst.tags
  have a11 := win_keep h.w11 h.t11 (fun g hg e => hk g hg (by omega)) hst.tags
  exact ⟨v', w', tag', hr, h.pd.other hst (by omega), h.po.other hst (by omega), h.hD, h.hS, a9.1, by rw [List.length_append, List.map_append]; exact hw, a11.1, h.bt, a9.2, ht, a11.2, fun j hj => by rw [hst.tags j (Nat.lt_of_lt_of_le hj h.below.size)]; exact h.z j hj, h.below.trans hst.below⟩

theorem SwI.push11 (h : SwI w0 D S s t bs fs us v9 v10 v11 wr p q tag vs) (b : Bool) (hn : us.length + 1 ≤ 1000000) :
    ∃ v' w' tag', (Builtin.append_ #[60, 60] 60 #[v11, .slice (some ⟨wr.heap.size, 0, none⟩) 1 1]).run Try.prog (wr.alloc (.cells #[.bool b] 4)) = .ok v' w' ∧ SwI w0 D S s t bs fs (us ++ [b]) v9 v10 v' w' p q tag' vs := by
  obtain ⟨i0, hi, hz0, hz1, hz2⟩ := info_parts infoBool
  obtain ⟨v', w', tag', hr, hw, ht, hst, hk⟩ := row_push (T := 51) rfl h.w11 h.t11 h.below.size (.bool b) rfl 60 4 i0 (.bool false) 1 Try.underlying60 hi hz0 hz1 hz2 (by decide) rfl hn
  have a9 := win_keep h.w9 h.t9 (fun g hg e => hk g hg (by omega)) hst.tags
  have a10 := win_keep h.w10 h.t10 (fun g hg e => hk g hg (by omega)) hst.tags
  exact ⟨v', w', tag', hr, h.pd.other hst (by omega), h.po.other hst (by omega), h.hD, h.hS, a9.1, a10.1, by rw [List.length_append, List.map_append]; exact hw, h.bt, a9.2, a10.2, ht, fun j hj => by rw [hst.tags j (Nat.lt_of_lt_of_le hj h.below.size)]; exact h.z j hj, h.below.trans hst.below⟩

theorem SwI.set11 {B O n c : Nat} (h : SwI w0 D S s t bs fs us v9 v10 (.slice (some ⟨B, O, none⟩) n c) wr p q tag vs) (hn : us.length = n) (j : Nat) (hj : j < n) (b : Bool) :
    SwI w0 D S s t bs fs (us.set j b) v9 v10 (.slice (some ⟨B, O, none⟩) n c) (wr.setCell ⟨B, O + j, none⟩ (.bool b)) p q tag vs := by
  have hB := h.t11 B rfl
  have hst : Step tag tag w0.heap.size 3 wr (wr.setCell ⟨B, O + j, none⟩ (.bool b)) := step_set tag w0.heap.size 3 wr hB.2 (by rw [hB.1]) (O + j) (.bool b)
  have hk : ∀ T, T ≠ 51 → ∀ g, g < wr.heap.size → tag g = T → (wr.setCell ⟨B, O + j, none⟩ (.bool b)).heap[g]? = wr.heap[g]? := fun T hT g _ ht => heap_setCell_other wr ⟨B, O + j, none⟩ g _ (fun e => hT (by rw [← ht, e]; exact hB.1))
  have a9 := win_keep h.w9 h.t9 (hk 49 (by decide)) (fun _ _ => rfl)
  have a10 := win_keep h.w10 h.t10 (hk 50 (by decide)) (fun _ _ => rfl)
  have hw := h.w11
  rw [hn] at hw
  have a11 := win_set hw j hj (.bool b)
  exact ⟨h.pd.other hst (by omega), h.po.other hst (by omega), h.hD, h.hS, a9.1, a10.1, by rw [List.length_set, hn, List.map_set]; exact a11, h.bt, h.t9, h.t10, h.t11, h.z, h.below.trans hst.below⟩

end

/-- The same, of what lies where nothing said. -/
def Sw (w0 : World) (D S : Nat) (s : St) (t : Sd) (bs : List (List Int)) (fs us : List Bool) (v9 v10 v11 : Value) (wr : World) : Prop := ∃ p q tag vs, SwI w0 D S s t bs fs us v9 v10 v11 wr p q tag vs

theorem mix_step (fs us : List Bool) (j : Nat) (h : fs.length = us.length) (hj : j < us.length) : (fs.take j ++ us.drop j).set j (fs.getD j false) = fs.take (j + 1) ++ us.drop (j + 1) := by
  rw [List.set_append_right _ _ (by rw [List.length_take]; omega), List.length_take, Nat.min_eq_left (by omega), Nat.sub_self, List.take_succ_eq_append_getElem (by omega), List.append_assoc]
  congr 1
  rw [List.drop_eq_getElem_cons hj, List.set_cons_zero]
  simp [List.getD, List.getElem?_eq_getElem (show j < fs.length by omega)]

end Go.Proofs.Ytlgkndebhafliaa
