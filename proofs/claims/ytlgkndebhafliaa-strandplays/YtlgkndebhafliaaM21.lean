/- same: are two lists of records one? -/
import Derived.Test.YtlgkndebhafliaaM20
import Derived.Test.YtlgkndebhafliaaM18
import Derived.BigQuiet
import Derived.Test.YtlgkndebhafliaaM11
import Derived.Test.YtlgkndebhafliaaM15
import Derived.Test.YtlgkndebhafliaaM13
import Derived.Deep.LoopGhost
set_option maxRecDepth 100000
namespace Go.Proofs.Ytlgkndebhafliaa
open Go.RowKit
attribute [local go_sem ↓] Go.wp_at_zero Go.wp_at_succ

set_option maxHeartbeats 4000000 in
theorem same8_ok (w : World) (base1 base2 : Nat) (v v' : Value) (vs us : List Value) (ls : List (List Int)) (h : Lst w base1 v vs ls) (h' : Lst w base2 v' us ls) :
    Calls Try.prog 19 #[v, v'] w fun e w' => e = .returned (.bool true) ∧ ∃ nq, w' = w.drewN nq := by
  have H1 : Hid (Lst w base1 v vs ls) := h
  have H2 : Hid (Lst w base2 v' us ls) := h'
  obtain ⟨av, cv, rfl⟩ := win_shape h.win
  obtain ⟨au, cu, rfl⟩ := win_shape h'.win
  clear h h'
  go_enter Try.func19, Try.ntmps19
  go_wp2
  go_loopg [5] ls.length (fun gk i wr => ∃ (k nq : Nat), k + gk = ls.length ∧ i = .int .i64 k ∧ wr = w.drewN nq)
  case atStart => exact ⟨0, 0, by omega, rfl, rfl⟩
  case round =>
    obtain ⟨k, nq, hk, rfl, rfl⟩ := hrel
    by_cases hlt : k < ls.length
    case neg =>
      have hge : ¬ (k : Int) < (ls.length : Int) := by omega
      go_wp2
      go_ret
      exact ⟨rfl, nq, rfl⟩
    have hltI : (k : Int) < (ls.length : Int) := by omega
    obtain ⟨B1, O1, d1, e1, g1, g2, g3⟩ := H1.out.read (by omega)
    obtain ⟨B2, O2, d2, e2, f1, f2, f3⟩ := H2.out.read (by omega)
    injection e1 with e1a _ e1c
    injection e2 with e2a _ e2c
    subst e1a; subst e1c; subst e2a; subst e2c
    unfold maxLen at g2 f2
    have c1 := g3 k hlt
    have c2 := f3 k hlt
    have hb1 := H1.out.bts k hlt
    have hb2 := H2.out.bts k hlt
    have HS : ∀ n, Calls Try.prog 15 #[vs.getD k undef, us.getD k undef] ((w.drewN nq).drewN n) fun e w' => e = .returned (.bool true) ∧ ∃ nq', w' = ((w.drewN nq).drewN n).drewN nq' := fun n => by
      rw [World.drewN_drewN]
      have := same_one (w.drewN (nq + n)) _ _ _ _ (hb1.later (below_drewN w _)) (hb2.later (below_drewN w _))
      rwa [show sameB (ls.getD k []) (ls.getD k []) = true by unfold sameB; simp] at this
    obtain ⟨z1, z2, hz, _⟩ := bts_src hb1
    obtain ⟨y1, y2, hy, _⟩ := bts_src hb2
    rw [hz] at c1 HS
    rw [hy] at c2 HS
    clear hz hy hb1 hb2 g3 f3
    generalize (ls.getD k []).length = m at *
    have c1' : (w.drewN nq).cell? ⟨B1, O1 + k, none⟩ = some (.slice z1 m z2) := cell_later (below_drewN w nq) c1
    have c2' : (w.drewN nq).cell? ⟨B2, O2 + k, none⟩ = some (.slice y1 m y2) := cell_later (below_drewN w nq) c2
    obtain ⟨wx, hwx⟩ : ∃ x, x = w.drewN nq := ⟨_, rfl⟩
    rw [← hwx] at c1' c2' HS ⊢
    have HWX : Hid (wx = w.drewN nq) := hwx
    clear hwx c1 c2
    go_wp2_with fail
    go_quiet ((go_at_call 15; refine Calls.quiet_of (HS _)))
    rename_i nq2
    go_wp2
    go_roundg (ls.length - (k + 1))
    case rel => exact ⟨k + 1, _, by omega, by go_num, by rw [HWX.out, World.drewN_drewN]⟩
    case measure => omega

end Go.Proofs.Ytlgkndebhafliaa

namespace Go.Proofs.Ytlgkndebhafliaa
open Go.RowKit
attribute [local go_sem ↓] Go.wp_at_zero Go.wp_at_succ

theorem infoBool : (Try.prog.info? 4).map (fun i => (i.zero, i.size, i.bytes)) = some (some (.bool false), 1, 1) := by kernel_rfl

/-- A row of slices, wherever they lie. -/
structure Lsx (w : World) (v : Value) (vs : List Value) (ls : List (List Int)) : Prop where
  win : Win w 1 v ls.length vs
  bts : ∀ i, i < ls.length → Bts w (vs.getD i undef) (ls.getD i [])

theorem Lst.lsx {w : World} {base : Nat} {v : Value} {vs : List Value} {ls : List (List Int)} (h : Lst w base v vs ls) : Lsx w v vs ls := ⟨h.win, h.bts⟩

theorem Lsx.later {w w' : World} {v : Value} {vs : List Value} {ls : List (List Int)} (h : Lsx w v vs ls) (hb : Below w.heap.size w w') : Lsx w' v vs ls := ⟨h.win.later hb, fun i hi => (h.bts i hi).later hb⟩

/-- A window's cells, one each. -/
theorem win_read {w : World} {v : Value} {n : Nat} {vs : List Value} (h : Win w 1 v n vs) (hne : 0 < n) : ∃ B O c, v = .slice (some ⟨B, O, none⟩) n c ∧ n ≤ c ∧ c ≤ maxLen ∧ ∀ i, i < n → w.cell? ⟨B, O + i, none⟩ = some (vs.getD i undef) := by
  rcases h.2 with ⟨_, h0⟩ | ⟨B, O, c, cs, e, hb, h2, h3, h4, h5⟩
  · omega
  refine ⟨B, O, c, e, h2, h3, fun i hi => ?_⟩
  have hvl : vs.length = n := by have := h.1; omega
  exact hb.range O (n * 1) i (vs.getD i undef) (by rw [h5]; simp [List.getD, List.getElem?_eq_getElem (show i < vs.length by omega)])

theorem made_blk (w : World) (n : Nat) : Blk (w.alloc (.cells (madeCells #[Value.bool false] n) 4)) w.heap.size ((List.replicate n false).map Value.bool) := by
  have := blk_new w (madeCells #[Value.bool false] n) 4
  rwa [toList_madeCells_one, ← List.map_replicate] at this

theorem bool_cell {w : World} {g : Nat} {l : List Bool} (h : Blk w g (l.map Value.bool)) (j : Nat) (hj : j < l.length) : w.cell? ⟨g, j, none⟩ = some (.bool (l.getD j false)) := by
  rw [h.cell]; simp [List.getD, List.getElem?_eq_getElem hj]

theorem bool_set {w : World} {g : Nat} {l : List Bool} (h : Blk w g (l.map Value.bool)) (j : Nat) (b : Bool) : Blk (w.setCell ⟨g, j, none⟩ (.bool b)) g ((l.set j b).map Value.bool) := by
  rw [List.map_set]; exact h.set j _

theorem Btw.snoc {h : List (List Int)} {R : List Tr} {x : Tr} : ∀ {S : List Tr}, Btw h S → S = R ++ [x] → (x.su = false ∧ Btw h R) ∨ ∃ h', h = h' ++ [x.b] ∧ Btw h' R := by
  intro S hS
  induction hS generalizing R with
  | nil => intro e; cases R <;> cases e
  | @skip h S y hy hS ih =>
    intro e
    cases R with
    | nil =>
      simp only [List.nil_append, List.cons.injEq] at e
      obtain ⟨rfl, rfl⟩ := e
      cases hS
      exact .inl ⟨hy, .nil⟩
    | cons z R =>
      simp only [List.cons_append, List.cons.injEq] at e
      obtain ⟨rfl, rfl⟩ := e
      rcases ih rfl with ⟨h1, h2⟩ | ⟨h', h1, h2⟩
      · exact .inl ⟨h1, .skip _ hy h2⟩
      · exact .inr ⟨h', h1, .skip _ hy h2⟩
  | @take h S y hS ih =>
    intro e
    cases R with
    | nil =>
      simp only [List.nil_append, List.cons.injEq] at e
      obtain ⟨rfl, rfl⟩ := e
      cases hS
      exact .inr ⟨[], rfl, .nil⟩
    | cons z R =>
      simp only [List.cons_append, List.cons.injEq] at e
      obtain ⟨rfl, rfl⟩ := e
      rcases ih rfl with ⟨h1, h2⟩ | ⟨h', h1, h2⟩
      · exact .inl ⟨h1, .take _ h2⟩
      · exact .inr ⟨y.b :: h', by rw [h1]; rfl, .take _ h2⟩

/-- What the row can tells. -/
def Can (hs : List (List Int)) (R : List Tr) (j : Nat) (C : List Bool) : Prop := ∀ k, k ≤ hs.length → Btw (hs.take k) (R.take j) → C.getD k false = true

theorem can_step {hs : List (List Int)} {R : List Tr} {j : Nat} {C N : List Bool} {x : Tr} (hC : Can hs R j C) (hj : R[j]? = some x)
    (h1 : ∀ m, m ≤ hs.length → x.su = false → C.getD m false = true → N.getD m false = true)
    (h2 : ∀ m, m < hs.length → hs.getD m [] = x.b → C.getD m false = true → N.getD (m + 1) false = true) : Can hs R (j + 1) N := by
  intro k hk hb
  obtain ⟨hjl, hjx⟩ := List.getElem?_eq_some_iff.1 hj
  rw [List.take_succ_eq_append_getElem hjl, hjx] at hb
  rcases hb.snoc rfl with ⟨e1, e2⟩ | ⟨h', e1, e2⟩
  · exact h1 k hk e1 (hC k hk e2)
  · have hl := congrArg List.length e1
    rw [List.length_take, List.length_append, List.length_singleton] at hl
    obtain ⟨m, rfl⟩ : ∃ m, k = m + 1 := ⟨k - 1, by omega⟩
    have hm : m < hs.length := by omega
    rw [List.take_succ_eq_append_getElem hm] at e1
    have e3 := List.append_inj e1 (by rw [List.length_take]; omega)
    have e4 : hs[m] = x.b := by simpa using e3.2
    refine h2 m hm (by simp [List.getD, List.getElem?_eq_getElem hm, e4]) (hC m (by omega) ?_)
    rw [e3.1]; exact e2

theorem can_start (hs : List (List Int)) (R : List Tr) (C : List Bool) (h : C.getD 0 false = true) : Can hs R 0 C := by
  intro k hk hb
  rw [List.take_zero] at hb
  have hn : hs.take k = [] := by
    generalize hs.take k = l at *
    cases hb; rfl
  have := congrArg List.length hn
  rw [List.length_take, List.length_nil] at this
  have : k = 0 := by omega
  rw [this]; exact h

theorem set_getD (l : List Bool) (i j : Nat) (hi : i < l.length) : (l.set i true).getD j false = if i = j then true else l.getD j false := by
  simp only [List.getD, List.getElem?_set]
  by_cases e : i = j
  · subst e; simp [hi]
  · simp [e]

theorem set_up (l : List Bool) (i j : Nat) (h : l.getD j false = true) : (l.set i true).getD j false = true := by
  by_cases hi : i < l.length
  · rw [set_getD l i j hi]; split
    · rfl
    · exact h
  · rw [List.set_eq_of_length_le (by omega)]; exact h

/-- What the next row tells, when k of the row can have been gone through. -/
structure Nxb (hs : List (List Int)) (x : Tr) (C N : List Bool) (k : Nat) : Prop where
  a : ∀ m, m < k → m ≤ hs.length → x.su = false → C.getD m false = true → N.getD m false = true
  b : ∀ m, m < k → m < hs.length → hs.getD m [] = x.b → C.getD m false = true → N.getD (m + 1) false = true

theorem Nxb.zero (hs : List (List Int)) (x : Tr) (C N : List Bool) : Nxb hs x C N 0 := ⟨fun m h => by omega, fun m h => by omega⟩

theorem Nxb.no {hs : List (List Int)} {x : Tr} {C N : List Bool} {k : Nat} (h : Nxb hs x C N k) (hc : C.getD k false = false) : Nxb hs x C N (k + 1) := by
  refine ⟨fun m hm hl hs' hcm => ?_, fun m hm hl he hcm => ?_⟩
  · by_cases e : m = k
    · rw [e, hc] at hcm; cases hcm
    · exact h.a m (by omega) hl hs' hcm
  · by_cases e : m = k
    · rw [e, hc] at hcm; cases hcm
    · exact h.b m (by omega) hl he hcm

/-- One more of the row can, where it tells. -/
theorem Nxb.yes {hs : List (List Int)} {x : Tr} {C N N' : List Bool} {k : Nat} (h : Nxb hs x C N k) (hup : ∀ m, N.getD m false = true → N'.getD m false = true) (h1 : x.su = false → N'.getD k false = true)
    (h2 : k < hs.length → hs.getD k [] = x.b → N'.getD (k + 1) false = true) : Nxb hs x C N' (k + 1) := by
  refine ⟨fun m hm hl hs' hcm => ?_, fun m hm hl he hcm => ?_⟩
  · by_cases e : m = k
    · rw [e]; exact h1 hs'
    · exact hup _ (h.a m (by omega) hl hs' hcm)
  · by_cases e : m = k
    · rw [e] at hl he ⊢; exact h2 hl he
    · exact hup _ (h.b m (by omega) hl he hcm)

end Go.Proofs.Ytlgkndebhafliaa

namespace Go.Proofs.Ytlgkndebhafliaa
open Go.RowKit

/-- Where a strand of the document lies: itself, its row of bodies, its row of counts. -/
structure TL where
  T : Nat
  lv : Value
  vs : List Value
  I : Nat

/-- A strand of the document over the disk at M, in memory that is o's. -/
structure MS (w : World) (tag : Nat → Nat) (base o M n pos used : Nat) (bs : List (List Int)) (cs : List Int) (q : TL) : Prop where
  bT : Blk w q.T [.pointer (some ⟨M, 0, none⟩), .int .i64 pos, .int .i64 used, q.lv, .slice (some ⟨q.I, 0, none⟩) n n]
  wL : Win w 1 q.lv bs.length q.vs
  bt : ∀ i, i < bs.length → Bts w (q.vs.getD i undef) (bs.getD i [])
  rI : Blk w q.I (cs.map (Value.int .i64))
  cl : cs.length = n
  tT : tag q.T = 16 * o + 7 ∧ base ≤ q.T
  tL : ∀ g, q.lv.ownBlock = some g → tag g = 16 * o + 8 ∧ base ≤ g
  tB : ∀ i, i < bs.length → ∀ g, (q.vs.getD i undef).ownBlock = some g → tag g = 16 * o + 9 ∧ base ≤ g ∧ g < w.heap.size
  tI : tag q.I = 16 * o + 10 ∧ base ≤ q.I

section
variable {w w' : World} {tag tag' : Nat → Nat} {base o o' o2 M n pos used : Nat} {bs : List (List Int)} {cs : List Int} {q : TL}

theorem MS.keep (h : MS w tag base o M n pos used bs cs q) (hk : ∀ k, k < w.heap.size → tag k / 16 = o → w'.heap[k]? = w.heap[k]?) (ht : ∀ k, k < w.heap.size → tag' k = tag k) (hs : w.heap.size ≤ w'.heap.size) : MS w' tag' base o M n pos used bs cs q :=
  ⟨h.bT.same (hk _ h.bT.lt (by have := h.tT.1; omega)), h.wL.same (fun g hg => hk g (h.wL.lt g hg) (by have := (h.tL g hg).1; omega)),
    fun i hi => bts_same (h.bt i hi) (fun g hg hlt => hk g hlt (by have := (h.tB i hi g hg).1; omega)), h.rI.same (hk _ h.rI.lt (by have := h.tI.1; omega)), h.cl,
    ⟨by rw [ht _ h.bT.lt]; exact h.tT.1, h.tT.2⟩, fun g hg => ⟨by rw [ht _ (h.wL.lt g hg)]; exact (h.tL g hg).1, (h.tL g hg).2⟩,
    fun i hi g hg => ⟨by rw [ht _ (h.tB i hi g hg).2.2]; exact (h.tB i hi g hg).1, (h.tB i hi g hg).2.1, Nat.lt_of_lt_of_le (h.tB i hi g hg).2.2 hs⟩, ⟨by rw [ht _ h.rI.lt]; exact h.tI.1, h.tI.2⟩⟩

theorem MS.later (h : MS w tag base o M n pos used bs cs q) (hb : Below w.heap.size w w') : MS w' tag base o M n pos used bs cs q :=
  h.keep (fun k hk _ => hb.block k hk) (fun _ _ => rfl) hb.size

theorem MS.other (h : MS w tag base o M n pos used bs cs q) (hb : Step tag tag' base o' w w') (ho : o ≠ o') : MS w' tag' base o M n pos used bs cs q :=
  h.keep (fun k hk ht => hb.kept k hk (by rw [ht]; exact ho)) hb.tags hb.below.size

theorem MS.other2 (h : MS w tag base o M n pos used bs cs q) (hb : Step2 tag tag' base o' o2 w w') (h1 : o ≠ o') (h2 : o ≠ o2) : MS w' tag' base o M n pos used bs cs q :=
  h.keep (fun k hk ht => hb.kept k hk (by rw [ht]; exact h1) (by rw [ht]; exact h2)) hb.tags hb.below.size

/-- Behind a store into the strand's own block. -/
theorem MS.placed (h : MS w tag base o M n pos used bs cs q) (pos' used' : Nat) (hb : Blk w' q.T [.pointer (some ⟨M, 0, none⟩), .int .i64 pos', .int .i64 used', q.lv, .slice (some ⟨q.I, 0, none⟩) n n])
    (hk : ∀ k, k < w.heap.size → k ≠ q.T → w'.heap[k]? = w.heap[k]?) (hs : w.heap.size ≤ w'.heap.size) : MS w' tag base o M n pos' used' bs cs q := by
  have hne : ∀ {g T : Nat}, g < w.heap.size → tag g = T → T ≠ 16 * o + 7 → w'.heap[g]? = w.heap[g]? := fun {g T} hg hT hn => hk g hg (fun e => hn (by rw [← hT, e]; exact h.tT.1))
  exact ⟨hb, h.wL.same (fun g hg => hne (h.wL.lt g hg) (h.tL g hg).1 (by omega)), fun i hi => bts_same (h.bt i hi) (fun g hg hlt => hne hlt (h.tB i hi g hg).1 (by omega)), h.rI.same (hne h.rI.lt h.tI.1 (by omega)), h.cl, h.tT, h.tL,
    fun i hi g hg => ⟨(h.tB i hi g hg).1, (h.tB i hi g hg).2.1, Nat.lt_of_lt_of_le (h.tB i hi g hg).2.2 hs⟩, h.tI⟩

theorem blk_t1 {w : World} {T : Nat} {a b c d e b' : Value} (h : Blk w T [a, b, c, d, e]) : Blk (w.setCell ⟨T, 1, none⟩ b') T [a, b', c, d, e] := by
  have := h.set 1 b'
  simpa using this
theorem blk_t2 {w : World} {T : Nat} {a b c d e c' : Value} (h : Blk w T [a, b, c, d, e]) : Blk (w.setCell ⟨T, 2, none⟩ c') T [a, b, c', d, e] := by
  have := h.set 2 c'
  simpa using this

theorem MS.at (h : MS w tag base o M n pos used bs cs q) (p : Nat) : MS (w.setCell ⟨q.T, 1, none⟩ (.int .i64 p)) tag base o M n p used bs cs q ∧ Step tag tag base o w (w.setCell ⟨q.T, 1, none⟩ (.int .i64 p)) :=
  ⟨h.placed p used (blk_t1 h.bT) (fun k _ hk => heap_setCell_other _ _ k _ hk) (by simp [World.setCell]), step_set tag base o w h.tT.2 (by have := h.tT.1; omega) 1 _⟩

theorem MS.byte (h : MS w tag base o M n pos used bs cs q) (u : Nat) : MS (w.setCell ⟨q.T, 2, none⟩ (.int .i64 u)) tag base o M n pos u bs cs q ∧ Step tag tag base o w (w.setCell ⟨q.T, 2, none⟩ (.int .i64 u)) :=
  ⟨h.placed pos u (blk_t2 h.bT) (fun k _ hk => heap_setCell_other _ _ k _ hk) (by simp [World.setCell]), step_set tag base o w h.tT.2 (by have := h.tT.1; omega) 2 _⟩

/-- Behind a store into the row of counts. -/
theorem MS.count (h : MS w tag base o M n pos used bs cs q) (j : Nat) (c : Int) : MS (w.setCell ⟨q.I, j, none⟩ (.int .i64 c)) tag base o M n pos used bs (cs.set j c) q ∧ Step tag tag base o w (w.setCell ⟨q.I, j, none⟩ (.int .i64 c)) := by
  have hne : ∀ {g T : Nat}, tag g = T → T ≠ 16 * o + 10 → (w.setCell ⟨q.I, j, none⟩ (.int .i64 c)).heap[g]? = w.heap[g]? := fun {g T} hT hn => heap_setCell_other w ⟨q.I, j, none⟩ g _ (fun e => hn (by rw [← hT, e]; exact h.tI.1))
  refine ⟨⟨h.bT.same (hne h.tT.1 (by omega)), h.wL.same (fun g hg => hne (h.tL g hg).1 (by omega)), fun i hi => bts_same (h.bt i hi) (fun g hg hlt => hne (h.tB i hi g hg).1 (by omega)), ?_, by rw [List.length_set]; exact h.cl, h.tT, h.tL,
    fun i hi g hg => ⟨(h.tB i hi g hg).1, (h.tB i hi g hg).2.1, by simp [World.setCell]; exact (h.tB i hi g hg).2.2⟩, h.tI⟩, step_set tag base o w h.tI.2 (by have := h.tI.1; omega) j _⟩
  rw [List.map_set]; exact h.rI.set j _

/-- Behind one body more. -/
theorem MS.pushed {wx w3 : World} (h : MS w tag base o M n pos used bs cs q) (hbase : base ≤ w.heap.size) (hx : Below w.heap.size w wx) (x : List Int) (u v' : Value) (hu : Bts w u x) (htu : ∀ g, u.ownBlock = some g → tag g = 16 * o + 9 ∧ base ≤ g ∧ g < w.heap.size)
    (hg : wx.grownBy w3 q.lv.ownBlock) (ha : v'.ownBlock = q.lv.ownBlock ∨ v'.ownBlock = some wx.heap.size) (hw : Win w3 1 v' (bs.length + 1) (q.vs ++ [u])) :
    ∃ tag', MS (w3.setCell ⟨q.T, 3, none⟩ v') tag' base o M n pos used (bs ++ [x]) cs ⟨q.T, v', q.vs ++ [u], q.I⟩ ∧ Step tag tag' base o w (w3.setCell ⟨q.T, 3, none⟩ v') ∧ ∀ g, g < w.heap.size → tag g = 16 * o + 9 → (w3.setCell ⟨q.T, 3, none⟩ v').heap[g]? = w.heap[g]? := by
  have hsx := hx.size
  have hs3 := hg.size
  have hkeep : ∀ g, g < w.heap.size → q.lv.ownBlock ≠ some g → g ≠ q.T → (w3.setCell ⟨q.T, 3, none⟩ v').heap[g]? = w.heap[g]? := fun g h1 h2 h3 => by
    rw [heap_setCell_other _ _ g _ h3, hg.block g (by omega) (fun e => h2 e.symm), hx.block g h1]
  have hSr : q.lv.ownBlock ≠ some q.T := fun e => by have := (h.tL _ e).1; rw [h.tT.1] at this; omega
  have hkt : ∀ {g T : Nat}, g < w.heap.size → tag g = T → T ≠ 16 * o + 7 → T ≠ 16 * o + 8 → (w3.setCell ⟨q.T, 3, none⟩ v').heap[g]? = w.heap[g]? := fun {g T} h1 hT h7 h8 =>
    hkeep g h1 (fun e => h8 (by rw [← hT]; exact (h.tL g e).1)) (fun e => h7 (by rw [← hT, e]; exact h.tT.1))
  have hvS : v'.ownBlock ≠ some q.T := by
    rcases ha with e | e
    · rw [e]; exact hSr
    · rw [e]; intro e'; simp at e'; have := h.bT.lt; omega
  have htag : ∀ g, g < w.heap.size → retag tag v' (16 * o + 8) g = tag g := fun g hlt => by
    unfold retag
    split
    · rename_i e
      rcases ha with e' | e'
      · rw [e'] at e; exact (h.tL g e).1.symm
      · rw [e'] at e; simp at e; omega
    · rfl
  have hvl : q.vs.length = bs.length := by have := h.wL.1; omega
  refine ⟨retag tag v' (16 * o + 8), ⟨?_, ?_, ?_, h.rI.same (hkt h.rI.lt h.tI.1 (by omega) (by omega)), h.cl, ?_, ?_, ?_, ?_⟩, ⟨?_, htag, ?_⟩, fun g h1 h2 => hkt h1 h2 (by omega) (by omega)⟩
  · have hb : Blk w3 q.T _ := h.bT.same ((hg.block q.T (by have := h.bT.lt; omega) (fun e => hSr e.symm)).trans (hx.block q.T h.bT.lt))
    simpa using hb.set 3 v'
  · rw [List.length_append]
    exact hw.same (fun g hgv => heap_setCell_other _ _ g _ (fun e => hvS (by rw [hgv, show g = q.T from e])))
  · intro i hi
    rw [List.length_append, List.length_singleton] at hi
    by_cases hil : i < bs.length
    · rw [getD_snoc_lt _ _ _ _ (by rw [hvl]; exact hil), getD_snoc_lt _ _ _ _ hil]
      exact bts_same (h.bt i hil) (fun g hgv hlt => hkt hlt (h.tB i hil g hgv).1 (by omega) (by omega))
    · have : i = bs.length := by omega
      subst this
      rw [getD_snoc_eq]
      show Bts _ ((q.vs ++ [u]).getD bs.length undef) x
      rw [← hvl, getD_snoc_eq]
      exact bts_same hu (fun g hgv hlt => hkt hlt (htu g hgv).1 (by omega) (by omega))
  · exact ⟨by rw [htag _ h.bT.lt]; exact h.tT.1, h.tT.2⟩
  · intro g hgv
    refine ⟨by simp [retag, hgv], ?_⟩
    rcases ha with e | e
    · rw [e] at hgv; exact (h.tL g hgv).2
    · rw [e] at hgv; simp at hgv; omega
  · intro i hi g hgv
    rw [List.length_append, List.length_singleton] at hi
    have hsz : (w3.setCell ⟨q.T, 3, none⟩ v').heap.size = w3.heap.size := by simp [World.setCell]
    by_cases hil : i < bs.length
    · rw [getD_snoc_lt _ _ _ _ (by rw [hvl]; exact hil)] at hgv
      obtain ⟨e1, e2, e3⟩ := h.tB i hil g hgv
      exact ⟨by rw [htag g e3]; exact e1, e2, by omega⟩
    · have : i = bs.length := by omega
      subst this
      have hgv' : ((q.vs ++ [u]).getD bs.length undef).ownBlock = some g := hgv
      rw [← hvl, getD_snoc_eq] at hgv'
      obtain ⟨e1, e2, e3⟩ := htu g hgv'
      exact ⟨by rw [htag g e3]; exact e1, e2, by omega⟩
  · exact ⟨by rw [htag _ h.rI.lt]; exact h.tI.1, h.tI.2⟩
  · refine Below.setCell ?_ h.tT.2 _
    exact (hx.mono hbase).grown hg (by omega) (fun g hgv => (h.tL g hgv).2)
  · intro g hlt hne
    exact hkeep g hlt (fun e => hne (by rw [(h.tL g e).1]; omega)) (fun e => hne (by rw [e, h.tT.1]; omega))

theorem MS.t0 (h : MS w tag base o M n pos used bs cs q) : w.cell? ⟨q.T, 0, none⟩ = some (.pointer (some ⟨M, 0, none⟩)) := h.bT.cell 0
theorem MS.t1 (h : MS w tag base o M n pos used bs cs q) : w.cell? ⟨q.T, 1, none⟩ = some (.int .i64 pos) := h.bT.cell 1
theorem MS.t2 (h : MS w tag base o M n pos used bs cs q) : w.cell? ⟨q.T, 2, none⟩ = some (.int .i64 used) := h.bT.cell 2
theorem MS.t3 (h : MS w tag base o M n pos used bs cs q) : w.cell? ⟨q.T, 3, none⟩ = some q.lv := h.bT.cell 3
theorem MS.t4 (h : MS w tag base o M n pos used bs cs q) : w.cell? ⟨q.T, 4, none⟩ = some (.slice (some ⟨q.I, 0, none⟩) n n) := h.bT.cell 4
theorem MS.fT (h : MS w tag base o M n pos used bs cs q) (j : Nat) : w.frozen? ⟨q.T, j, none⟩ = false := h.bT.frozen j
theorem MS.fI (h : MS w tag base o M n pos used bs cs q) (j : Nat) : w.frozen? ⟨q.I, j, none⟩ = false := h.rI.frozen j
theorem MS.i (h : MS w tag base o M n pos used bs cs q) (j : Nat) (hj : j < n) : w.cell? ⟨q.I, j, none⟩ = some (.int .i64 (cs.getD j 0)) := by
  rw [h.rI.cell]; simp [List.getD, List.getElem?_eq_getElem (show j < cs.length by rw [h.cl]; exact hj)]
theorem MS.lsx (h : MS w tag base o M n pos used bs cs q) : Lsx w q.lv q.vs bs := ⟨h.wL, h.bt⟩

end

/-- How many records each sector has. -/
def cntL (rs : List (Nat × List Int)) (n : Nat) : List Int := (List.range n).map fun k => ((rs.countP fun x => x.1 == k : Nat) : Int)

theorem cntL_len (rs : List (Nat × List Int)) (n : Nat) : (cntL rs n).length = n := by simp [cntL]

theorem cntL_get (rs : List (Nat × List Int)) (n k : Nat) (h : k < n) : (cntL rs n).getD k 0 = (rs.countP fun x => x.1 == k : Nat) := by
  simp [cntL, List.getD, h]

theorem cntL_snoc (rs : List (Nat × List Int)) (n k : Nat) (x : List Int) (h : k < n) : cntL (rs ++ [(k, x)]) n = (cntL rs n).set k ((cntL rs n).getD k 0 + 1) := by
  apply List.ext_getElem
  · rw [List.length_set, cntL_len, cntL_len]
  · intro i h1 h2
    rw [cntL_len] at h1
    rw [List.getElem_set]
    have e1 : (cntL (rs ++ [(k, x)]) n)[i]'(by rw [cntL_len]; exact h1) = ((rs ++ [(k, x)]).countP fun x => x.1 == i : Nat) := by simp [cntL]
    have e2 : (cntL rs n)[i]'(by rw [cntL_len]; exact h1) = (rs.countP fun x => x.1 == i : Nat) := by simp [cntL]
    rw [e1, e2, List.countP_append, List.countP_singleton]
    by_cases e : k = i
    · subst e; rw [if_pos rfl, cntL_get _ _ _ h]; simp
    · rw [if_neg e]; simp [e]

/-- The document's strand in the numbers of the program's. -/
abbrev MSt (w : World) (tag : Nat → Nat) (base o M n : Nat) (t : Sd) (q : TL) : Prop := MS w tag base o M n t.pos t.used (bodies t) (cntL t.recs n) q

end Go.Proofs.Ytlgkndebhafliaa

namespace Go.Proofs.Ytlgkndebhafliaa
open Go.RowKit
attribute [local go_sem ↓] Go.wp_at_zero Go.wp_at_succ

set_option maxHeartbeats 1000000 in
theorem rblank_ok (w : World) (v : Value) (l : List Int) (h : Bts w v l) :
    Calls Try.prog 51 #[v] w fun e w' => e = .returned (.bool (allz l)) ∧ w' = w := by
  obtain ⟨a, cap, b, off, rfl, hl, hm, hbb, ha, hs⟩ := h
  unfold maxLen at hm
  go_enter Try.func51, Try.ntmps51
  go_wp2
  go_loopg [3] l.length (fun gk i wr => ∃ k : Nat, k + gk = l.length ∧ i = .int .i64 k ∧ allz (l.take k) = true ∧ w = wr)
  case atStart => exact ⟨0, by omega, rfl, by simp [allz], rfl⟩
  case round =>
    obtain ⟨k, hk, rfl, hz, rfl⟩ := hrel
    by_cases hlt : k < l.length
    case neg =>
      have hge : ¬ (k : Int) < (l.length : Int) := by omega
      have HZ : Hid (allz l = true) := by
        rw [List.take_of_length_le (by omega)] at hz
        exact hz
      clear hz
      go_wp2
      go_ret
      exact ⟨ret_bool HZ.out.symm, rfl⟩
    have hltI : (k : Int) < (l.length : Int) := by omega
    rcases ha with rfl | hnil
    case inr => rw [hnil] at hlt; simp at hlt
    have hc := hs k hlt
    by_cases h0 : l.getD k 0 = 0
    · have HT : Hid (allz (l.take (k + 1)) = true) := by
        show _ = _
        rw [allz_take hlt hz, h0]; rfl
      rw [h0] at hc
      clear hz
      go_wp2
      go_roundg (l.length - (k + 1))
      case rel => exact ⟨k + 1, by omega, by go_num, HT.out, rfl⟩
      case measure => omega
    · have HZ : Hid (allz l = false) := allz_no hlt h0
      have h0' : (l.getD k 0 != 0) = true := by simpa using h0
      generalize l.getD k 0 = c at *
      clear hz
      go_wp2
      go_ret
      exact ⟨ret_bool HZ.out.symm, rfl⟩

set_option maxHeartbeats 1000000 in
theorem rnext_ok (w : World) (tag : Nat → Nat) (base o M n pos used : Nat) (bs : List (List Int)) (cs : List Int) (q : TL) (h : MS w tag base o M n pos used bs cs q) (hp : pos ≤ 1000000) :
    Calls Try.prog 52 #[.pointer (some ⟨q.T, 0, none⟩)] w fun e w' => e = .returned (.tuple #[]) ∧ MS w' tag base o M n (pos + 1) 0 bs cs q ∧ Step tag tag base o w w' := by
  have h1 := h.t1
  have f1 := h.fT 1
  have f2 := h.fT 2
  have h2 := h.t2
  obtain ⟨g1, g2⟩ := h.at (pos + 1)
  obtain ⟨g3, g4⟩ := g1.byte 0
  have HG : Hid (MS ((w.setCell ⟨q.T, 1, none⟩ (.int .i64 ((pos + 1 : Nat) : Int))).setCell ⟨q.T, 2, none⟩ (.int .i64 ((0 : Nat) : Int))) tag base o M n (pos + 1) 0 bs cs q ∧ Step tag tag base o w ((w.setCell ⟨q.T, 1, none⟩ (.int .i64 ((pos + 1 : Nat) : Int))).setCell ⟨q.T, 2, none⟩ (.int .i64 ((0 : Nat) : Int)))) := ⟨g3, g2.trans g4⟩
  clear h g1 g2 g3 g4
  go_enter Try.func52, Try.ntmps52
  go_wp2
  refine bodyPost_end (results_none rfl _ _ _) rfl ?_
  exact ⟨rfl, HG.out⟩

set_option maxHeartbeats 1000000 in
theorem rsync8_ok (w : World) (tag : Nat → Nat) (base o o' : Nat) (ho : o ≠ o') (s : St) (p : ML) (h : MD w tag base o s p) (t : Sd) (q : TL) (hq : MSt w tag base o' p.M s.n t q) (hp : t.pos ≤ 1000000)
    (hops : s.ops ≤ 1000000) (hout : s.outs.length ≤ 1000000) :
    Calls Try.prog 25 #[.pointer (some ⟨q.T, 0, none⟩)] w fun e w' => e = .returned (.int .i64 (errC s.out)) ∧ ∃ p', p'.M = p.M ∧ MD w' tag base o s.sync p' ∧ MSt w' tag base o' p.M s.n (synT s t) q ∧ Step2 tag tag base o o' w w' := by
  have h0 := hq.t0
  have HS := rsync_ok w tag base o s p h hops hout
  have HQ : Hid (MSt w tag base o' p.M s.n t q) := hq
  clear hq h
  rcases err_cases s.out with hE | hE
  · have HT : Hid (synT s t = t) := by show _ = _; unfold synT; rw [hE]; simp
    rw [hE] at HS ⊢
    clear hE
    go_enter Try.func25, Try.ntmps25
    go_wp2_with fail
    refine HS.mono ?_
    rintro e w1 ⟨rfl, p1, hM, hP, hS⟩
    have hq1 := HQ.out.other hS (fun e => ho e.symm)
    have g2 := hq1.t2
    have HR : Hid (MD w1 tag base o s.sync p1 ∧ MSt w1 tag base o' p.M s.n t q ∧ Step tag tag base o w w1) := ⟨hP, hq1, hS⟩
    clear hP hS hq1 HS
    go_wp2
    go_ret
    exact ⟨rfl, p1, hM, HR.out.1, by rw [HT.out]; exact HR.out.2.1, HR.out.2.2.two1 o'⟩
  · rw [hE] at HS ⊢
    by_cases hu : 0 < t.used
    · have HT : Hid (synT s t = t.leave) := by show _ = _; unfold synT; rw [hE]; simp [hu]
      have huI : ¬ (t.used : Int) = 0 := by omega
      clear hE
      go_enter Try.func25, Try.ntmps25
      go_wp2_with fail
      refine HS.mono ?_
      rintro e w1 ⟨rfl, p1, hM, hP, hS⟩
      have hq1 := HQ.out.other hS (fun e => ho e.symm)
      have g2 := hq1.t2
      have HN := rnext_ok w1 tag base o' p.M s.n t.pos t.used (bodies t) (cntL t.recs s.n) q hq1 hp
      have HR : Hid (MD w1 tag base o s.sync p1 ∧ Step tag tag base o w w1) := ⟨hP, hS⟩
      have huI2 : ((t.used : Int) != 0) = true := by simpa using huI
      clear hP hS hq1 HS
      go_wp2_with fail
      refine HN.mono ?_
      rintro e w2 ⟨rfl, hq2, hS2⟩
      have HR2 : Hid (MSt w2 tag base o' p.M s.n t.leave q ∧ Step tag tag base o' w1 w2) := ⟨hq2, hS2⟩
      clear HN hq2 hS2
      go_wp2
      go_ret
      exact ⟨rfl, p1, hM, HR.out.1.other HR2.out.2 ho, by rw [HT.out]; exact HR2.out.1, (HR.out.2.two1 o').trans (HR2.out.2.two2 o)⟩
    · have hu0 : t.used = 0 := by omega
      have HT : Hid (synT s t = t) := by show _ = _; unfold synT; rw [hu0]; simp
      clear hE
      go_enter Try.func25, Try.ntmps25
      go_wp2_with fail
      refine HS.mono ?_
      rintro e w1 ⟨rfl, p1, hM, hP, hS⟩
      have hq1 := HQ.out.other hS (fun e => ho e.symm)
      have g2 := hq1.t2
      rw [hu0] at g2
      have HR : Hid (MD w1 tag base o s.sync p1 ∧ MSt w1 tag base o' p.M s.n t q ∧ Step tag tag base o w w1) := ⟨hP, hq1, hS⟩
      clear hP hS hq1 HS
      go_wp2
      go_ret
      exact ⟨rfl, p1, hM, HR.out.1, by rw [HT.out]; exact HR.out.2.1, HR.out.2.2.two1 o'⟩

end Go.Proofs.Ytlgkndebhafliaa

namespace Go.Proofs.Ytlgkndebhafliaa
open Go.RowKit

theorem Few.write {s : St} {n q : Nat} (h : Few s n q) (k : Nat) (l : List Int) : Few (s.write k l) n (q + 1) := by
  unfold St.write
  split
  · exact ⟨h.n, Nat.succ_le_succ h.ops, by simp [St.wrote, St.take]; exact h.sin⟩
  · exact h.take

theorem Few.app {s : St} {n q : Nat} (h : Few s n q) (t : Sd) (b : List Int) : Few (appS s t b) n (q + 1) := by
  unfold appS
  split
  · exact h.mono
  · split
    · exact h.mono
    · exact h.write _ _

theorem outs_write (s : St) (k : Nat) (l : List Int) : (s.write k l).outs.length ≤ s.outs.length := by
  unfold St.write
  split
  · exact outs_take s
  · exact outs_take s

theorem outs_app (s : St) (t : Sd) (b : List Int) : (appS s t b).outs.length ≤ s.outs.length := by
  unfold appS
  split
  · exact Nat.le_refl _
  · split
    · exact Nat.le_refl _
    · exact outs_write s _ _

theorem few_new (n q : Nat) : Few (St.new n) n q := ⟨rfl, Nat.zero_le _, Nat.zero_le _⟩

theorem out_nil {s : St} (h : s.outs.length ≤ 0) : s.out = 0 := by
  have : s.outs = [] := List.eq_nil_of_length_eq_zero (by omega)
  unfold St.out; rw [this]; rfl

theorem Held.grow {w w' : World} {tag tag' : Nat → Nat} {v : Value} {l : List Int} (h : Held w tag v l) (hb : Below w.heap.size w w') (ht : ∀ k, k < w.heap.size → tag' k = tag k) : Held w' tag' v l :=
  ⟨h.1.later hb, fun g hg => ⟨by rw [ht g (h.2 g hg).2]; exact (h.2 g hg).1, Nat.lt_of_lt_of_le (h.2 g hg).2 hb.size⟩⟩

theorem held0 {w : World} {v : Value} {l : List Int} (h : Bts w v l) (hl : l ≠ []) : Held w (fun _ => 0) v l := ⟨h, fun g hg => ⟨rfl, bts_lt h hl g hg⟩⟩

end Go.Proofs.Ytlgkndebhafliaa

namespace Go.Proofs.Ytlgkndebhafliaa
open Go.RowKit
attribute [local go_sem ↓] Go.wp_at_zero Go.wp_at_succ

theorem MS.low {w : World} {tag : Nat → Nat} {base base' o M n pos used : Nat} {bs : List (List Int)} {cs : List Int} {q : TL} (h : MS w tag base o M n pos used bs cs q) (hb : base' ≤ base) : MS w tag base' o M n pos used bs cs q :=
  ⟨h.bT, h.wL, h.bt, h.rI, h.cl, ⟨h.tT.1, Nat.le_trans hb h.tT.2⟩, fun g hg => ⟨(h.tL g hg).1, Nat.le_trans hb (h.tL g hg).2⟩, fun i hi g hg => ⟨(h.tB i hi g hg).1, Nat.le_trans hb (h.tB i hi g hg).2.1, (h.tB i hi g hg).2.2⟩, ⟨h.tI.1, Nat.le_trans hb h.tI.2⟩⟩

theorem cntL_nil (n : Nat) : cntL [] n = List.replicate n 0 := by
  apply List.ext_getElem
  · simp [cntL]
  · intro i h1 h2; simp [cntL]

theorem cntL_many (rs : List (Nat × List Int)) (n k : Nat) (ls : List (List Int)) (hr : ∀ x ∈ rs, x.1 < k) : cntL (rs ++ ls.map fun b => (k, b)) n = (cntL rs n).set k (ls.length : Int) := by
  apply List.ext_getElem
  · rw [List.length_set, cntL_len, cntL_len]
  · intro i h1 h2
    rw [cntL_len] at h1
    rw [List.getElem_set]
    have e1 : (cntL (rs ++ ls.map fun b => (k, b)) n)[i]'(by rw [cntL_len]; exact h1) = ((rs ++ ls.map fun b => (k, b)).countP fun x => x.1 == i : Nat) := by simp [cntL]
    have e2 : (cntL rs n)[i]'(by rw [cntL_len]; exact h1) = (rs.countP fun x => x.1 == i : Nat) := by simp [cntL]
    rw [e1, e2, List.countP_append, List.countP_map]
    by_cases e : k = i
    · subst e
      rw [if_pos rfl]
      have h0 : (rs.countP fun x => x.1 == k) = 0 := by
        rw [List.countP_eq_zero]
        intro x hx
        have := hr x hx
        simp; omega
      have h3 : List.countP ((fun x : Nat × List Int => x.1 == k) ∘ fun b => (k, b)) ls = ls.length := by
        rw [List.countP_eq_length]; intro b _; simp
      rw [h0, h3]; simp
    · rw [if_neg e]
      have h3 : List.countP ((fun x : Nat × List Int => x.1 == i) ∘ fun b => (k, b)) ls = 0 := by
        rw [List.countP_eq_zero]; intro b _; simp [e]
      rw [h3]; simp

theorem scan_blank {l : List Int} (h : allz l = true) : scanB l = [] := by
  refine scanB_no ?_
  unfold okB
  rw [decide_eq_false_iff_not]
  rintro ⟨h1, h2, _⟩
  have : l.getD 0 0 = 0 := by
    unfold allz at h
    rw [List.all_eq_true] at h
    have := h l[0] (List.getElem_mem (by omega))
    simp [List.getD, List.getElem?_eq_getElem (show 0 < l.length by omega)]
    simpa using this
  omega

theorem openK_blank (now : List Int) (k : Nat) (h : allz (sec now k) = true) : (openK now (k + 1)).pos = (openK now k).pos ∧ (openK now (k + 1)).recs = (openK now k).recs := by
  simp [openK, h, scan_blank h]

theorem openK_full (now : List Int) (k : Nat) (h : allz (sec now k) = false) : (openK now (k + 1)).pos = k + 1 ∧ (openK now (k + 1)).recs = (openK now k).recs ++ (scanB (sec now k)).map fun b => (k, b) := by
  simp [openK, h]

/-- The strand while Open goes on. -/
def OpM (w : World) (tag : Nat → Nat) (o' M n : Nat) (now : List Int) (k : Nat) (wr : World) : Prop :=
  ∃ tag1 lv vs, MS wr tag1 w.heap.size o' M n (openK now k).pos 0 (recB now k) (cntL (openK now k).recs n) ⟨w.heap.size + 1, lv, vs, w.heap.size⟩ ∧ (∀ j, j < w.heap.size → tag1 j = tag j) ∧ Below w.heap.size w wr

theorem opm_start (w : World) (tag : Nat → Nat) (o' M n : Nat) (now : List Int) : OpM w tag o' M n now 0 ((w.alloc (.cells (madeCells #[Value.int .i64 0] n) 3)).alloc (.cells #[.pointer (some ⟨M, 0, none⟩), .int .i64 0, .int .i64 0, .slice none 0 0, .slice (some ⟨w.heap.size, 0, none⟩) n n] 92)) := by
  have b0 := blk_new w (madeCells #[Value.int .i64 0] n) 3
  have b1 := blk_new (w.alloc (.cells (madeCells #[Value.int .i64 0] n) 3)) #[.pointer (some ⟨M, 0, none⟩), .int .i64 0, .int .i64 0, .slice none 0 0, .slice (some ⟨w.heap.size, 0, none⟩) n n] 92
  have hB := below_alloc (w.alloc (.cells (madeCells #[Value.int .i64 0] n) 3)) (.cells #[.pointer (some ⟨M, 0, none⟩), .int .i64 0, .int .i64 0, .slice none 0 0, .slice (some ⟨w.heap.size, 0, none⟩) n n] 92)
  have b0' := b0.later hB
  rw [toList_madeCells_one, show List.replicate n (Value.int .i64 0) = (cntL [] n).map (Value.int .i64) by rw [cntL_nil, List.map_replicate]] at b0'
  rw [World.size_alloc] at b1
  refine ⟨fun j => if j < w.heap.size then tag j else if j = w.heap.size then 16 * o' + 10 else 16 * o' + 7, .slice none 0 0, [], ⟨b1, win_nil _ _, fun i hi => by simp [recB, openK] at hi, b0', cntL_len _ _, ⟨?_, by simp⟩, fun g hg => by simp [Value.ownBlock] at hg, fun i hi => by simp [recB, openK] at hi, ⟨?_, by simp⟩⟩, fun j hj => by simp [hj], ?_⟩
  · show (if w.heap.size + 1 < w.heap.size then _ else if w.heap.size + 1 = w.heap.size then _ else _) = _
    rw [if_neg (by omega), if_neg (by omega)]
  · show (if w.heap.size < w.heap.size then _ else if w.heap.size = w.heap.size then _ else _) = _
    rw [if_neg (by omega), if_pos rfl]
  · exact (below_alloc w _).trans (hB.mono (by simp))

set_option maxHeartbeats 16000000 in
theorem ropen_ok (w : World) (tag : Nat → Nat) (base o o' : Nat) (s : St) (p : ML) (h : MD w tag base o s p) (hbase : base ≤ w.heap.size) :
    Calls Try.prog 22 #[.pointer (some ⟨p.M, 0, none⟩)] w fun e w' => ∃ q tag', e = .returned (.tuple #[.pointer (some ⟨q.T, 0, none⟩), .int .i64 0]) ∧ MSt w' tag' base o' p.M s.n (openT s) q ∧ (∀ k, k < w.heap.size → tag' k = tag k) ∧ Below w.heap.size w w' := by
  obtain ⟨i3, hi3, hz30, hz31, hz32⟩ := info_parts info3
  obtain ⟨i0, hi, hz0, hz1, hz2⟩ := info_parts infoB
  have HMD : Hid (MD w tag base o s p) := h
  have hn2 := h.ok.n2
  have hln := h.ok.nl
  have hlb := h.ok.nb
  have h0 := h.m0
  have hMlt := h.bM.lt
  have HI0 : Hid (OpM w tag o' p.M s.n s.now 0 _) := opm_start w tag o' p.M s.n s.now
  clear h
  go_enter Try.func22, Try.ntmps22
  go_wp2_with (at_make; refine wpList_make_row _ rfl _ _ 87 rfl 3 i3 (.int .i64 0) Try.underlying87 hi3 hz30 hz31 rfl .i64 .i64 s.n rfl rfl (by rw [hz32]; omega) (by omega) ?_)
  go_loopg [5] s.n (fun gk i wr => ∃ k : Nat, k + gk = s.n ∧ i = .int .i64 k ∧ OpM w tag o' p.M s.n s.now k wr)
  case atStart => exact ⟨0, by omega, rfl, HI0.out⟩
  case round =>
    obtain ⟨w0, rfl⟩ : ∃ w0, w0 = wr := ⟨wr, rfl⟩
    obtain ⟨k, hk, rfl, tag1, lv, vs, hQ, hT1, hB1⟩ := hrel
    have h01 := cell_later hB1 h0
    by_cases hlt : k < s.n
    case neg =>
      have hge : ¬ (k : Int) < (s.n : Int) := by omega
      have hke : k = s.n := by omega
      have HR : Hid (MSt w0 tag1 base o' p.M s.n (openT s) ⟨w.heap.size + 1, lv, vs, w.heap.size⟩) := by
        rw [hke] at hQ
        have hq := hQ.low hbase
        have hu : (openT s).used = 0 := by
          unfold openT
          cases s.n <;> rfl
        show MS _ _ _ _ _ _ _ _ _ _ _
        rw [hu]
        exact hq
      clear hQ
      go_wp2
      go_ret2
      exact ⟨(⟨w.heap.size + 1, lv, vs, w.heap.size⟩ : TL), rfl, tag1, HR.out, hT1, hB1⟩
    have hltI : (k : Int) < (s.n : Int) := by omega
    have HRd := rread_ok w0 tag base o s p (HMD.out.later hB1) k hlt
    have HSL : Hid ((sec s.now k).length = 64) := sec_len hln hlt
    have hsb := sec_bytes hlb k
    have hokk := openK_ok s.now s.n hln hlb k (by omega)
    have HQ : Hid (MS w0 tag1 w.heap.size o' p.M s.n (openK s.now k).pos 0 (recB s.now k) (cntL (openK s.now k).recs s.n) ⟨w.heap.size + 1, lv, vs, w.heap.size⟩) := hQ
    have HB1 : Hid (Below w.heap.size w w0) := hB1
    have HT1 : Hid (∀ j, j < w.heap.size → tag1 j = tag j) := hT1
    clear hQ hB1 hT1
    go_wp2_with fail
    refine HRd.mono ?_
    rintro e w2 ⟨v2, rfl, hO2, hB2⟩
    have hb2 := hO2.bts hsb
    have HNw : Hid (∀ g, v2.ownBlock = some g → w0.heap.size ≤ g) := fun g hg => (hO2.lt g hg).1
    have HBl := rblank_ok w2 _ _ hb2
    have HB2 : Hid (Below w0.heap.size w0 w2) := hB2
    have HBt : Hid (Bts w2 v2 (sec s.now k)) := hb2
    obtain ⟨va, vc, rfl, _⟩ := bts_src hb2
    clear HRd hO2 hb2 hB2
    go_wp2_with fail
    refine HBl.mono ?_
    rintro e w2' ⟨rfl, hx⟩
    rw [hx]
    clear hx HBl
    by_cases hz : allz (sec s.now k) = true
    · obtain ⟨z1, z2⟩ := openK_blank s.now k hz
      have HR : Hid (OpM w tag o' p.M s.n s.now (k + 1) w2) := by
        refine ⟨tag1, lv, vs, ?_, HT1.out, HB1.out.trans (HB2.out.mono HB1.out.size)⟩
        have e : recB s.now (k + 1) = recB s.now k := by unfold recB; rw [z2]
        rw [z1, z2, e]
        exact HQ.out.later HB2.out
      rw [hz]
      go_wp2
      go_roundg (s.n - (k + 1))
      case rel => exact ⟨k + 1, by omega, by go_num, HR.out⟩
      case measure => omega
    have hz' : allz (sec s.now k) = false := by simpa using hz
    obtain ⟨z1, z2⟩ := openK_full s.now k hz'
    have Z : Hid ((openK s.now (k + 1)).pos = k + 1 ∧ cntL (openK s.now (k + 1)).recs s.n = (cntL (openK s.now k).recs s.n).set k ((scanB (sec s.now k)).length : Int) ∧ recB s.now (k + 1) = recB s.now k ++ scanB (sec s.now k)) :=
      ⟨z1, by rw [z2]; exact cntL_many _ _ _ _ (fun x hx => (hokk.2.2.1 x hx).1), recB_succ _ _⟩
    have hQ2 := HQ.out.later HB2.out
    obtain ⟨hQ3, hS3⟩ := hQ2.at (k + 1)
    have f1 := hQ2.fT 1
    have g1 := hQ2.t1
    have hT0 : w.heap.size + 1 < w0.heap.size := HQ.out.bT.lt
    have hB3 : Below w.heap.size w (w2.setCell ⟨w.heap.size + 1, 1, none⟩ (.int .i64 ((k + 1 : Nat) : Int))) := (HB1.out.trans (HB2.out.mono HB1.out.size)).setCell (by show w.heap.size ≤ w.heap.size + 1; omega) _
    have hb3 : Bts (w2.setCell ⟨w.heap.size + 1, 1, none⟩ (.int .i64 ((k + 1 : Nat) : Int))) (.slice va (sec s.now k).length vc) (sec s.now k) := bts_same HBt.out (fun g hg _ => heap_setCell_other _ _ g _ (fun e => by have := HNw.out g hg; have e' : g = w.heap.size + 1 := e; omega))
    obtain ⟨w3, hw3⟩ : ∃ w3, w3 = w2.setCell ⟨w.heap.size + 1, 1, none⟩ (.int .i64 ((k + 1 : Nat) : Int)) := ⟨_, rfl⟩
    rw [← hw3] at hB3 hb3
    have hQ3' : MS w3 tag1 w.heap.size o' p.M s.n (k + 1) 0 (recB s.now k) (cntL (openK s.now k).recs s.n) ⟨w.heap.size + 1, lv, vs, w.heap.size⟩ := by rw [hw3]; exact hQ3
    have HW3 : Hid (w2.setCell ⟨w.heap.size + 1, 1, none⟩ (.int .i64 ((k : Int) + 1)) = w3) := by show _ = _; rw [hw3]; rfl
    have HSc := rscan_ok w3 _ (sec s.now k) hb3 (by rw [HSL.out]; omega)
    have hls8 := scanB_len 64 (sec s.now k) (by rw [HSL.out]; omega)
    rw [HSL.out] at hls8
    have hlsb := scanB_all 64 (sec s.now k) (by rw [HSL.out]; omega) hsb
    have hrk : (recB s.now k).length ≤ 40000 := by rw [recB_len]; omega
    rw [hz']
    clear hQ2 hQ3 hS3 z1 z2 hz hz' hw3 hokk
    go_wp2_with fail
    rw [HW3.out]
    refine HSc.mono ?_
    rintro e w4 ⟨lv4, vs4, rfl, hL4, hB4⟩
    have hT3 : tag1 = tag1 := rfl
    have hsz3 := hB3.size
    obtain ⟨A, LB, LO, lc, rfl, hlc, hlm, hA, hG⟩ := got_of_lst hL4 tag1 (16 * o' + 9) w.heap.size hsz3
    have hS4 := step_over tag1 w.heap.size o' (16 * o' + 9) hsz3 hB4
    have hQ4 : MS w4 (tagOver tag1 w3.heap.size (16 * o' + 9)) w.heap.size o' p.M s.n (k + 1) 0 (recB s.now k) (cntL (openK s.now k).recs s.n) ⟨w.heap.size + 1, lv, vs, w.heap.size⟩ := hQ3'.keep (fun j hj _ => hB4.block j hj) hS4.tags hB4.size
    have HT4 : Hid (∀ j, j < w.heap.size → tagOver tag1 w3.heap.size (16 * o' + 9) j = tag j) := fun j hj => by rw [tagOver_lt _ _ _ _ (by omega)]; exact HT1.out j hj
    have hB04 : Below w.heap.size w w4 := hB3.trans (hB4.mono hsz3)
    generalize tagOver tag1 w3.heap.size (16 * o' + 9) = tag4 at *
    clear hL4 hS4 hQ3' hB4 hB3 hb3 HSc hT3 HW3
    unfold maxLen at hlm
    -- the count
    obtain ⟨hQ5, hS5⟩ := hQ4.count k ((scanB (sec s.now k)).length : Int)
    have d4 := hQ4.t4
    have di := hQ4.i k hlt
    have dfi := hQ4.fI k
    have hG5 : Got (w4.setCell ⟨w.heap.size, k, none⟩ (.int .i64 ((scanB (sec s.now k)).length : Int))) tag4 (16 * o' + 9) w.heap.size LB LO vs4 (scanB (sec s.now k)) :=
      hG.keep (fun g _ hg => heap_setCell_other _ _ g _ (fun e => by have h1 : tag4 w.heap.size = 16 * o' + 10 := hQ4.tI.1; have e' : g = w.heap.size := e; rw [e', h1] at hg; omega)) (fun _ _ => rfl) (by simp [World.setCell])
    have hB05 : Below w.heap.size w (w4.setCell ⟨w.heap.size, k, none⟩ (.int .i64 ((scanB (sec s.now k)).length : Int))) := hB04.setCell (Nat.le_refl _) _
    obtain ⟨w5, hw5⟩ : ∃ w5, w5 = w4.setCell ⟨w.heap.size, k, none⟩ (.int .i64 ((scanB (sec s.now k)).length : Int)) := ⟨_, rfl⟩
    rw [← hw5] at hQ5 hG5 hB05
    have HW5 : Hid (w4.setCell ⟨w.heap.size, k, none⟩ (.int .i64 ((scanB (sec s.now k)).length : Int)) = w5) := hw5.symm
    have HQ5 : Hid (MS w5 tag4 w.heap.size o' p.M s.n (k + 1) 0 (recB s.now k) ((cntL (openK s.now k).recs s.n).set k ((scanB (sec s.now k)).length : Int)) ⟨w.heap.size + 1, lv, vs, w.heap.size⟩) := hQ5
    generalize (cntL (openK s.now k).recs s.n).getD k 0 = c0 at *
    clear hQ4 hQ5 hS5 hG hw5 hB04
    go_wp2_with fail
    rw [HW5.out]
    have hZ := Z.out
    generalize hLS : scanB (sec s.now k) = ls at *
    have HLS : Hid (scanB (sec s.now k) = ls) := hLS
    clear hLS
    generalize recB s.now k = rb at *
    generalize (cntL (openK s.now k).recs s.n).set k (ls.length : Int) = cs at *
    go_loopg [9] ls.length (fun gk i wr => ∃ (j : Nat) (tag6 : Nat → Nat) (lv6 : Value) (vs6 : List Value), j + gk = ls.length ∧ i = .int .i64 j ∧ MS wr tag6 w.heap.size o' p.M s.n (k + 1) 0 (rb ++ ls.take j) cs ⟨w.heap.size + 1, lv6, vs6, w.heap.size⟩ ∧ Step tag4 tag6 w.heap.size o' w5 wr ∧ Got wr tag6 (16 * o' + 9) w.heap.size LB LO vs4 ls)
    case atStart => exact ⟨0, tag4, lv, vs, by omega, rfl, by rw [List.take_zero, List.append_nil]; exact HQ5.out, Step.refl _ _ _ _, hG5⟩
    case round =>
      obtain ⟨w6, rfl⟩ : ∃ w6, w6 = wr := ⟨wr, rfl⟩
      obtain ⟨j, tag6, lv6, vs6, hj, rfl, hQ6, hS6, hG6⟩ := hrel
      by_cases hjl : j < ls.length
      case neg =>
        have hjge : ¬ (j : Int) < (ls.length : Int) := by omega
        have HR : Hid (OpM w tag o' p.M s.n s.now (k + 1) w6) := by
          refine ⟨tag6, lv6, vs6, ?_, fun j' hj' => by rw [hS6.tags j' (Nat.lt_of_lt_of_le hj' hB05.size)]; exact HT4.out j' hj', hB05.trans hS6.below⟩
          rw [Z.out.1, Z.out.2.1, Z.out.2.2]
          rw [List.take_of_length_le (by omega)] at hQ6
          exact hQ6
        clear hQ6 hG6 hS6
        go_wp2
        go_roundg (s.n - (k + 1))
        case rel => exact ⟨k + 1, by omega, by go_num, HR.out⟩
        case measure => omega
      have hjlI : (j : Int) < (ls.length : Int) := by omega
      rcases hA with rfl | hnil
      case inr => rw [hnil] at hjl; simp at hjl
      have hcel := hG6.cell j hjl
      have hbj := hG6.bt j hjl
      have htj := hG6.tE j hjl
      have HTk : Hid (ls.take (j + 1) = ls.take j ++ [ls.getD j []]) := by
        show _ = _
        rw [List.take_succ_eq_append_getElem hjl]; simp [List.getD, List.getElem?_eq_getElem hjl]
      generalize vs4.getD j undef = u at *
      generalize hxx : ls.getD j [] = x at *
      clear hxx
      obtain ⟨ua, uc, huv, _⟩ := bts_src hbj
      subst huv
      have d3 : w6.cell? ⟨w.heap.size + 1, 3, none⟩ = some lv6 := hQ6.t3
      have f3 : w6.frozen? ⟨w.heap.size + 1, 3, none⟩ = false := hQ6.fT 3
      obtain ⟨ra, rc, hrv0⟩ := win_shape hQ6.wL
      have hrv : lv6 = .slice ra (rb ++ ls.take j).length rc := hrv0
      clear hrv0
      have hrl : (rb ++ ls.take j).length ≤ 41000 := by rw [List.length_append, List.length_take]; omega
      have hbw := Nat.le_trans hB05.size hS6.below.size
      have HAP : Hid (∀ v' w8, (w6.alloc (.cells #[.slice ua x.length uc] 23)).drew.grownBy w8 lv6.ownBlock → (v'.ownBlock = lv6.ownBlock ∨ v'.ownBlock = some (w6.alloc (.cells #[.slice ua x.length uc] 23)).drew.heap.size) →
          Win w8 1 v' ((rb ++ ls.take j).length + 1) (vs6 ++ [.slice ua x.length uc]) →
          (∃ tag9, MS (w8.setCell ⟨w.heap.size + 1, 3, none⟩ v') tag9 w.heap.size o' p.M s.n (k + 1) 0 (rb ++ ls.take (j + 1)) cs ⟨w.heap.size + 1, v', vs6 ++ [.slice ua x.length uc], w.heap.size⟩ ∧ Step tag4 tag9 w.heap.size o' w5 (w8.setCell ⟨w.heap.size + 1, 3, none⟩ v') ∧ Got (w8.setCell ⟨w.heap.size + 1, 3, none⟩ v') tag9 (16 * o' + 9) w.heap.size LB LO vs4 ls) ∧
          w8.cell? ⟨w.heap.size + 1, 3, none⟩ = some lv6 ∧ w8.frozen? ⟨w.heap.size + 1, 3, none⟩ = false) := by
        intro v' w8 hg ha hw
        have hBx : Below w6.heap.size w6 (w6.alloc (.cells #[.slice ua x.length uc] 23)).drew := (below_alloc w6 _).drew
        obtain ⟨tag9, e1, e2, e3⟩ := hQ6.pushed hbw hBx x _ v' hbj htj hg ha hw
        have hsx := hBx.size
        have hT6 : w.heap.size + 1 < w6.heap.size := hQ6.bT.lt
        have hne : lv6.ownBlock ≠ some (w.heap.size + 1) := fun e => by have a := (hQ6.tL _ e).1; have b : tag6 (w.heap.size + 1) = 16 * o' + 7 := hQ6.tT.1; rw [b] at a; omega
        have hbl : Blk w8 (w.heap.size + 1) _ := hQ6.bT.same ((hg.block (w.heap.size + 1) (by omega) (fun e => hne e.symm)).trans (hBx.block (w.heap.size + 1) (by omega)))
        refine ⟨⟨tag9, ?_, hS6.trans e2, ?_⟩, hbl.cell 3, hbl.frozen 3⟩
        · rw [HTk.out, ← List.append_assoc]; exact e1
        · exact hG6.keep (fun g' hg' ht' => e3 g' hg' ht') e2.tags e2.below.size
      have HWn : Hid (Win w6 1 lv6 (rb ++ ls.take j).length vs6) := hQ6.wL
      have hT6 : w.heap.size + 1 < w6.heap.size := hQ6.bT.lt
      rw [hrv] at d3 HAP HWn
      generalize (rb ++ ls.take j).length = rn at *
      clear hrv hQ6 hS6 hG6 hbj htj hZ
      go_wp2
      go_region_law ((refine step_win_append rfl (.tmp 61) (.tmp 66) 40 rfl 23 i0 (.slice none 0 0) 1 24 Try.underlying40 hi hz0 hz1 hz2 rfl (by decide) (.slice ra rn rc) rn vs6 (by rfl) (by exact HWn.out.later (below_alloc w6 _).drew) ⟨w6.heap.size, 0, none⟩ 1 1 [.slice ua x.length uc] (by rfl) rfl (by exact news_new w6 #[.slice ua x.length uc] 23) (by intro u hu; simp at hu; subst hu; rfl) (by unfold maxLen; omega) (by omega) ?_; intro v' w8 hwin hgrow hat; obtain ⟨va', vc', hvv⟩ := win_shape hwin; subst hvv; obtain ⟨hAP, g4, g5⟩ := HAP.out _ w8 hgrow hat hwin))
      all_goals
        go_wp2
        go_roundg (ls.length - (j + 1))
        case rel =>
          obtain ⟨tag9, e1, e2, e3⟩ := hAP
          exact ⟨j + 1, tag9, _, _, by omega, by go_num, e1, e2, e3⟩
        case measure => omega

end Go.Proofs.Ytlgkndebhafliaa
