/- same: are two lists of records one? -/
import Derived.Test.YtlgkndebhafliaaM20
import Derived.Test.YtlgkndebhafliaaM18
import Derived.BigQuiet
import Derived.Deep.Slices
set_option maxRecDepth 100000
namespace Go.Proofs.Ytlgkndebhafliaa
open Go.RowKit
attribute [local go_sem ↓] Go.wp_at_zero Go.wp_at_succ

set_option maxHeartbeats 4000000 in
theorem same8_ok (w : World) (base1 base2 : Nat) (v v' : Value) (vs us : List Value) (ls : List (List Int)) (h : Lst w base1 v vs ls) (h' : Lst w base2 v' us ls) :
    Calls Try.prog 19 #[v, v'] w fun e w' => e = .returned (.bool true) ∧ ∃ nq, w' = w.drewN nq := by
  have H1 : Hid (Lst w base1 v vs ls) := h
  have H2 : Hid (Lst w base2 v' us ls) := h'
  obtain ⟨av, cv, rfl⟩ := win_shape h.win
  obtain ⟨au, cu, rfl⟩ := win_shape h'.win
  clear h h'
  go_enter Try.func19, Try.ntmps19
  go_wp2
  go_loopg [5] ls.length (fun gk i wr => ∃ (k nq : Nat), k + gk = ls.length ∧ i = .int .i64 k ∧ wr = w.drewN nq)
  case atStart => exact ⟨0, 0, by omega, rfl, rfl⟩
  case round =>
    obtain ⟨k, nq, hk, rfl, rfl⟩ := hrel
    by_cases hlt : k < ls.length
    case neg =>
      have hge : ¬ (k : Int) < (ls.length : Int) := by omega
      go_wp2
      go_ret
      exact ⟨rfl, nq, rfl⟩
    have hltI : (k : Int) < (ls.length : Int) := by omega
    obtain ⟨B1, O1, d1, e1, g1, g2, g3⟩ := H1.out.read (by omega)
    obtain ⟨B2, O2, d2, e2, f1, f2, f3⟩ := H2.out.read (by omega)
    injection e1 with e1a _ e1c
    injection e2 with e2a _ e2c
    subst e1a; subst e1c; subst e2a; subst e2c
    unfold maxLen at g2 f2
    have c1 := g3 k hlt
    have c2 := f3 k hlt
    have hb1 := H1.out.bts k hlt
    have hb2 := H2.out.bts k hlt
    have HS : ∀ n, Calls Try.prog 15 #[vs.getD k undef, us.getD k undef] ((w.drewN nq).drewN n) fun e w' => e = .returned (.bool true) ∧ ∃ nq', w' = ((w.drewN nq).drewN n).drewN nq' := fun n => by
      rw [World.drewN_drewN]
      have := same_one (w.drewN (nq + n)) _ _ _ _ (hb1.later (below_drewN w _)) (hb2.later (below_drewN w _))
      rwa [show sameB (ls.getD k []) (ls.getD k []) = true by unfold sameB; simp] at this
    obtain ⟨z1, z2, hz, _⟩ := bts_src hb1
    obtain ⟨y1, y2, hy, _⟩ := bts_src hb2
    rw [hz] at c1 HS
    rw [hy] at c2 HS
    clear hz hy hb1 hb2 g3 f3
    generalize (ls.getD k []).length = m at *
    have c1' : (w.drewN nq).cell? ⟨B1, O1 + k, none⟩ = some (.slice z1 m z2) := cell_later (below_drewN w nq) c1
    have c2' : (w.drewN nq).cell? ⟨B2, O2 + k, none⟩ = some (.slice y1 m y2) := cell_later (below_drewN w nq) c2
    obtain ⟨wx, hwx⟩ : ∃ x, x = w.drewN nq := ⟨_, rfl⟩
    rw [← hwx] at c1' c2' HS ⊢
    have HWX : Hid (wx = w.drewN nq) := hwx
    clear hwx c1 c2
    go_wp2_with fail
    go_quiet ((go_at_call 15; refine Calls.quiet_of (HS _)))
    rename_i nq2
    go_wp2
    go_roundg (ls.length - (k + 1))
    case rel => exact ⟨k + 1, _, by omega, by go_num, by rw [HWX.out, World.drewN_drewN]⟩
    case measure => omega

end Go.Proofs.Ytlgkndebhafliaa

namespace Go.Proofs.Ytlgkndebhafliaa
open Go.RowKit
attribute [local go_sem ↓] Go.wp_at_zero Go.wp_at_succ

theorem infoBool : (Try.prog.info? 4).map (fun i => (i.zero, i.size, i.bytes)) = some (some (.bool false), 1, 1) := by kernel_rfl

/-- A row of slices, wherever they lie. -/
structure Lsx (w : World) (v : Value) (vs : List Value) (ls : List (List Int)) : Prop where
  win : Win w 1 v ls.length vs
  bts : ∀ i, i < ls.length → Bts w (vs.getD i undef) (ls.getD i [])

theorem Lst.lsx {w : World} {base : Nat} {v : Value} {vs : List Value} {ls : List (List Int)} (h : Lst w base v vs ls) : Lsx w v vs ls := ⟨h.win, h.bts⟩

theorem Lsx.later {w w' : World} {v : Value} {vs : List Value} {ls : List (List Int)} (h : Lsx w v vs ls) (hb : Below w.heap.size w w') : Lsx w' v vs ls := ⟨h.win.later hb, fun i hi => (h.bts i hi).later hb⟩

/-- A window's cells, one each. -/
theorem win_read {w : World} {v : Value} {n : Nat} {vs : List Value} (h : Win w 1 v n vs) (hne : 0 < n) : ∃ B O c, v = .slice (some ⟨B, O, none⟩) n c ∧ n ≤ c ∧ c ≤ maxLen ∧ ∀ i, i < n → w.cell? ⟨B, O + i, none⟩ = some (vs.getD i undef) := by
  rcases h.2 with ⟨_, h0⟩ | ⟨B, O, c, cs, e, hb, h2, h3, h4, h5⟩
  · omega
  refine ⟨B, O, c, e, h2, h3, fun i hi => ?_⟩
  have hvl : vs.length = n := by have := h.1; omega
  exact hb.range O (n * 1) i (vs.getD i undef) (by rw [h5]; simp [List.getD, List.getElem?_eq_getElem (show i < vs.length by omega)])

theorem made_blk (w : World) (n : Nat) : Blk (w.alloc (.cells (madeCells #[Value.bool false] n) 4)) w.heap.size ((List.replicate n false).map Value.bool) := by
  have := blk_new w (madeCells #[Value.bool false] n) 4
  rwa [toList_madeCells_one, ← List.map_replicate] at this

theorem bool_cell {w : World} {g : Nat} {l : List Bool} (h : Blk w g (l.map Value.bool)) (j : Nat) (hj : j < l.length) : w.cell? ⟨g, j, none⟩ = some (.bool (l.getD j false)) := by
  rw [h.cell]; simp [List.getD, List.getElem?_eq_getElem hj]

theorem bool_set {w : World} {g : Nat} {l : List Bool} (h : Blk w g (l.map Value.bool)) (j : Nat) (b : Bool) : Blk (w.setCell ⟨g, j, none⟩ (.bool b)) g ((l.set j b).map Value.bool) := by
  rw [List.map_set]; exact h.set j _

theorem Btw.snoc {h : List (List Int)} {R : List Tr} {x : Tr} : ∀ {S : List Tr}, Btw h S → S = R ++ [x] → (x.su = false ∧ Btw h R) ∨ ∃ h', h = h' ++ [x.b] ∧ Btw h' R := by
  intro S hS
  induction hS generalizing R with
  | nil => intro e; cases R <;> cases e
  | @skip h S y hy hS ih =>
    intro e
    cases R with
    | nil =>
      simp only [List.nil_append, List.cons.injEq] at e
      obtain ⟨rfl, rfl⟩ := e
      cases hS
      exact .inl ⟨hy, .nil⟩
    | cons z R =>
      simp only [List.cons_append, List.cons.injEq] at e
      obtain ⟨rfl, rfl⟩ := e
      rcases ih rfl with ⟨h1, h2⟩ | ⟨h', h1, h2⟩
      · exact .inl ⟨h1, .skip _ hy h2⟩
      · exact .inr ⟨h', h1, .skip _ hy h2⟩
  | @take h S y hS ih =>
    intro e
    cases R with
    | nil =>
      simp only [List.nil_append, List.cons.injEq] at e
      obtain ⟨rfl, rfl⟩ := e
      cases hS
      exact .inr ⟨[], rfl, .nil⟩
    | cons z R =>
      simp only [List.cons_append, List.cons.injEq] at e
      obtain ⟨rfl, rfl⟩ := e
      rcases ih rfl with ⟨h1, h2⟩ | ⟨h', h1, h2⟩
      · exact .inl ⟨h1, .take _ h2⟩
      · exact .inr ⟨y.b :: h', by rw [h1]; rfl, .take _ h2⟩

/-- What the row can tells. -/
def Can (hs : List (List Int)) (R : List Tr) (j : Nat) (C : List Bool) : Prop := ∀ k, k ≤ hs.length → Btw (hs.take k) (R.take j) → C.getD k false = true

theorem can_step {hs : List (List Int)} {R : List Tr} {j : Nat} {C N : List Bool} {x : Tr} (hC : Can hs R j C) (hj : R[j]? = some x)
    (h1 : ∀ m, m ≤ hs.length → x.su = false → C.getD m false = true → N.getD m false = true)
    (h2 : ∀ m, m < hs.length → hs.getD m [] = x.b → C.getD m false = true → N.getD (m + 1) false = true) : Can hs R (j + 1) N := by
  intro k hk hb
  obtain ⟨hjl, hjx⟩ := List.getElem?_eq_some_iff.1 hj
  rw [List.take_succ_eq_append_getElem hjl, hjx] at hb
  rcases hb.snoc rfl with ⟨e1, e2⟩ | ⟨h', e1, e2⟩
  · exact h1 k hk e1 (hC k hk e2)
  · have hl := congrArg List.length e1
    rw [List.length_take, List.length_append, List.length_singleton] at hl
    obtain ⟨m, rfl⟩ : ∃ m, k = m + 1 := ⟨k - 1, by omega⟩
    have hm : m < hs.length := by omega
    rw [List.take_succ_eq_append_getElem hm] at e1
    have e3 := List.append_inj e1 (by rw [List.length_take]; omega)
    have e4 : hs[m] = x.b := by simpa using e3.2
    refine h2 m hm (by simp [List.getD, List.getElem?_eq_getElem hm, e4]) (hC m (by omega) ?_)
    rw [e3.1]; exact e2

theorem can_start (hs : List (List Int)) (R : List Tr) (C : List Bool) (h : C.getD 0 false = true) : Can hs R 0 C := by
  intro k hk hb
  rw [List.take_zero] at hb
  have hn : hs.take k = [] := by
    generalize hs.take k = l at *
    cases hb; rfl
  have := congrArg List.length hn
  rw [List.length_take, List.length_nil] at this
  have : k = 0 := by omega
  rw [this]; exact h

theorem set_getD (l : List Bool) (i j : Nat) (hi : i < l.length) : (l.set i true).getD j false = if i = j then true else l.getD j false := by
  simp only [List.getD, List.getElem?_set]
  by_cases e : i = j
  · subst e; simp [hi]
  · simp [e]

theorem set_up (l : List Bool) (i j : Nat) (h : l.getD j false = true) : (l.set i true).getD j false = true := by
  by_cases hi : i < l.length
  · rw [set_getD l i j hi]; split
    · rfl
    · exact h
  · rw [List.set_eq_of_length_le (by omega)]; exact h

/-- What the next row tells, when k of the row can have been gone through. -/
structure Nxb (hs : List (List Int)) (x : Tr) (C N : List Bool) (k : Nat) : Prop where
  a : ∀ m, m < k → m ≤ hs.length → x.su = false → C.getD m false = true → N.getD m false = true
  b : ∀ m, m < k → m < hs.length → hs.getD m [] = x.b → C.getD m false = true → N.getD (m + 1) false = true

theorem Nxb.zero (hs : List (List Int)) (x : Tr) (C N : List Bool) : Nxb hs x C N 0 := ⟨fun m h => by omega, fun m h => by omega⟩

theorem Nxb.no {hs : List (List Int)} {x : Tr} {C N : List Bool} {k : Nat} (h : Nxb hs x C N k) (hc : C.getD k false = false) : Nxb hs x C N (k + 1) := by
  refine ⟨fun m hm hl hs' hcm => ?_, fun m hm hl he hcm => ?_⟩
  · by_cases e : m = k
    · rw [e, hc] at hcm; cases hcm
    · exact h.a m (by omega) hl hs' hcm
  · by_cases e : m = k
    · rw [e, hc] at hcm; cases hcm
    · exact h.b m (by omega) hl he hcm

/-- One more of the row can, where it tells. -/
theorem Nxb.yes {hs : List (List Int)} {x : Tr} {C N N' : List Bool} {k : Nat} (h : Nxb hs x C N k) (hup : ∀ m, N.getD m false = true → N'.getD m false = true) (h1 : x.su = false → N'.getD k false = true)
    (h2 : k < hs.length → hs.getD k [] = x.b → N'.getD (k + 1) false = true) : Nxb hs x C N' (k + 1) := by
  refine ⟨fun m hm hl hs' hcm => ?_, fun m hm hl he hcm => ?_⟩
  · by_cases e : m = k
    · rw [e]; exact h1 hs'
    · exact hup _ (h.a m (by omega) hl hs' hcm)
  · by_cases e : m = k
    · rw [e] at hl he ⊢; exact h2 hl he
    · exact hup _ (h.b m (by omega) hl he hcm)

end Go.Proofs.Ytlgkndebhafliaa

namespace Go.Proofs.Ytlgkndebhafliaa
open Go.RowKit

theorem Few.write {s : St} {n q : Nat} (h : Few s n q) (k : Nat) (l : List Int) : Few (s.write k l) n (q + 1) := by
  unfold St.write
  split
  · exact ⟨h.n, Nat.succ_le_succ h.ops, by simp [St.wrote, St.take]; exact h.sin⟩
  · exact h.take

theorem Few.app {s : St} {n q : Nat} (h : Few s n q) (t : Sd) (b : List Int) : Few (appS s t b) n (q + 1) := by
  unfold appS
  split
  · exact h.mono
  · split
    · exact h.mono
    · exact h.write _ _

theorem outs_write (s : St) (k : Nat) (l : List Int) : (s.write k l).outs.length ≤ s.outs.length := by
  unfold St.write
  split
  · exact outs_take s
  · exact outs_take s

theorem outs_app (s : St) (t : Sd) (b : List Int) : (appS s t b).outs.length ≤ s.outs.length := by
  unfold appS
  split
  · exact Nat.le_refl _
  · split
    · exact Nat.le_refl _
    · exact outs_write s _ _

theorem few_new (n q : Nat) : Few (St.new n) n q := ⟨rfl, Nat.zero_le _, Nat.zero_le _⟩

theorem out_nil {s : St} (h : s.outs.length ≤ 0) : s.out = 0 := by
  have : s.outs = [] := List.eq_nil_of_length_eq_zero (by omega)
  unfold St.out; rw [this]; rfl

theorem Held.grow {w w' : World} {tag tag' : Nat → Nat} {v : Value} {l : List Int} (h : Held w tag v l) (hb : Below w.heap.size w w') (ht : ∀ k, k < w.heap.size → tag' k = tag k) : Held w' tag' v l :=
  ⟨h.1.later hb, fun g hg => ⟨by rw [ht g (h.2 g hg).2]; exact (h.2 g hg).1, Nat.lt_of_lt_of_le (h.2 g hg).2 hb.size⟩⟩

theorem held0 {w : World} {v : Value} {l : List Int} (h : Bts w v l) (hl : l ≠ []) : Held w (fun _ => 0) v l := ⟨h, fun g hg => ⟨rfl, bts_lt h hl g hg⟩⟩

end Go.Proofs.Ytlgkndebhafliaa

namespace Go.Proofs.Ytlgkndebhafliaa
open Go.ChangeShapes Go.WideShapes Go.ChangeAt Go.RowKit

/-- A deed in numbers, with its slice. -/
structure De : Type where
  dO : Int
  vb : Value
  b : List Int

def deC (d : De) : List Value := [.int .i64 d.dO, d.vb]

structure De.Ok (w : World) (d : De) : Prop where
  bt : Bts w d.vb d.b
  o1 : -9223372036854775808 ≤ d.dO ∧ d.dO < 9223372036854775808

/-- A slice of deeds. -/
def Dees (w : World) (v : Value) (B O : Nat) (l : List De) : Prop :=
  ∃ (a : Option Addr) (cap : Nat), v = .slice a l.length cap ∧ l.length ≤ cap ∧ cap ≤ maxLen ∧ (a = some ⟨B, O, none⟩ ∨ l = []) ∧ ∀ i (h : i < l.length), l[i].Ok w ∧ w.rangeAt B (O + i * 2) (deC l[i])

def IsDees (w : World) (v : Value) : Prop := ∃ B O l, Dees w v B O l

theorem bts_of_read8 {H : Type} {enc : TypeId × Value → H} {P : Program} {w : World} {base : Nat} {held : Bool} {t e : TypeId} {fuel : Nat} {v : Value} {x : DataW H × List MemPlace}
    (ht : P.underlying t = some (.slice e)) (he : P.underlying e = some (.int .u8)) (hc : P.cellsOf e = 1)
    (h : DataW.trod enc P w base (fun _ => true) held fuel t [v] = some x) : ∃ l, Bts w v l := by
  rcases open_ints ht he hc h with ⟨hcs, _⟩ | ⟨a, len, cap, zs, hcs, _, hl, hm, hz, hx, hcell, hwz⟩
  · simp only [List.cons.injEq, and_true] at hcs
    subst hcs
    exact ⟨[], bts_nil w⟩
  · simp only [List.cons.injEq, and_true] at hcs
    subst hcs
    simp only [if_true] at hz
    have hlen : (zs.take len).length = len := by simp; omega
    refine ⟨zs.take len, ⟨some a, cap, a.block, a.off, by rw [hlen], by omega, hm, ?_, ?_, ?_⟩⟩
    · intro z hz'; exact byte_of_wf (hwz z (List.mem_of_mem_take hz'))
    · by_cases h0 : len = 0
      · right; subst h0; simp
      · left
        obtain ⟨b, off, spot⟩ := a
        have hs : spot = none := by simpa [Addr.add] using World.cell?_spot (hcell 0 (by omega))
        subst hs; rfl
    · intro i hi
      rw [hlen] at hi
      obtain ⟨b, off, spot⟩ := a
      have hs : spot = none := by simpa [Addr.add] using World.cell?_spot (hcell 0 (by omega))
      subst hs
      have hc := hcell i (by omega)
      rw [add_at] at hc
      rw [getD_take _ _ _ hi]
      exact hc

theorem cells38 : Try.prog.cellsOf 3 = 1 := by kernel_rfl

theorem cellsDe : Try.prog.cellsOf 51 = 2 := by kernel_rfl

theorem list2 {α : Type} {l : List α} (h : l.length = 2) : ∃ a b, l = [a, b] := by
  match l, h with
  | [a, b], _ => exact ⟨a, b, rfl⟩

section
variable {H : Type} {enc : TypeId × Value → H} {w : World} {base b0 : Nat} {held : Bool} {r : Reach} {v : Value} {d : DataW H} {ps : List MemPlace}

set_option maxRecDepth 100000 in
theorem dee_of {n : Nat} {cs : List Value} {x : DataW H × List MemPlace} (hf : DataW.trod enc Try.prog w base (fun _ => true) held n 51 cs = some x) : ∃ q : De, cs = deC q ∧ q.Ok w := by
  obtain ⟨xs, m, _, hx, hl, hlen, hfield⟩ := DataW.trod_struct Try.underlying51 hf
  rw [cellsDe] at hl
  obtain ⟨c0, c1, rfl⟩ := list2 hl
  obtain ⟨y0, y1, rfl⟩ := list2 hlen
  have t0 : DataW.trod enc Try.prog w base (fun _ => true) held m 3 [c0] = some y0 := by
    have := hfield 0 _ rfl
    simpa [cells38] using this
  have t1 : DataW.trod enc Try.prog w base (fun _ => true) held m 23 [c1] = some y1 := by
    have := hfield 1 _ rfl
    simpa [cells26] using this
  obtain ⟨z0, e0, _, w0⟩ := DataW.trod_int Try.underlying3 t0
  obtain ⟨l, hb⟩ := bts_of_read8 Try.underlying23 Try.underlying5 cells5 t1
  simp at e0
  subst e0
  exact ⟨⟨z0, c1, l⟩, rfl, hb, i64_of_wf w0⟩

theorem viewDe (hv : Value.okWide Try.prog w r b0 45 v) (h : DataW.Trod enc Try.prog w base (fun _ => true) held 45 v d ps) (_ : ∀ n ∈ d.weights Try.prog 45, n ≤ reachBytes) : IsDees w v := by
  obtain ⟨a0, len0, cap0, rfl⟩ := okWide_slice Try.underlying45 hv
  obtain ⟨fuel, hf⟩ := h
  rcases Go.Deep.open_slice Try.underlying45 hf with ⟨hcs, _⟩ | ⟨a, len, cap, m, n, D, Pl, hcs, _, hl, hm, hmm, _, hrow⟩
  · simp [Value.cells] at hcs
    obtain ⟨rfl, rfl, rfl⟩ := hcs
    exact ⟨0, 0, [], none, 0, rfl, by simp, by decide, .inr rfl, fun i hi => by simp at hi⟩
  · simp [Value.cells] at hcs
    obtain ⟨rfl, rfl, rfl⟩ := hcs
    simp only [if_true] at hmm
    subst hmm
    rw [cellsDe] at hrow
    obtain ⟨b, off, spot⟩ := a
    have hq : ∀ i, i < len0 → ∃ q : De, q.Ok w ∧ ∀ j, j < 2 → w.cell? (((⟨b, off, spot⟩ : Addr).add (i * 2)).add j) = (deC q)[j]? := by
      intro i hi
      obtain ⟨cs', h1, h2⟩ := hrow i (by omega)
      obtain ⟨q, rfl, hq⟩ := dee_of h2
      unfold World.cells? at h1
      split at h1
      case isFalse => cases h1
      exact ⟨q, hq, fun j hj => mapM_some_get h1 j j (by simp [hj])⟩
    have hspot : 0 < len0 → spot = none := fun h0 => by
      obtain ⟨q, _, hget⟩ := hq 0 h0
      have h0' := hget 0 (by omega)
      have h00 : (deC q)[0]? = some (.int .i64 q.dO) := rfl
      rw [h00] at h0'
      simpa [Addr.add] using World.cell?_spot h0'
    haveI : Inhabited De := ⟨⟨0, .slice none 0 0, []⟩⟩
    obtain ⟨f, hf'⟩ := Go.Deep.choose_lt (α := De) (n := len0) (p := fun i q => q.Ok w ∧ ∀ j, j < 2 → w.cell? (((⟨b, off, spot⟩ : Addr).add (i * 2)).add j) = (deC q)[j]?) hq
    refine ⟨b, off, (List.range len0).map f, _, _, by simp; rfl, by simpa using hl, hm, ?_, ?_⟩
    · by_cases h0 : len0 = 0
      · right; subst h0; simp
      · left; rw [hspot (by omega)]
    · intro i hi
      simp at hi
      obtain ⟨h1, h2⟩ := hf' i hi
      have hs := hspot (by omega)
      subst hs
      simp only [List.getElem_map, List.getElem_range]
      refine ⟨h1, fun j u hu => ?_⟩
      have hj : j < 2 := by
        have := (List.getElem?_eq_some_iff.1 hu).1
        simpa [deC] using this
      have := h2 j hj
      rw [Go.Deep.add_add, add_at, ← Nat.add_assoc] at this
      rw [this]; exact hu
end

theorem De.Ok.later {w w' : World} {d : De} (h : d.Ok w) (hb : Below w.heap.size w w') : d.Ok w' := ⟨h.bt.later hb, h.o1⟩

theorem Dees.later {w w' : World} {v : Value} {B O : Nat} {l : List De} (h : Dees w v B O l) (hb : Below w.heap.size w w') : Dees w' v B O l := by
  obtain ⟨a, cap, h1, h2, h3, h4, hd⟩ := h
  exact ⟨a, cap, h1, h2, h3, h4, fun i hi => ⟨(hd i hi).1.later hb, fun j u hu => cell_later hb ((hd i hi).2 j u hu)⟩⟩

theorem Dees.cell {w : World} {v : Value} {B O : Nat} {l : List De} (h : Dees w v B O l) (i : Nat) (hi : i < l.length) : w.cell? ⟨B, O + i * 2, none⟩ = some (.int .i64 l[i].dO) ∧ w.cell? ⟨B, O + i * 2 + 1, none⟩ = some l[i].vb := by
  obtain ⟨a, cap, _, _, _, _, hd⟩ := h
  have := (hd i hi).2
  exact ⟨by have := this 0 _ rfl; rwa [Nat.add_zero] at this, this 1 _ rfl⟩

theorem Dees.ok {w : World} {v : Value} {B O : Nat} {l : List De} (h : Dees w v B O l) (i : Nat) (hi : i < l.length) : l[i].Ok w := by
  obtain ⟨a, cap, _, _, _, _, hd⟩ := h
  exact (hd i hi).1

def sumD (l : List De) (k : Nat) : Nat := ((l.take k).map fun d => d.b.length).sum
def roomD (l : List De) : Bool := decide (l.length ≤ 200 ∧ (∀ d ∈ l, d.b.length ≤ 1000) ∧ sumD l l.length ≤ 20000)

theorem sumD_succ (l : List De) (k : Nat) (h : k < l.length) : sumD l (k + 1) = sumD l k + l[k].b.length := by
  unfold sumD
  rw [List.take_succ_eq_append_getElem h, List.map_append, List.sum_append]
  simp only [List.map_cons, List.map_nil, List.sum_cons, List.sum_nil, Nat.add_zero]

theorem sumD_le (l : List De) (k : Nat) (h : ∀ d ∈ l.take k, d.b.length ≤ 1000) : sumD l k ≤ 1000 * (l.take k).length := by
  unfold sumD
  generalize l.take k = m at *
  induction m with
  | nil => simp
  | cons d m ih =>
    have := ih (fun x hx => h x (by simp [hx]))
    have := h d (by simp)
    simp only [List.map_cons, List.sum_cons, List.length_cons]
    omega

set_option maxHeartbeats 1000000 in
theorem room8_ok (w : World) (v : Value) (B O : Nat) (l : List De) (h : Dees w v B O l) : Calls Try.prog 21 #[v] w fun e w' => e = .returned (.bool (roomD l)) ∧ w' = w := by
  have HD : Hid (Dees w v B O l) := h
  obtain ⟨a, cap, rfl, hl, hm, ha, _⟩ := h
  unfold maxLen at hm
  by_cases h300 : l.length ≤ 200
  · have h300I : ¬ (200 : Int) < (l.length : Int) := by omega
    go_enter Try.func21, Try.ntmps21
    go_wp2
    go_loop [3, 4] (fun n i => ∃ k : Nat, k ≤ l.length ∧ i = .int .i64 k ∧ n = .int .i64 (sumD l k) ∧ ∀ d ∈ l.take k, d.b.length ≤ 1000) (fun _ i => l.length - (intOf i).toNat)
    case atStart => exact ⟨0, Nat.zero_le _, rfl, by simp [sumD], by simp⟩
    case round =>
      obtain ⟨k, hk, rfl, rfl, hall⟩ := hrel
      have hsm := sumD_le l k hall
      have hsm2 : sumD l k ≤ 200000 := by
        have : (l.take k).length ≤ 200 := by simp; omega
        omega
      clear hsm
      by_cases hlt : k < l.length
      · have hltI : (k : Int) < (l.length : Int) := by omega
        rcases ha with rfl | hnil
        case inr => rw [hnil] at hlt; simp at hlt
        obtain ⟨_, c4⟩ := HD.out.cell k hlt
        obtain ⟨ba, bc, hvb, _, hbm, _⟩ := bts_src (HD.out.ok k hlt).bt
        rw [hvb] at c4
        unfold maxLen at hbm
        have HS : Hid (sumD l (k + 1) = sumD l k + l[k].b.length) := sumD_succ l k hlt
        have HA : Hid (∀ d ∈ l.take k, d.b.length ≤ 1000) := hall
        clear hall
        by_cases h1000 : l[k].b.length ≤ 1000
        · have h1I : ¬ (1000 : Int) < (l[k].b.length : Int) := by omega
          have HT : Hid (∀ d ∈ l.take (k + 1), d.b.length ≤ 1000) := by
            intro d hd
            rw [List.take_succ_eq_append_getElem hlt, List.mem_append, List.mem_singleton] at hd
            rcases hd with hd | rfl
            · exact HA.out d hd
            · exact h1000
          clear hvb
          generalize l[k].b.length = q at *
          go_wp2
          go_round
          case rel => exact ⟨k + 1, by omega, by go_num, by rw [HS.out]; go_num, HT.out⟩
          case measure => simp [intOf]; omega
        · have h1I : (1000 : Int) < (l[k].b.length : Int) := by omega
          have HR : Hid (roomD l = false) := by
            show _ = _
            unfold roomD
            rw [decide_eq_false_iff_not]
            rintro ⟨_, h2, _⟩
            have := h2 l[k] (List.getElem_mem hlt)
            omega
          go_wp2
          go_ret
          exact ⟨ret_bool HR.out.symm, rfl⟩
      · have hke : k = l.length := by omega
        subst hke
        have hall' : ∀ d ∈ l, d.b.length ≤ 1000 := by rwa [List.take_length] at hall
        have HR : Hid (roomD l = decide (sumD l l.length ≤ 20000)) := by
          show _ = _
          unfold roomD
          exact decide_eq_decide.2 ⟨fun h => h.2.2, fun h => ⟨h300, hall', h⟩⟩
        clear hall
        go_wp2
        go_ret
        exact ⟨ret_bool (by rw [HR.out]; simp; omega), rfl⟩
  · have h300I : (200 : Int) < (l.length : Int) := by omega
    have HR : Hid (roomD l = false) := by
      show _ = _
      unfold roomD
      rw [decide_eq_false_iff_not]
      rintro ⟨h1, _⟩
      omega
    go_enter Try.func21, Try.ntmps21
    go_wp2
    go_ret
    exact ⟨ret_bool HR.out.symm, rfl⟩

theorem room_few {l : List De} (h : roomD l = true) : l.length ≤ 200 ∧ (∀ d ∈ l, d.b.length ≤ 1000) ∧ sumD l l.length ≤ 20000 := of_decide_eq_true h

theorem sumD_mono (l : List De) (k : Nat) : sumD l k ≤ sumD l l.length := by
  unfold sumD
  rw [List.take_length]
  conv => rhs; rw [← List.take_append_drop k l]
  rw [List.map_append, List.sum_append]
  omega

end Go.Proofs.Ytlgkndebhafliaa

namespace Go.Proofs.Ytlgkndebhafliaa
open Go.RowKit

/-- Behind an append of one cell onto a row that is owner 3's. -/
theorem row_push {w : World} {tag : Nat → Nat} {base T : Nat} (hT : T / 16 = 3) {v : Value} {n : Nat} {xs : List Value} (hw : Win w 1 v n xs) (ht : ∀ g, v.ownBlock = some g → tag g = T ∧ base ≤ g) (hbase : base ≤ w.heap.size)
    (u : Value) (hu : u.oneCell' = true) (t e : TypeId) (i0 : TypeInfo) (z : Value) (by_ : Nat) (hte : Try.prog.underlying t = some (.slice e)) (hi : Try.prog.info? e = some i0) (hz : i0.zero = some z) (hs1 : i0.size = 1) (hby : i0.bytes = by_) (hby2 : by_ ≤ 64) (hzc : z.cells.size = 1) (hn : n + 1 ≤ 1000000) :
    ∃ v' w' tag', (Builtin.append_ #[t, t] t #[v, .slice (some ⟨w.heap.size, 0, none⟩) 1 1]).run Try.prog (w.alloc (.cells #[u] e)) = .ok v' w' ∧ Win w' 1 v' (n + 1) (xs ++ [u]) ∧ (∀ g, v'.ownBlock = some g → tag' g = T ∧ base ≤ g) ∧
      Step tag tag' base 3 w w' ∧ (∀ g, g < w.heap.size → tag g ≠ T → w'.heap[g]? = w.heap[g]?) := by
  have hB := below_alloc w (.cells #[u] e)
  have hsz : (w.alloc (.cells #[u] e)).heap.size = w.heap.size + 1 := World.size_alloc _ _
  obtain ⟨v', w', hr, hw', hg, hat⟩ := win_append (P := Try.prog) (w.alloc (.cells #[u] e)) t t e i0 z 1 by_ hte hi hz hs1 hby hzc (by decide) v n xs (hw.later hB)
    (some ⟨w.heap.size, 0, none⟩) 1 1 [u] rfl (.inl ⟨_, rfl, news_new w #[u] e⟩) (by intro u' hu'; simp at hu'; subst hu'; exact hu) (by unfold maxLen; omega) (by
      have : (n + 1) * by_ ≤ 1000000 * 64 := Nat.mul_le_mul hn hby2
      omega)
  obtain ⟨hst, htg⟩ := step_grown (tag := tag) (o := 3) hg hat ht hT (base := base) (by omega)
  refine ⟨v', w', retag tag v' T, hr, hw', htg, (step_below tag base 3 hbase hB).trans hst, fun g hlt hne => ?_⟩
  rw [hg.block g (by omega) (fun e' => hne (ht g e'.symm).1), hB.block g hlt]

/-- A window's cell is set. -/
theorem win_set {w : World} {B O n c : Nat} {xs : List Value} (h : Win w 1 (.slice (some ⟨B, O, none⟩) n c) n xs) (j : Nat) (hj : j < n) (u : Value) : Win (w.setCell ⟨B, O + j, none⟩ u) 1 (.slice (some ⟨B, O, none⟩) n c) n (xs.set j u) := by
  rcases h.2 with ⟨h0, _⟩ | ⟨B', O', c', cs, e, hb, h2, h3, h4, h5⟩
  · cases h0
  · simp only [Value.slice.injEq, Option.some.injEq, Addr.mk.injEq, and_true, true_and] at e
    obtain ⟨⟨rfl, rfl⟩, rfl⟩ := e
    refine ⟨by rw [List.length_set]; exact h.1, .inr ⟨B, O, c, _, rfl, hb.set (O + j) u, h2, h3, by rw [List.length_set]; exact h4, ?_⟩⟩
    rw [← h5]
    apply List.ext_getElem?
    intro i
    rw [List.getElem?_take, List.getElem?_set, List.getElem?_take]
    by_cases hi : i < n * 1
    · rw [if_pos hi, if_pos hi, List.getElem?_drop, List.getElem?_set, List.getElem?_drop]
      by_cases e : j = i
      · subst e
        rw [if_pos rfl, if_pos rfl, if_pos (by omega), if_pos (by rw [List.length_take, List.length_drop]; omega)]
      · rw [if_neg (by omega), if_neg e]
    · rw [if_neg hi, if_neg hi]
      split
      · rename_i e
        subst e
        omega
      · rfl

theorem win_bool {w : World} {v : Value} {n : Nat} {l : List Bool} (h : Win w 1 v n (l.map Value.bool)) (hne : 0 < n) : ∃ B O c, v = .slice (some ⟨B, O, none⟩) n c ∧ n ≤ c ∧ c ≤ maxLen ∧ (∀ i, i < n → w.cell? ⟨B, O + i, none⟩ = some (.bool (l.getD i false))) ∧ ∀ i, i < n → w.frozen? ⟨B, O + i, none⟩ = false := by
  obtain ⟨B, O, c, e, h1, h2, h3⟩ := win_read h hne
  have hl : l.length = n := by have := h.1; simpa using this
  refine ⟨B, O, c, e, h1, h2, fun i hi => ?_, fun i hi => ?_⟩
  · rw [h3 i hi]; simp [List.getD, List.getElem?_eq_getElem (show i < l.length by omega)]
  · rcases h.2 with ⟨h0, h0'⟩ | ⟨B', O', c', cs, e', hb, _⟩
    · omega
    · rw [e] at e'
      simp only [Value.slice.injEq, Option.some.injEq, Addr.mk.injEq, and_true, true_and] at e'
      obtain ⟨⟨rfl, rfl⟩, rfl⟩ := e'
      exact hb.frozen _

/-- The disk (owner 1), the strand (owner 2), the rows (owner 3). -/
structure SwI (w0 : World) (D S : Nat) (s : St) (t : Sd) (bs : List (List Int)) (fs us : List Bool) (v9 v10 v11 : Value) (wr : World) (p : PL) (q : SL) (tag : Nat → Nat) (vs : List Value) : Prop where
  pd : PD wr tag w0.heap.size 1 s p
  po : PO wr tag w0.heap.size 2 D t q
  hD : p.D = D
  hS : q.S = S
  w9 : Win wr 1 v9 bs.length vs
  w10 : Win wr 1 v10 fs.length (fs.map Value.bool)
  w11 : Win wr 1 v11 us.length (us.map Value.bool)
  bt : ∀ i, i < bs.length → Bts w0 (vs.getD i undef) (bs.getD i [])
  t9 : ∀ g, v9.ownBlock = some g → tag g = 49 ∧ w0.heap.size ≤ g
  t10 : ∀ g, v10.ownBlock = some g → tag g = 50 ∧ w0.heap.size ≤ g
  t11 : ∀ g, v11.ownBlock = some g → tag g = 51 ∧ w0.heap.size ≤ g
  z : ∀ j, j < w0.heap.size → tag j = 0
  below : Below w0.heap.size w0 wr

section
variable {w0 : World} {D S : Nat} {s : St} {t : Sd} {bs : List (List Int)} {fs us : List Bool} {v9 v10 v11 : Value} {wr : World} {p : PL} {q : SL} {tag : Nat → Nat} {vs : List Value}

theorem win_keep {w w' : World} {tag tag' : Nat → Nat} {T base n : Nat} {v : Value} {xs : List Value} (h : Win w 1 v n xs) (ht : ∀ g, v.ownBlock = some g → tag g = T ∧ base ≤ g) (hk : ∀ g, g < w.heap.size → tag g = T → w'.heap[g]? = w.heap[g]?) (hT : ∀ g, g < w.heap.size → tag' g = tag g) :
    Win w' 1 v n xs ∧ ∀ g, v.ownBlock = some g → tag' g = T ∧ base ≤ g :=
  ⟨h.same (fun g hg => hk g (h.lt g hg) (ht g hg).1), fun g hg => ⟨by rw [hT g (h.lt g hg)]; exact (ht g hg).1, (ht g hg).2⟩⟩

/-- The disk and the strand go on. -/
theorem SwI.step2 (h : SwI w0 D S s t bs fs us v9 v10 v11 wr p q tag vs) {s' : St} {t' : Sd} {w' : World} {p' : PL} {q' : SL} {tag' : Nat → Nat} (hst : Step2 tag tag' w0.heap.size 1 2 wr w') (hp : PD w' tag' w0.heap.size 1 s' p') (hq : PO w' tag' w0.heap.size 2 D t' q') (hD : p'.D = D) (hS : q'.S = S) :
    SwI w0 D S s' t' bs fs us v9 v10 v11 w' p' q' tag' vs := by
  have k : ∀ T, T / 16 = 3 → ∀ g, g < wr.heap.size → tag g = T → w'.heap[g]? = wr.heap[g]? := fun T hT g hg ht => hst.kept g hg (by omega) (by omega)
  have a9 := win_keep h.w9 h.t9 (k 49 rfl) hst.tags
  have a10 := win_keep h.w10 h.t10 (k 50 rfl) hst.tags
  have a11 := win_keep h.w11 h.t11 (k 51 rfl) hst.tags
  exact ⟨hp, hq, hD, hS, a9.1, a10.1, a11.1, h.bt, a9.2, a10.2, a11.2, fun j hj => by rw [hst.tags j (Nat.lt_of_lt_of_le hj h.below.size)]; exact h.z j hj, h.below.trans hst.below⟩

theorem SwI.later (h : SwI w0 D S s t bs fs us v9 v10 v11 wr p q tag vs) {w' : World} (hb : Below wr.heap.size wr w') : SwI w0 D S s t bs fs us v9 v10 v11 w' p q tag vs :=
  ⟨h.pd.later hb, h.po.later hb, h.hD, h.hS, h.w9.later hb, h.w10.later hb, h.w11.later hb, h.bt, h.t9, h.t10, h.t11, h.z, h.below.trans (hb.mono h.below.size)⟩

theorem SwI.push9 (h : SwI w0 D S s t bs fs us v9 v10 v11 wr p q tag vs) (u : Value) (b : List Int) (hu : Bts w0 u b) (hn : bs.length + 1 ≤ 1000000) :
    ∃ v' w' tag', (Builtin.append_ #[40, 40] 40 #[v9, .slice (some ⟨wr.heap.size, 0, none⟩) 1 1]).run Try.prog (wr.alloc (.cells #[u] 23)) = .ok v' w' ∧ SwI w0 D S s t (bs ++ [b]) fs us v' v10 v11 w' p q tag' (vs ++ [u]) := by
  obtain ⟨i0, hi, hz0, hz1, hz2⟩ := info_parts infoB
  obtain ⟨v', w', tag', hr, hw, ht, hst, hk⟩ := row_push (T := 49) rfl h.w9 h.t9 h.below.size u (one_of_bts hu) 40 23 i0 (.slice none 0 0) 24 Try.underlying40 hi hz0 hz1 hz2 (by decide) rfl hn
  have hvl : vs.length = bs.length := by have := h.w9.1; omega
  have a10 := win_keep h.w10 h.t10 (fun g hg e => hk g hg (by omega)) hst.tags
  have a11 := win_keep h.w11 h.t11 (fun g hg e => hk g hg (by omega)) hst.tags
  refine ⟨v', w', tag', hr, h.pd.other hst (by omega), h.po.other hst (by omega), h.hD, h.hS, by rw [List.length_append]; exact hw, a10.1, a11.1, ?_, ht, a10.2, a11.2, fun j hj => by rw [hst.tags j (Nat.lt_of_lt_of_le hj h.below.size)]; exact h.z j hj, h.below.trans hst.below⟩
  intro i hi
  rw [List.length_append, List.length_singleton] at hi
  by_cases hil : i < bs.length
  · rw [getD_snoc_lt _ _ _ _ (by omega), getD_snoc_lt _ _ _ _ hil]; exact h.bt i hil
  · have : i = bs.length := by omega
    subst this
    rw [getD_snoc_eq, ← hvl, getD_snoc_eq]; exact hu

theorem SwI.push10 (h : SwI w0 D S s t bs fs us v9 v10 v11 wr p q tag vs) (b : Bool) (hn : fs.length + 1 ≤ 1000000) :
    ∃ v' w' tag', (Builtin.append_ #[60, 60] 60 #[v10, .slice (some ⟨wr.heap.size, 0, none⟩) 1 1]).run Try.prog (wr.alloc (.cells #[.bool b] 4)) = .ok v' w' ∧ SwI w0 D S s t bs (fs ++ [b]) us v9 v' v11 w' p q tag' vs := by
  obtain ⟨i0, hi, hz0, hz1, hz2⟩ := info_parts infoBool
  obtain ⟨v', w', tag', hr, hw, ht, hst, hk⟩ := row_push (T := 50) rfl h.w10 h.t10 h.below.size (.bool b) rfl 60 4 i0 (.bool false) 1 Try.underlying60 hi hz0 hz1 hz2 (by decide) rfl hn
  have a9 := win_keep h.w9 h.t9 (fun g hg e => hk g hg (by omega)) hst.tags
  have a11 := win_keep h.w11 h.t11 (fun g hg e => hk g hg (by omega)) hst.tags
  exact ⟨v', w', tag', hr, h.pd.other hst (by omega), h.po.other hst (by omega), h.hD, h.hS, a9.1, by rw [List.length_append, List.map_append]; exact hw, a11.1, h.bt, a9.2, ht, a11.2, fun j hj => by rw [hst.tags j (Nat.lt_of_lt_of_le hj h.below.size)]; exact h.z j hj, h.below.trans hst.below⟩

theorem SwI.push11 (h : SwI w0 D S s t bs fs us v9 v10 v11 wr p q tag vs) (b : Bool) (hn : us.length + 1 ≤ 1000000) :
    ∃ v' w' tag', (Builtin.append_ #[60, 60] 60 #[v11, .slice (some ⟨wr.heap.size, 0, none⟩) 1 1]).run Try.prog (wr.alloc (.cells #[.bool b] 4)) = .ok v' w' ∧ SwI w0 D S s t bs fs (us ++ [b]) v9 v10 v' w' p q tag' vs := by
  obtain ⟨i0, hi, hz0, hz1, hz2⟩ := info_parts infoBool
  obtain ⟨v', w', tag', hr, hw, ht, hst, hk⟩ := row_push (T := 51) rfl h.w11 h.t11 h.below.size (.bool b) rfl 60 4 i0 (.bool false) 1 Try.underlying60 hi hz0 hz1 hz2 (by decide) rfl hn
  have a9 := win_keep h.w9 h.t9 (fun g hg e => hk g hg (by omega)) hst.tags
  have a10 := win_keep h.w10 h.t10 (fun g hg e => hk g hg (by omega)) hst.tags
  exact ⟨v', w', tag', hr, h.pd.other hst (by omega), h.po.other hst (by omega), h.hD, h.hS, a9.1, a10.1, by rw [List.length_append, List.map_append]; exact hw, h.bt, a9.2, a10.2, ht, fun j hj => by rw [hst.tags j (Nat.lt_of_lt_of_le hj h.below.size)]; exact h.z j hj, h.below.trans hst.below⟩

theorem SwI.set11 {B O n c : Nat} (h : SwI w0 D S s t bs fs us v9 v10 (.slice (some ⟨B, O, none⟩) n c) wr p q tag vs) (hn : us.length = n) (j : Nat) (hj : j < n) (b : Bool) :
    SwI w0 D S s t bs fs (us.set j b) v9 v10 (.slice (some ⟨B, O, none⟩) n c) (wr.setCell ⟨B, O + j, none⟩ (.bool b)) p q tag vs := by
  have hB := h.t11 B rfl
  have hst : Step tag tag w0.heap.size 3 wr (wr.setCell ⟨B, O + j, none⟩ (.bool b)) := step_set tag w0.heap.size 3 wr hB.2 (by rw [hB.1]) (O + j) (.bool b)
  have hk : ∀ T, T ≠ 51 → ∀ g, g < wr.heap.size → tag g = T → (wr.setCell ⟨B, O + j, none⟩ (.bool b)).heap[g]? = wr.heap[g]? := fun T hT g _ ht => heap_setCell_other wr ⟨B, O + j, none⟩ g _ (fun e => hT (by rw [← ht, e]; exact hB.1))
  have a9 := win_keep h.w9 h.t9 (hk 49 (by decide)) (fun _ _ => rfl)
  have a10 := win_keep h.w10 h.t10 (hk 50 (by decide)) (fun _ _ => rfl)
  have hw := h.w11
  rw [hn] at hw
  have a11 := win_set hw j hj (.bool b)
  exact ⟨h.pd.other hst (by omega), h.po.other hst (by omega), h.hD, h.hS, a9.1, a10.1, by rw [List.length_set, hn, List.map_set]; exact a11, h.bt, h.t9, h.t10, h.t11, h.z, h.below.trans hst.below⟩

end

/-- The same, of what lies where nothing said. -/
def Sw (w0 : World) (D S : Nat) (s : St) (t : Sd) (bs : List (List Int)) (fs us : List Bool) (v9 v10 v11 : Value) (wr : World) : Prop := ∃ p q tag vs, SwI w0 D S s t bs fs us v9 v10 v11 wr p q tag vs

theorem mix_step (fs us : List Bool) (j : Nat) (h : fs.length = us.length) (hj : j < us.length) : (fs.take j ++ us.drop j).set j (fs.getD j false) = fs.take (j + 1) ++ us.drop (j + 1) := by
  rw [List.set_append_right _ _ (by rw [List.length_take]; omega), List.length_take, Nat.min_eq_left (by omega), Nat.sub_self, List.take_succ_eq_append_getElem (by omega), List.append_assoc]
  congr 1
  rw [List.drop_eq_getElem_cons hj, List.set_cons_zero]
  simp [List.getD, List.getElem?_eq_getElem (show j < fs.length by omega)]

end Go.Proofs.Ytlgkndebhafliaa

namespace Go.Proofs.Ytlgkndebhafliaa
open Go.RowKit
attribute [local go_sem ↓] Go.wp_at_zero Go.wp_at_succ

set_option maxHeartbeats 8000000 in
theorem between_ok (w : World) (v1 v2 v3 : Value) (vs1 vs2 : List Value) (hs : List (List Int)) (R : List Tr) (H1 : Lsx w v1 vs1 hs) (H2 : Lsx w v2 vs2 (R.map Tr.b)) (H3 : Win w 1 v3 R.length (R.map fun x => Value.bool x.su)) (hl1 : hs.length ≤ 1000000) (hl2 : R.length ≤ 1000000) (hB : Btw hs R) :
    Calls Try.prog 31 #[v1, v2, v3] w fun e w' => e = .returned (.bool true) ∧ Below w.heap.size w w' := by
  obtain ⟨i0, hi, hz0, hz1, hz2⟩ := info_parts infoBool
  have K1 : Hid (Lsx w v1 vs1 hs) := H1
  have K2 : Hid (Lsx w v2 vs2 (R.map Tr.b)) := H2
  have K3 : Hid (Win w 1 v3 R.length (R.map fun x => Value.bool x.su)) := H3
  have KB : Hid (Btw hs R) := hB
  obtain ⟨a1, c1, rfl⟩ := win_shape H1.win
  obtain ⟨a2, c2, rfl⟩ := win_shape H2.win
  obtain ⟨a3, c3, rfl⟩ := win_shape H3
  rw [List.length_map] at K2 ⊢
  clear H1 H2 H3 hB
  have hl1I : (hs.length : Int) ≤ 1000000 := by omega
  go_enter Try.func31, Try.ntmps31
  have m0 : Blk (w.alloc (.cells (madeCells #[Value.bool false] (hs.length + 1)) 4)) w.heap.size ((List.replicate (hs.length + 1) false).map Value.bool) := made_blk w (hs.length + 1)
  have n0 := bool_cell m0 0 (by simp)
  have f0 := m0.frozen 0
  clear m0
  have S0 : Hid (Blk (w.alloc (.cells ((madeCells #[Value.bool false] (hs.length + 1)).setIfInBounds 0 (.bool true)) 4)) w.heap.size (((List.replicate (hs.length + 1) false).set 0 true).map Value.bool)) := by
    have := blk_new w ((madeCells #[Value.bool false] (hs.length + 1)).setIfInBounds 0 (.bool true)) 4
    rwa [Array.toList_setIfInBounds, toList_madeCells_one, ← List.map_replicate (f := Value.bool), ← List.map_set] at this
  go_wp2_with (at_make; refine wpList_make_row _ rfl _ _ 60 rfl 4 i0 (.bool false) Try.underlying60 hi hz0 hz1 rfl .i64 .i64 (hs.length + 1) rfl rfl (by rw [hz2]; omega) (by omega) ?_)
  go_loopg [7, 8] R.length (fun gk v i wr => ∃ (j g : Nat) (C : List Bool), j + gk = R.length ∧ i = .int .i64 j ∧ v = .slice (some ⟨g, 0, none⟩) (hs.length + 1) (hs.length + 1) ∧ C.length = hs.length + 1 ∧ Blk wr g (C.map Value.bool) ∧ w.heap.size ≤ g ∧ Can hs R j C ∧ Below w.heap.size w wr)
  case atStart => exact ⟨0, w.heap.size, _, by omega, rfl, rfl, by simp, S0.out, Nat.le_refl _, can_start hs R _ (by simp), below_alloc _ _⟩
  case round =>
    obtain ⟨w0, rfl⟩ : ∃ w0, w0 = wr := ⟨wr, rfl⟩
    obtain ⟨j, g, C, hj, rfl, rfl, hCl, hC, hg, hcan, hBel⟩ := hrel
    by_cases hlt : j < R.length
    case neg =>
      have hge : ¬ (j : Int) < (R.length : Int) := by omega
      have hfin : C.getD hs.length false = true := hcan hs.length (Nat.le_refl _) (by rw [List.take_length, List.take_of_length_le (by omega)]; exact KB.out)
      have r1 := bool_cell hC hs.length (by omega)
      rw [hfin] at r1
      clear hC hcan hfin
      go_wp2
      go_ret
      exact ⟨rfl, hBel⟩
    have hltI : (j : Int) < (R.length : Int) := by omega
    obtain ⟨x, hx⟩ : ∃ x, R[j]? = some x := ⟨R[j], List.getElem?_eq_getElem hlt⟩
    have HX : Hid (R[j]? = some x) := hx
    have hxb : Hid ((R.map Tr.b).getD j [] = x.b) := by show _ = _; simp [List.getD, hx]
    have hxs : Hid ((R.map fun y => Value.bool y.su).getD j undef = .bool x.su) := by show _ = _; simp [List.getD, hx]
    clear hx
    have HCan : Hid (Can hs R j C) := hcan
    have hG : Hid (w.heap.size ≤ w0.heap.size) := hBel.size
    have hglt := hC.lt
    have hgne : Hid (g ≠ w0.heap.size) := Nat.ne_of_lt hglt
    have M0 : Hid (Blk (w0.alloc (.cells (madeCells #[Value.bool false] (hs.length + 1)) 4)) w0.heap.size ((List.replicate (hs.length + 1) false).map Value.bool)) := made_blk w0 (hs.length + 1)
    have C0 : Hid (Blk (w0.alloc (.cells (madeCells #[Value.bool false] (hs.length + 1)) 4)) g (C.map Value.bool)) := hC.later (below_alloc w0 _)
    have B0 : Hid (Below w.heap.size w (w0.alloc (.cells (madeCells #[Value.bool false] (hs.length + 1)) 4))) := hBel.trans ((below_alloc w0 _).mono hBel.size)
    have HCl : Hid (C.length = hs.length + 1) := hCl
    clear hcan hC hCl hBel hglt
    go_wp2_with (at_make; refine wpList_make_row _ rfl _ _ 60 rfl 4 i0 (.bool false) Try.underlying60 hi hz0 hz1 rfl .i64 .i64 (hs.length + 1) rfl rfl (by rw [hz2]; omega) (by omega) ?_)
    go_loopg [10] (hs.length + 1) (fun gk i wr2 => ∃ (k : Nat) (N : List Bool), k + gk = hs.length + 1 ∧ i = .int .i64 k ∧ N.length = hs.length + 1 ∧ Blk wr2 w0.heap.size (N.map Value.bool) ∧ Blk wr2 g (C.map Value.bool) ∧ Nxb hs x C N k ∧ Below w.heap.size w wr2)
    case atStart => exact ⟨0, _, by omega, rfl, by simp, M0.out, C0.out, Nxb.zero _ _ _ _, B0.out⟩
    case round =>
      obtain ⟨k, N, hk, rfl, hNl, hM, hC, hNx0, hBel⟩ := hrel
      have hNx : Hid (Nxb hs x C N k) := hNx0
      clear hNx0
      by_cases hkle : k ≤ hs.length
      case neg =>
        have hkI : ¬ (k : Int) ≤ (hs.length : Int) := by omega
        have HY : Hid (Can hs R (j + 1) N) := can_step HCan.out HX.out (fun m hm => hNx.out.a m (by omega) hm) (fun m hm => hNx.out.b m (by omega) hm)
        go_wp2
        go_roundg (R.length - (j + 1))
        case rel => exact ⟨j + 1, w0.heap.size, N, by omega, by go_num, rfl, hNl, hM, hG.out, HY.out, hBel⟩
        case measure => omega
      have hkI : (k : Int) ≤ (hs.length : Int) := by omega
      have r0 := bool_cell hC k (by rw [HCl.out]; omega)
      by_cases hck : C.getD k false = true
      case neg =>
        have hck' : C.getD k false = false := by simpa using hck
        rw [hck'] at r0
        have HY : Hid (Nxb hs x C N (k + 1)) := hNx.out.no hck'
        have HM : Hid (Blk wr w0.heap.size (N.map Value.bool)) := hM
        have HC : Hid (Blk wr g (C.map Value.bool)) := hC
        clear hM hC hck hck'
        go_wp2
        go_roundg (hs.length + 1 - (k + 1))
        case rel => exact ⟨k + 1, N, by omega, by go_num, hNl, HM.out, HC.out, HY.out, hBel⟩
        case measure => omega
      rw [hck] at r0
      obtain ⟨B3, O3, d3, e3, s1, s2, s3⟩ := win_read (K3.out.later hBel) (by omega)
      injection e3 with e3a _ e3c
      subst e3a; subst e3c
      unfold maxLen at s2
      have u0 := s3 j hlt
      rw [hxs.out] at u0
      clear s3
      cases hsu : x.su with
      | true =>
        rw [hsu] at u0
        obtain ⟨N1, hN1⟩ : ∃ N1, N1 = N := ⟨_, rfl⟩
        obtain ⟨W1, hW1⟩ : ∃ W1, W1 = wr := ⟨_, rfl⟩
        have hN1l : Hid (N1.length = hs.length + 1) := by show _ = _; rw [hN1]; exact hNl
        have hM1 : Hid (Blk W1 w0.heap.size (N1.map Value.bool)) := by show Blk _ _ _; rw [hN1, hW1]; exact hM
        have hC1 : Hid (Blk W1 g (C.map Value.bool)) := by show Blk _ _ _; rw [hW1]; exact hC
        have hBel1 : Hid (Below w.heap.size w W1) := by show Below _ _ _; rw [hW1]; exact hBel
        have hUp : Hid (∀ m, N.getD m false = true → N1.getD m false = true) := by show ∀ m, _; rw [hN1]; exact fun m h => h
        have hOne : Hid (x.su = false → N1.getD k false = true) := fun h => by rw [hsu] at h; cases h
        clear hM hC hBel hN1 hck hsu
        rw [← hW1] at r0 u0 ⊢
        clear hW1
        go_wp2_with fail
        by_cases hkl : k < hs.length
        case neg =>
          have hd : decide ((k : Int) < (hs.length : Int)) = false := by simpa using hkl
          have hdI : ¬ (k : Int) < (hs.length : Int) := by omega
          have HY : Hid (Nxb hs x C N1 (k + 1)) := hNx.out.yes hUp.out hOne.out (fun h => absurd h hkl)
          go_quiet (fail)
          rename_i nq
          go_wp2
          go_roundg (hs.length + 1 - (k + 1))
          case rel => exact ⟨k + 1, N1, by omega, by go_num, hN1l.out, (hM1.out.later (below_drewN W1 nq)), (hC1.out.later (below_drewN W1 nq)), HY.out, hBel1.out.trans ((below_drewN W1 nq).mono hBel1.out.size)⟩
          case measure => omega
        have hklI : (k : Int) < (hs.length : Int) := by omega
        obtain ⟨B1, O1, d1, e1, g1, g2, g3⟩ := win_read (K1.out.later hBel1.out).win (by omega)
        obtain ⟨B2, O2, d2, e2, f1, f2, f3⟩ := win_read (K2.out.later hBel1.out).win (by rw [List.length_map]; omega)
        rw [List.length_map] at e2 f1
        injection e1 with e1a _ e1c
        injection e2 with e2a _ e2c
        subst e1a; subst e1c; subst e2a; subst e2c
        unfold maxLen at g2 f2
        have q1 := g3 k hkl
        have q2 := f3 j (by rw [List.length_map]; exact hlt)
        have hb1 := (K1.out.later hBel1.out).bts k hkl
        have hb2 := (K2.out.later hBel1.out).bts j (by rw [List.length_map]; exact hlt)
        rw [hxb.out] at hb2
        have HS : ∀ n, Calls Try.prog 15 #[vs1.getD k undef, vs2.getD j undef] (W1.drewN n) fun e w' => e = .returned (.bool (sameB (hs.getD k []) x.b)) ∧ ∃ nq', w' = (W1.drewN n).drewN nq' := fun n => same_one (W1.drewN n) _ _ _ _ (hb1.later (below_drewN W1 n)) (hb2.later (below_drewN W1 n))
        obtain ⟨z1, z2, hz, _⟩ := bts_src hb1
        obtain ⟨y1, y2, hy, _⟩ := bts_src hb2
        rw [hz] at q1 HS
        rw [hy] at q2 HS
        have hd : decide ((k : Int) < (hs.length : Int)) = true := by simpa using hkl
        clear hz hy hb1 hb2 g3 f3 f1 g1
        have hsmb : Hid (∀ b : Bool, sameB (hs.getD k []) x.b = b → (b = true ↔ hs.getD k [] = x.b)) := by intro b hb; subst hb; unfold sameB; simp
        generalize (hs.getD k []).length = L1 at *
        generalize x.b.length = L2 at *
        generalize hsm : sameB (hs.getD k []) x.b = sm at *
        have HSM : Hid (sm = true ↔ hs.getD k [] = x.b) := hsmb.out sm rfl
        clear hsm hsmb
        go_quiet ((go_at_call 15; refine Calls.quiet_of (HS _)))
        rename_i nq
        clear HS q1 q2
        have hB2 := below_drewN W1 nq
        have hM2 := hM1.out.later hB2
        have hC2 := hC1.out.later hB2
        have hBel2 := hBel1.out.trans (hB2.mono hBel1.out.size)
        generalize W1.drewN nq = W2 at *
        clear hB2
        cases sm with
        | false =>
          have HY : Hid (Nxb hs x C N1 (k + 1)) := hNx.out.yes hUp.out hOne.out (fun _ h => by have := HSM.out.2 h; cases this)
          go_wp2
          go_roundg (hs.length + 1 - (k + 1))
          case rel => exact ⟨k + 1, N1, by omega, by go_num, hN1l.out, hM2, hC2, HY.out, hBel2⟩
          case measure => omega
        | true =>
          have HY : Hid (Nxb hs x C (N1.set (k + 1) true) (k + 1)) := hNx.out.yes (fun m hm => set_up _ _ _ (hUp.out m hm)) (fun h => set_up _ _ _ (hOne.out h)) (fun _ _ => by rw [set_getD _ _ _ (by rw [hN1l.out]; omega), if_pos rfl])
          have r1 := bool_cell hM2 (k + 1) (by rw [hN1l.out]; omega)
          have r2 := hM2.frozen (k + 1)
          have HM3 : Hid (Blk (W2.setCell ⟨w0.heap.size, k + 1, none⟩ (.bool true)) w0.heap.size ((N1.set (k + 1) true).map Value.bool)) := bool_set hM2 (k + 1) true
          have HC3 : Hid (Blk (W2.setCell ⟨w0.heap.size, k + 1, none⟩ (.bool true)) g (C.map Value.bool)) := hC2.same (heap_setCell_other _ _ _ _ hgne.out)
          have HB3 : Hid (Below w.heap.size w (W2.setCell ⟨w0.heap.size, k + 1, none⟩ (.bool true))) := hBel2.setCell hG.out _
          generalize N1.getD (k + 1) false = old at *
          clear hM2 hC2 hBel2
          go_wp2
          go_roundg (hs.length + 1 - (k + 1))
          case rel => exact ⟨k + 1, N1.set (k + 1) true, by omega, by go_num, by rw [List.length_set]; exact hN1l.out, HM3.out, HC3.out, HY.out, HB3.out⟩
          case measure => omega
      | false =>
        rw [hsu] at u0
        have y1 := bool_cell hM k (by rw [hNl]; omega)
        have y2 := hM.frozen k
        obtain ⟨N1, hN1⟩ : ∃ N1, N1 = N.set k true := ⟨_, rfl⟩
        obtain ⟨W1, hW1⟩ : ∃ W1, W1 = wr.setCell ⟨w0.heap.size, k, none⟩ (.bool true) := ⟨_, rfl⟩
        have hN1l : Hid (N1.length = hs.length + 1) := by show _ = _; rw [hN1, List.length_set]; exact hNl
        have hM1 : Hid (Blk W1 w0.heap.size (N1.map Value.bool)) := by show Blk _ _ _; rw [hN1, hW1]; exact bool_set hM k true
        have hC1 : Hid (Blk W1 g (C.map Value.bool)) := by show Blk _ _ _; rw [hW1]; exact hC.same (heap_setCell_other _ _ _ _ hgne.out)
        have hBel1 : Hid (Below w.heap.size w W1) := by show Below _ _ _; rw [hW1]; exact hBel.setCell hG.out _
        have hUp : Hid (∀ m, N.getD m false = true → N1.getD m false = true) := by show ∀ m, _; rw [hN1]; exact fun m h => set_up _ _ _ h
        have hOne : Hid (x.su = false → N1.getD k false = true) := fun _ => by rw [hN1, set_getD _ _ _ (by rw [hNl]; omega), if_pos rfl]
        have hWx : Hid (W1 = wr.setCell ⟨w0.heap.size, k, none⟩ (.bool true)) := hW1
        generalize N.getD k false = old0 at *
        clear hM hC hBel hN1 hck hsu hW1
        go_wp2_with fail
        rw [← hWx.out]
        clear r0 u0 y1 y2
        by_cases hkl : k < hs.length
        case neg =>
          have hd : decide ((k : Int) < (hs.length : Int)) = false := by simpa using hkl
          have hdI : ¬ (k : Int) < (hs.length : Int) := by omega
          have HY : Hid (Nxb hs x C N1 (k + 1)) := hNx.out.yes hUp.out hOne.out (fun h => absurd h hkl)
          go_quiet (fail)
          rename_i nq
          go_wp2
          go_roundg (hs.length + 1 - (k + 1))
          case rel => exact ⟨k + 1, N1, by omega, by go_num, hN1l.out, (hM1.out.later (below_drewN W1 nq)), (hC1.out.later (below_drewN W1 nq)), HY.out, hBel1.out.trans ((below_drewN W1 nq).mono hBel1.out.size)⟩
          case measure => omega
        have hklI : (k : Int) < (hs.length : Int) := by omega
        obtain ⟨B1, O1, d1, e1, g1, g2, g3⟩ := win_read (K1.out.later hBel1.out).win (by omega)
        obtain ⟨B2, O2, d2, e2, f1, f2, f3⟩ := win_read (K2.out.later hBel1.out).win (by rw [List.length_map]; omega)
        rw [List.length_map] at e2 f1
        injection e1 with e1a _ e1c
        injection e2 with e2a _ e2c
        subst e1a; subst e1c; subst e2a; subst e2c
        unfold maxLen at g2 f2
        have q1 := g3 k hkl
        have q2 := f3 j (by rw [List.length_map]; exact hlt)
        have hb1 := (K1.out.later hBel1.out).bts k hkl
        have hb2 := (K2.out.later hBel1.out).bts j (by rw [List.length_map]; exact hlt)
        rw [hxb.out] at hb2
        have HS : ∀ n, Calls Try.prog 15 #[vs1.getD k undef, vs2.getD j undef] (W1.drewN n) fun e w' => e = .returned (.bool (sameB (hs.getD k []) x.b)) ∧ ∃ nq', w' = (W1.drewN n).drewN nq' := fun n => same_one (W1.drewN n) _ _ _ _ (hb1.later (below_drewN W1 n)) (hb2.later (below_drewN W1 n))
        obtain ⟨z1, z2, hz, _⟩ := bts_src hb1
        obtain ⟨y1, y2, hy, _⟩ := bts_src hb2
        rw [hz] at q1 HS
        rw [hy] at q2 HS
        have hd : decide ((k : Int) < (hs.length : Int)) = true := by simpa using hkl
        clear hz hy hb1 hb2 g3 f3 f1 g1
        have hsmb : Hid (∀ b : Bool, sameB (hs.getD k []) x.b = b → (b = true ↔ hs.getD k [] = x.b)) := by intro b hb; subst hb; unfold sameB; simp
        generalize (hs.getD k []).length = L1 at *
        generalize x.b.length = L2 at *
        generalize hsm : sameB (hs.getD k []) x.b = sm at *
        have HSM : Hid (sm = true ↔ hs.getD k [] = x.b) := hsmb.out sm rfl
        clear hsm hsmb
        go_quiet ((go_at_call 15; refine Calls.quiet_of (HS _)))
        rename_i nq
        clear HS q1 q2
        have hB2 := below_drewN W1 nq
        have hM2 := hM1.out.later hB2
        have hC2 := hC1.out.later hB2
        have hBel2 := hBel1.out.trans (hB2.mono hBel1.out.size)
        generalize W1.drewN nq = W2 at *
        clear hB2
        cases sm with
        | false =>
          have HY : Hid (Nxb hs x C N1 (k + 1)) := hNx.out.yes hUp.out hOne.out (fun _ h => by have := HSM.out.2 h; cases this)
          go_wp2
          go_roundg (hs.length + 1 - (k + 1))
          case rel => exact ⟨k + 1, N1, by omega, by go_num, hN1l.out, hM2, hC2, HY.out, hBel2⟩
          case measure => omega
        | true =>
          have HY : Hid (Nxb hs x C (N1.set (k + 1) true) (k + 1)) := hNx.out.yes (fun m hm => set_up _ _ _ (hUp.out m hm)) (fun h => set_up _ _ _ (hOne.out h)) (fun _ _ => by rw [set_getD _ _ _ (by rw [hN1l.out]; omega), if_pos rfl])
          have r1 := bool_cell hM2 (k + 1) (by rw [hN1l.out]; omega)
          have r2 := hM2.frozen (k + 1)
          have HM3 : Hid (Blk (W2.setCell ⟨w0.heap.size, k + 1, none⟩ (.bool true)) w0.heap.size ((N1.set (k + 1) true).map Value.bool)) := bool_set hM2 (k + 1) true
          have HC3 : Hid (Blk (W2.setCell ⟨w0.heap.size, k + 1, none⟩ (.bool true)) g (C.map Value.bool)) := hC2.same (heap_setCell_other _ _ _ _ hgne.out)
          have HB3 : Hid (Below w.heap.size w (W2.setCell ⟨w0.heap.size, k + 1, none⟩ (.bool true))) := hBel2.setCell hG.out _
          generalize N1.getD (k + 1) false = old at *
          clear hM2 hC2 hBel2
          go_wp2
          go_roundg (hs.length + 1 - (k + 1))
          case rel => exact ⟨k + 1, N1.set (k + 1) true, by omega, by go_num, by rw [List.length_set]; exact hN1l.out, HM3.out, HC3.out, HY.out, HB3.out⟩
          case measure => omega

end Go.Proofs.Ytlgkndebhafliaa
