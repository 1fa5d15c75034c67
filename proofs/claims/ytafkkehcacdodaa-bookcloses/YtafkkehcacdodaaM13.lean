/- The document's disk: its cells; take, Add. -/
import Derived.Test.YtafkkehcacdodaaM8
import Derived.Deep.RegionLaw
import Derived.Deep.DrawnRows
import Derived.Deep.OwnRows
set_option maxRecDepth 100000
namespace Go.Proofs.Ytafkkehcacdodaa
open Go.RowKit
attribute [local go_sem ↓] Go.wp_at_zero Go.wp_at_succ

section
variable {w : World} {tag : Nat → Nat} {base o : Nat} {s : St} {p : ML}
theorem MD.m0 (h : MD w tag base o s p) : w.cell? ⟨p.M, 0, none⟩ = some (.int .i64 s.n) := h.bM.cell 0
theorem MD.m1 (h : MD w tag base o s p) : w.cell? ⟨p.M, 1, none⟩ = some (.slice (some ⟨p.S, 0, none⟩) (s.n * 64) p.cS) := h.bM.cell 1
theorem MD.m2 (h : MD w tag base o s p) : w.cell? ⟨p.M, 2, none⟩ = some (.slice (some ⟨p.N, 0, none⟩) (s.n * 64) p.cN) := h.bM.cell 2
theorem MD.m3 (h : MD w tag base o s p) : w.cell? ⟨p.M, 3, none⟩ = some p.sv := h.bM.cell 3
theorem MD.m4 (h : MD w tag base o s p) : w.cell? ⟨p.M, 4, none⟩ = some p.ov := h.bM.cell 4
theorem MD.m5 (h : MD w tag base o s p) : w.cell? ⟨p.M, 5, none⟩ = some (.int .i64 s.ops) := h.bM.cell 5
theorem MD.fM (h : MD w tag base o s p) (j : Nat) : w.frozen? ⟨p.M, j, none⟩ = false := h.bM.frozen j
theorem MD.sform (h : MD w tag base o s p) : ∃ a c, p.sv = .slice a s.since.length c ∧ s.since.length ≤ c ∧ c ≤ maxLen := by
  rcases h.wS.2 with ⟨h1, h2⟩ | ⟨g, oo, cap, cs, h1, _, h2, h3, _⟩
  · exact ⟨none, 0, by rw [h1, h2], by omega, by decide⟩
  · exact ⟨_, _, h1, h2, h3⟩
theorem MD.oform (h : MD w tag base o s p) : ∃ a c, p.ov = .slice a s.outs.length c ∧ s.outs.length ≤ c ∧ c ≤ maxLen := by
  rcases h.wO.2 with ⟨h1, h2⟩ | ⟨g, oo, cap, cs, h1, _, h2, h3, _⟩
  · exact ⟨none, 0, by rw [h1, h2], by omega, by decide⟩
  · exact ⟨_, _, h1, h2, h3⟩
end

/-- Behind stores into the disk's own block: all but its outcomes and its count is as it was. -/
theorem MD.queue {w w' : World} {tag : Nat → Nat} {base o : Nat} {s : St} {p : ML} (h : MD w tag base o s p) (v : Value) (l : List Int) (n : Nat)
    (hq : Blk w' p.M [.int .i64 s.n, .slice (some ⟨p.S, 0, none⟩) (s.n * 64) p.cS, .slice (some ⟨p.N, 0, none⟩) (s.n * 64) p.cN, p.sv, v, .int .i64 n])
    (hw : Win w 1 v l.length (bytesV l)) (hv : ∀ g, v.ownBlock = some g → tag g = 16 * o + 5 ∧ base ≤ g) (hk : ∀ k, k ≠ p.M → w'.heap[k]? = w.heap[k]?) (hl : isBytes l) :
    MD w' tag base o { s with outs := l, ops := n } { p with ov := v } := by
  have hne : ∀ {g : Nat} {T : Nat}, tag g = T → T ≠ 16 * o + 1 → w'.heap[g]? = w.heap[g]? := fun {g T} hT hn => hk g (fun e => hn (by rw [← hT, e]; exact h.tM.1))
  exact ⟨hq, h.rS.same (hne h.tS.1 (by omega)), h.rN.same (hne h.tN.1 (by omega)), h.wS.same (fun g hg => hne (h.tV g hg).1 (by omega)), hw.same (fun g hg => hne (hv g hg).1 (by omega)), h.lb,
    fun k hk' => (h.bB k hk').same (hne (h.tB k hk').1 (by omega)), h.tM, h.tS, h.tN, h.tV, hv, h.tB, ⟨h.ok.n1, h.ok.n2, h.ok.sl, h.ok.nl, h.ok.sb, h.ok.nb, hl, h.ok.wr, h.ok.eq⟩⟩

theorem blk_m {w : World} {M : Nat} {a b c d e f x y : Value} (h : Blk w M [a, b, c, d, e, f]) : Blk ((w.setCell ⟨M, 5, none⟩ y).setCell ⟨M, 4, none⟩ x) M [a, b, c, d, x, y] := by
  have := (h.set 5 y).set 4 x
  simpa using this

theorem blk_m1 {w : World} {M : Nat} {a b c d e f y : Value} (h : Blk w M [a, b, c, d, e, f]) : Blk (w.setCell ⟨M, 5, none⟩ y) M [a, b, c, d, e, y] := by
  have := h.set 5 y
  simpa using this

theorem out_cases (c : Int) : (c % 3 = 0 ∧ Hid (doneB c = true) ∧ Hid (errC c = 0)) ∨ (c % 3 = 1 ∧ Hid (doneB c = false) ∧ Hid (errC c = 8)) ∨ (c % 3 = 2 ∧ Hid (doneB c = true) ∧ Hid (errC c = 8)) := by
  have : c % 3 = 0 ∨ c % 3 = 1 ∨ c % 3 = 2 := by omega
  rcases this with h | h | h
  · exact .inl ⟨h, by show doneB c = true; simp [doneB, h], by show errC c = 0; simp [errC, h]⟩
  · exact .inr (.inl ⟨h, by show doneB c = false; simp [doneB, h], by show errC c = 8; simp [errC, h]⟩)
  · exact .inr (.inr ⟨h, by show doneB c = true; simp [doneB, h], by show errC c = 8; simp [errC, h]⟩)

/-- Behind an append onto the outcomes. -/
theorem MD.added {w wx w3 : World} {tag : Nat → Nat} {base o : Nat} {s : St} {p : ML} (h : MD w tag base o s p) (hbase : base ≤ w.heap.size) (hx : Below w.heap.size w wx) (v' : Value) (l : List Int) (hlb : isBytes l)
    (hgrow : wx.grownBy w3 p.ov.ownBlock) (hat : v'.ownBlock = p.ov.ownBlock ∨ v'.ownBlock = some wx.heap.size) (hwin : Win w3 1 v' (s.outs.length + l.length) (bytesV s.outs ++ bytesV l)) :
    ∃ p' tag', p'.M = p.M ∧ MD (w3.setCell ⟨p.M, 4, none⟩ v') tag' base o (s.add l) p' ∧ Step tag tag' base o w (w3.setCell ⟨p.M, 4, none⟩ v') := by
  have s2 : Step tag tag base o w wx := step_below tag base o hbase hx
  obtain ⟨s3, htv⟩ := step_grown (tag := tag) (base := base) hgrow hat h.tO (show (16 * o + 5) / 16 = o by omega) (by have := hx.size; omega)
  have s4 : Step tag (retag tag v' (16 * o + 5)) base o w w3 := s2.trans s3
  have hT : ∀ {g : Nat}, g < w.heap.size → retag tag v' (16 * o + 5) g = tag g := fun {g} hg => s4.tags g hg
  have hsz2 := hx.size
  refine ⟨{ p with ov := v' }, retag tag v' (16 * o + 5), rfl, ?_, s4.set h.tM.2 (by rw [hT h.bM.lt]; have := h.tM.1; omega) 4 _⟩
  have e2 : ∀ g, g < w.heap.size → tag g ≠ 16 * o + 5 → w3.heap[g]? = w.heap[g]? := fun g hg hne => (hgrow.block g (by omega) (fun e => hne (h.tO g e.symm).1)).trans (hx.block g hg)
  have all : ∀ {g T : Nat}, g < w.heap.size → tag g = T → T ≠ 16 * o + 1 → T ≠ 16 * o + 5 → (w3.setCell ⟨p.M, 4, none⟩ v').heap[g]? = w.heap[g]? := fun {g T} hg ht n1 n5 => by
    rw [heap_setCell_other _ _ g _ (fun e => n1 (by rw [← ht, show g = p.M from e]; exact h.tM.1)), e2 g hg (by rw [ht]; exact n5)]
  refine ⟨?_, h.rS.same (all h.rS.lt h.tS.1 (by omega) (by omega)), h.rN.same (all h.rN.lt h.tN.1 (by omega) (by omega)), h.wS.same (fun g hg => all (h.wS.lt g hg) (h.tV g hg).1 (by omega) (by omega)), ?_, h.lb,
    fun k hk' => (h.bB k hk').same (all (h.bB k hk').lt (h.tB k hk').1 (by omega) (by omega)), ?_, ?_, ?_, ?_, htv, ?_, h.ok.add hlb⟩
  · have b3 : Blk w3 p.M _ := h.bM.same (e2 _ h.bM.lt (by rw [h.tM.1]; omega))
    have := b3.set 4 v'
    simpa [St.add] using this
  · have e : bytesV (s.add l).outs = bytesV s.outs ++ bytesV l := by simp [St.add]
    have e' : (s.add l).outs.length = s.outs.length + l.length := by simp [St.add]
    rw [e, e']
    refine hwin.same (fun g hg => heap_setCell_other _ _ g _ (fun e => ?_))
    have e1 : g = p.M := e
    have e3 := (htv g hg).1
    rw [e1, hT h.bM.lt, h.tM.1] at e3
    omega
  · exact ⟨by rw [hT h.bM.lt]; exact h.tM.1, h.tM.2⟩
  · exact ⟨by rw [hT h.rS.lt]; exact h.tS.1, h.tS.2⟩
  · exact ⟨by rw [hT h.rN.lt]; exact h.tN.1, h.tN.2⟩
  · intro g hg
    exact ⟨by rw [hT (h.wS.lt g hg)]; exact (h.tV g hg).1, (h.tV g hg).2⟩
  · intro k hk'
    exact ⟨by rw [hT (h.bB k hk').lt]; exact (h.tB k hk').1, (h.tB k hk').2⟩

end Go.Proofs.Ytafkkehcacdodaa

namespace Go.Proofs.Ytafkkehcacdodaa
open Go.RowKit
attribute [local go_sem ↓] Go.wp_at_zero Go.wp_at_succ

theorem add_nil (s : St) : s.add [] = s := by simp [St.add]
theorem add_snoc (s : St) (l : List Int) (k : Nat) (h : k < l.length) : s.add (l.take (k + 1)) = (s.add (l.take k)).add [l.getD k 0] := by
  rw [take_snoc l k h]; simp [St.add]

end Go.Proofs.Ytafkkehcacdodaa

namespace Go.Proofs.Ytafkkehcacdodaa
open Go.RowKit
attribute [local go_sem ↓] Go.wp_at_zero Go.wp_at_succ

/-- Tags of a new disk's blocks. -/
def tagM (tag : Nat → Nat) (N o M S T : Nat) : Nat → Nat := fun k => if k < N then tag k else if k = M then 16 * o + 1 else if k = S then 16 * o + 2 else if k = T then 16 * o + 3 else 0

theorem made_zero5 (n : Nat) : (madeCells #[Value.int .u8 0] n).toList = bytesV (zeros n) := by
  apply List.ext_getElem?
  intro j
  by_cases hj : j < n
  · simp [madeCells, hj, zeros, Nat.mod_one]
  · simp [madeCells, hj, zeros]

theorem row_made (w w' : World) (n : Nat) (Z : Array Value) (hZ : Z.toList = bytesV (zeros n)) (hn : n ≤ maxLen) (h : Below (w.alloc (.cells Z 5)).heap.size (w.alloc (.cells Z 5)) w') : Row w' 1 w.heap.size n n (bytesV (zeros n)) := by
  refine ⟨by simp [zeros], Nat.le_refl _, hn, _, (blk_new w Z 5).later h, ?_, ?_⟩
  · rw [hZ]; simp [zeros]
  · rw [hZ]; simp [zeros]

end Go.Proofs.Ytafkkehcacdodaa

namespace Go.Proofs.Ytafkkehcacdodaa
open Go.RowKit
attribute [local go_sem ↓] Go.wp_at_zero Go.wp_at_succ

theorem sec_getD (l : List Int) (k j : Nat) (hj : j < 64) : (sec l k).getD j 0 = l.getD (k * 64 + j) 0 := by
  unfold sec
  rw [List.getD_eq_getElem?_getD, List.getD_eq_getElem?_getD, List.getElem?_take_of_lt hj, List.getElem?_drop]

theorem row_byte {w : World} {g cap n : Nat} {l : List Int} (h : Row w 1 g cap n (bytesV l)) (j : Nat) (hj : j < l.length) : w.cell? ⟨g, j, none⟩ = some (.int .u8 (l.getD j 0)) := by
  have hl : l.length = n := by simpa using h.1
  rw [h.cell j (by omega)]
  simp [List.getElem?_eq_getElem hj]

/-- The document's Sync, under way: k bytes have been copied. -/
structure RMid (w : World) (base : Nat) (s : St) (p : ML) (k : Nat) (wr : World) : Prop where
  row : Row wr 1 p.S p.cS (s.n * 64) (bytesV (s.now.take k ++ s.sure.drop k))
  kept : ∀ q, q ≠ p.S → wr.heap[q]? = w.heap[q]?
  below : Below base w wr

theorem copied_set (a b : List Int) (k : Nat) (h : a.length = b.length) (hk : k < a.length) : (bytesV (a.take k ++ b.drop k)).set k (.int .u8 (a.getD k 0)) = bytesV (a.take (k + 1) ++ b.drop (k + 1)) := by
  apply List.ext_getElem?
  intro j
  rw [List.getElem?_set]
  by_cases e : k = j
  · subst e
    rw [if_pos rfl]
    simp only [List.length_map, List.length_append, List.length_take, List.length_drop, List.getElem?_map]
    rw [if_pos (by omega), List.getElem?_append_left (by simp; omega), List.getElem?_take_of_lt (by omega), List.getElem?_eq_getElem hk]
    simp [List.getD_eq_getElem?_getD, List.getElem?_eq_getElem hk]
  · rw [if_neg e]
    simp only [List.getElem?_map]
    congr 1
    by_cases hj : j < k
    · rw [List.getElem?_append_left (by simp; omega), List.getElem?_append_left (by simp; omega), List.getElem?_take_of_lt hj, List.getElem?_take_of_lt (by omega)]
    · rw [List.getElem?_append_right (by simp; omega), List.getElem?_append_right (by simp; omega), List.getElem?_drop, List.getElem?_drop]
      congr 1
      simp; omega

theorem MD.settle {w wr : World} {tag : Nat → Nat} {base o : Nat} {s : St} {p : ML} (h : MD w tag base o s p) (hM : RMid w base s p (s.n * 64) wr) :
    MD (wr.setCell ⟨p.M, 3, none⟩ (.slice none 0 0)) tag base o s.settled { p with sv := .slice none 0 0, bs := [] } ∧ Step tag tag base o w (wr.setCell ⟨p.M, 3, none⟩ (.slice none 0 0)) := by
  have hMS : p.M ≠ p.S := fun e => by have a := h.tM.1; have b := h.tS.1; rw [e] at a; omega
  have all : ∀ {g T : Nat}, tag g = T → T ≠ 16 * o + 1 → T ≠ 16 * o + 2 → (wr.setCell ⟨p.M, 3, none⟩ (.slice none 0 0)).heap[g]? = w.heap[g]? := fun {g T} ht n1 n2 => by
    rw [heap_setCell_other _ _ g _ (fun e => n1 (by rw [← ht, show g = p.M from e]; exact h.tM.1))]
    exact hM.kept g (fun e => n2 (by rw [← ht, e]; exact h.tS.1))
  have hr : Row wr 1 p.S p.cS (s.n * 64) (bytesV s.now) := by
    have := hM.row
    rw [List.take_of_length_le (by rw [h.ok.nl]; omega), List.drop_of_length_le (by rw [h.ok.sl]; omega), List.append_nil] at this
    exact this
  constructor
  · refine ⟨?_, hr.same (heap_setCell_other _ _ _ _ (fun e => hMS e.symm)), h.rN.same (all h.tN.1 (by omega) (by omega)), win_nil _ _, h.wO.same (fun g hg => all (h.tO g hg).1 (by omega) (by omega)), rfl, (fun k hk => by simp [St.settled] at hk), h.tM, h.tS, h.tN, (fun g hg => by simp [Value.ownBlock] at hg), h.tO, (fun k hk => by simp [St.settled] at hk), h.ok.settled⟩
    have := (h.bM.same (hM.kept p.M hMS)).set 3 (.slice none 0 0)
    simpa [St.settled] using this
  · refine Step.set ?_ h.tM.2 (by have := h.tM.1; omega) 3 _
    exact ⟨hM.below, fun _ _ => rfl, fun q hq hne => hM.kept q (fun e => hne (by rw [e]; have := h.tS.1; omega))⟩

end Go.Proofs.Ytafkkehcacdodaa
