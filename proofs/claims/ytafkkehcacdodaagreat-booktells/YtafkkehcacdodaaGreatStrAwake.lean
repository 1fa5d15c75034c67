/- Two disks beside one another; Append at whatever bytes; awake. -/
import Derived.Test.YtafkkehcacdodaaGreatStrOpen
import Derived.Test.YtafkkehcacdodaaGreatStrSeg
import Derived.Test.YtafkkehcacdodaaGreatSecRef7
import Derived.Lib.SmallJoins
import Derived.Laws.IdiomStrings
set_option maxRecDepth 100000
namespace Go.Proofs.YtafkkehcacdodaaGreat
open Go.RowKit

theorem append_any8 (w : World) (tag : Nat → Nat) (base o o' : Nat) (ho : o ≠ o') (ho1 : 1 ≤ o) (ho2 : 1 ≤ o') (s : St) (p : PL) (h : PD w tag base o s p) (t : Sd) (q : SL) (D S : Nat) (hD : p.D = D) (hS : q.S = S) (hq : PO w tag base o' D t q) (hbase : base ≤ w.heap.size) (ht : t.Ok s.n) (v : Value) (b : List Int) (hv : Bts w v b) (hvh : b ≠ [] → Held w tag v b)
    (hops : s.ops ≤ 1000000) (hout : s.outs.length ≤ 1000000) (hsin : s.since.length ≤ 1000000) (hrec : t.recs.length ≤ 900000) :
    Calls Tryz.prog 89 #[.pointer (some ⟨S, 0, none⟩), v] w fun e w' => e = .returned (.int .i64 (appE s t b)) ∧ AppPost w tag base o o' s D t S b w' := by
  subst hD; subst hS
  by_cases hE : frameE b = 0
  · exact append_ok8 w tag base o o' ho ho1 ho2 s p h t q hq hbase ht v b (hvh (fun e => by rw [e] at hE; cases hE)) hE hops hout hsin hrec
  · exact append_no w tag base o o' s p h t q hq v b hv hE

theorem sec_zeros (n k : Nat) (h : k < n) : sec (zeros (n * 64)) k = zeros 64 := by
  unfold sec zeros
  rw [List.drop_replicate, List.take_replicate]
  congr 1
  omega

theorem openK_new (n : Nat) : ∀ k, k ≤ n → openK (zeros (n * 64)) k = ⟨0, 0, []⟩ := by
  intro k
  induction k with
  | zero => intro _; rfl
  | succ k ih =>
    intro hk
    rw [openK_step, ih (by omega), sec_zeros n k (by omega)]
    rfl

theorem openT_new (n : Nat) : openT (St.new n) = ⟨0, 0, []⟩ := openK_new n n (Nat.le_refl _)

theorem app_a : appE (St.new 2) ⟨0, 0, []⟩ [97] = 0 ∧ appT (St.new 2) ⟨0, 0, []⟩ [97] = ⟨0, 8, [(0, [97])]⟩ := ⟨rfl, rfl⟩

theorem conv8 (w : World) (C : Array Value) (n c g : Nat) (hg : g = w.heap.size) :
    (convert 39 39 (.slice (some ⟨g, 0, none⟩) n c)).run Tryz.prog (w.alloc (.cells C 5)) = .ok (.slice (some ⟨g, 0, none⟩) n c) (w.alloc (.cells C 5 (C.size, C.size + 1))) :=
  Go.Joins.run_convert_bytes_const_at w 39 5 C n c g hg Tryz.underlying39 Tryz.underlying5

theorem held_lit (w : World) (tag : Nat → Nat) (l : List Int) (hb : isBytes l) (hl : l.length ≤ maxLen) (m : Nat × Nat) : Held (w.alloc (.cells (bytesV l).toArray 5 m)) (clip tag w.heap.size) (.slice (some ⟨w.heap.size, 0, none⟩) l.length l.length) l := by
  refine ⟨⟨_, _, w.heap.size, 0, rfl, Nat.le_refl _, hl, hb, .inl rfl, fun i hi => ?_⟩, fun g hg => ?_⟩
  · rw [Nat.zero_add]
    unfold World.cell?
    rw [World.alloc_heap_new]
    simp [List.getElem?_eq_getElem hi]
  · simp [Value.ownBlock] at hg
    subst hg
    exact ⟨by simp [clip], by simp⟩

/-- A row of slices, read. -/
theorem Lst.read {w : World} {base : Nat} {v : Value} {vs : List Value} {ls : List (List Int)} (h : Lst w base v vs ls) (hne : 0 < ls.length) : ∃ B O c, v = .slice (some ⟨B, O, none⟩) ls.length c ∧ ls.length ≤ c ∧ c ≤ maxLen ∧ ∀ i, i < ls.length → w.cell? ⟨B, O + i, none⟩ = some (vs.getD i undef) := by
  rcases h.win.2 with ⟨_, h0⟩ | ⟨B, O, c, cs, e, hb, h2, h3, h4, h5⟩
  · omega
  refine ⟨B, O, c, e, h2, h3, fun i hi => ?_⟩
  have hvl : vs.length = ls.length := by have := h.win.1; omega
  exact hb.range O (ls.length * 1) i (vs.getD i undef) (by rw [h5]; simp [List.getD, List.getElem?_eq_getElem (show i < vs.length by omega)])

end Go.Proofs.YtafkkehcacdodaaGreat
