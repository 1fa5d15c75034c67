/- A range over a function whose rounds all go on, and whose iterator keeps memory of its own from round to round. -/
import Derived.Test.YtkkcpofaiocjpabTraNew
import Derived.RangeFuncNested
import Derived.RangeFuncBound
import Derived.RangeFuncCalls
import Derived.RangeFuncLeaves
import Derived.Shelf.RegionOpen
import Derived.WalkKit
import Derived.OwnWalkIn
import Derived.TacticsInMore
import Derived.LoopNIn
import Derived.LoopIn
set_option maxRecDepth 100000
namespace Go.Proofs.Ytkkcpofaiocjpab
open Go.RowKit Go.Shelf
attribute [local go_sem] Oper.semAt_some

/-- Without a bound on the depth, all figures are one. -/
theorem yield_any {m : Nat} (m' : Nat) {P : Program} {l : Nat} {xs : Array Value} {W : World} {R : Ending → World → Prop} (h : YieldAt Fence.wide m P l xs W R) : YieldAt Fence.wide m' P l xs W R := by
  obtain ⟨fn, tmps, assign, body, hy, hR⟩ := h
  exact ⟨fn, tmps, assign, body, hy, hR.1, fun c cs _ => hR.2 c cs (fun d hd => by cases hd)⟩

abbrev Mine := List (Nat × Obj)

/-- What is wanted of an iterator: N rounds; what it has laid by for itself (Mine) stands behind each. -/
def IterM (n : Nat) (P : Program) (gf : Nat) (la lb : Array Value) (N : Nat) (I : World → Prop) (X : Nat → Array Value → Prop) : Prop :=
  ∀ (l : Nat) (J : Nat → Mine → World → Prop) (W1 : World), (∀ k p W, J k p W → I W) → (∀ k p W W', J k p W → Below W.heap.size W W' → J k p W') →
    (∀ k p W vs T, J k p W → J k ((W.heap.size, .cells vs T) :: p) (W.alloc (.cells vs T))) → (∀ k b o p W, J k ((b, o) :: p) W → J k p W ∧ W.heap[b]? = some o) →
    (∀ m k p W xs, k < N → J k p W → X k xs → YieldAt Fence.wide m P l xs W fun e W' => e = .returned (.bool true) ∧ J (k + 1) p W') → J 0 [] W1 →
    CallsIn Fence.wide n P gf (la ++ #[.func (.yield l) #[] #[]] ++ lb) W1 fun e W' => (∃ v, e = .returned v) ∧ J N [] W'

/-- What a round's body leaves: it goes on, and keeps the loop's own two blocks. -/
def goneOnM (D : Nat) (S : Nat → Mine → World → Prop) (k : Nat) (p : Mine) (W : World) : Exit → Act → World → Prop
  | .normal, _, W' => S (k + 1) p W' ∧ W'.heap[D]? = W.heap[D]? ∧ W'.heap[D + 1]? = W.heap[D + 1]?
  | _, _, _ => False

theorem range_mine {n N : Nat} {P : Program} {g : Operand} {ps : Array Tmp} {assign body : Code} {Q : Exit → Act → World → Prop} {a : Act} {w : World} {gf : Nat} {la lb : Array Value} (hg : a.eval g = .func (.func gf) la lb)
    (eg : ∀ args w, (callFunc gf args).run P w = .ok (.enter gf args) w) (S : Nat → Mine → World → Prop) (I : World → Prop) (X : Nat → Array Value → Prop) (hseq : IterM (n - 1) P gf la lb N I X) (hps : ∀ k xs, X k xs → xs.size = ps.size)
    (hSI : ∀ k p W, S k p W → I W) (hSl : ∀ k p W W', S k p W → Below W.heap.size W W' → S k p W') (hSa : ∀ k p W vs T, S k p W → S k ((W.heap.size, .cells vs T) :: p) (W.alloc (.cells vs T)))
    (hSd : ∀ k b o p W, S k ((b, o) :: p) W → S k p W ∧ W.heap[b]? = some o) (hSp : ∀ k p W r r', S k p W → W.heap[w.heap.size + 1]? = some (.loop r) → S k p (W.putObj (w.heap.size + 1) (.loop r')))
    (h0 : ∀ r, S 0 [] ((w.alloc (.deferred (some []))).alloc (.loop r)))
    (a₁ : Array Value → Act)
    (hassign : ∀ (l : Nat) (xs : Array Value) (W : World) (K : Act → World → Prop), xs.size = ps.size → K (a₁ xs) W → assign.wpIn (Fence.wide.inRound l) (n - 1 - 1) P (Exit.then K (fun _ _ _ => False)) { tmps := (ps.zip xs).foldl (fun t (p, v) => t.setIfInBounds p v) a.tmps, defers := [] } W)
    (hbody : ∀ (k : Nat) (p : Mine) (xs : Array Value) (W : World) (r : Loop), k < N → S k p W → X k xs → W.heap[w.heap.size]? = some (.deferred (some [])) → W.heap[w.heap.size + 1]? = some (.loop r) → body.wpIn (Fence.wide.inRound (w.heap.size + 1)) (n - 1 - 1) P (goneOnM w.heap.size S k p W) (a₁ xs) W)
    (hdone : ∀ (W : World), S N [] W → W.heap[w.heap.size]? = some (.deferred (some [])) → Q .normal { a with defers := { target := .collected w.heap.size, args := #[] } :: a.defers } W) :
    (Code.rangeFunc g ps assign body).wpIn Fence.wide n P Q a w := by
  refine wpIn_rangeFunc ?_
  intro fn hfn
  let rc : LoopState → Option Code → Loop := fun st pe => { state := st, pending := pe, fn := fn, tmps := a.tmps, params := ps, assign := assign, body := body, defers := w.heap.size }
  have hI1 : S 0 [] ((w.alloc (.deferred (some []))).alloc (.loop (rc .ready none))) := h0 _
  obtain ⟨W1, hW1⟩ : ∃ W1, W1 = (w.alloc (.deferred (some []))).alloc (.loop (rc .ready none)) := ⟨_, rfl⟩
  have hL1 : W1.heap[w.heap.size + 1]? = some (.loop (rc .ready none)) := by
    rw [hW1]; have := World.alloc_heap_new (w.alloc (.deferred (some []))) (.loop (rc .ready none)); rwa [World.size_alloc] at this
  have hD1 : W1.heap[w.heap.size]? = some (.deferred (some [])) := by
    rw [hW1]; exact (Below.heap_alloc _ _ _ (by simp)).trans (World.alloc_heap_new w _)
  rw [← hW1] at hI1
  have hL : ∀ {W : World} {st : LoopState} {pe : Option Code}, W.heap[w.heap.size + 1]? = some (.loop (rc st pe)) → w.heap.size + 1 < W.heap.size := fun h => (Array.getElem?_eq_some_iff.1 h).1
  refine ⟨w.heap.size + 1, [{ target := .collected w.heap.size, args := #[] }], W1, { target := .fn (.func gf) lb, args := la ++ #[.func (.yield (w.heap.size + 1)) #[] #[]] }, W1, gf, la ++ #[.func (.yield (w.heap.size + 1)) #[] #[]] ++ lb, W1, ?_, ?_, (fun _ _ => trivial), ?_, (fun h => by simp [Fence.wide] at h), ?_⟩
  · rw [hW1]; exact run_enterLoop_outer _ _ _ _ _
  · simp only [resolve, hg]
    simp [go_sem]
  · simp [invoke, go_sem, eg]
  · refine (hseq (w.heap.size + 1) (fun k p W => S k p W ∧ W.heap[w.heap.size + 1]? = some (.loop (rc .ready none)) ∧ W.heap[w.heap.size]? = some (.deferred (some []))) W1 (fun k p W h => hSI k p W h.1) ?_ ?_ (fun k b o p W h => ⟨⟨(hSd k b o p W h.1).1, h.2⟩, (hSd k b o p W h.1).2⟩) ?_ ⟨hI1, hL1, hD1⟩).mono ?_
    · rintro k p W W' ⟨h1, h2, h3⟩ hb
      exact ⟨hSl k p W W' h1 hb, (hb.block _ (hL h2)).trans h2, (hb.block _ (by have := hL h2; omega)).trans h3⟩
    · rintro k p W vs T ⟨h1, h2, h3⟩
      have hb := below_alloc W (.cells vs T)
      exact ⟨hSa k p W vs T h1, (hb.block _ (hL h2)).trans h2, (hb.block _ (by have := hL h2; omega)).trans h3⟩
    · rintro m k p W xs hk ⟨h1, h2, h3⟩ hX
      refine yield_any (m := n - 1 - 1) m ?_
      have hsz := hps k xs hX
      have hy := run_yield (P := P) (args := xs) h2 hsz
      refine ⟨fn, _, assign, body, hy, roundIn_of_wpIn hfn (hassign _ xs W _ hsz ⟨_, run_beginRound h2 rfl, ?_⟩)⟩
      have hlt := hL h2
      have g2 : (W.putObj (w.heap.size + 1) (.loop { rc .ready none with state := .busy })).heap[w.heap.size + 1]? = some (.loop (rc .busy none)) := World.putObj_heap_same hlt
      have g3 : (W.putObj (w.heap.size + 1) (.loop { rc .ready none with state := .busy })).heap[w.heap.size]? = some (.deferred (some [])) := (World.putObj_heap_other (by omega)).trans h3
      refine wpIn_mono (hbody k p xs _ _ hk (hSp k p W _ _ h1 h2) hX g3 g2) ?_
      intro e a3 W3 hp
      cases e with
      | normal =>
        obtain ⟨q1, q2, q3⟩ := hp
        rw [g3] at q2
        rw [g2] at q3
        have hr := run_endRound (P := P) none q3
        refine ⟨_, _, hr, rfl, hSp _ _ W3 _ _ q1 q3, World.putObj_heap_same (hL q3), (World.putObj_heap_other (by omega)).trans q2⟩
      | ret => exact hp.elim
      | exit id => exact hp.elim
      | goto t => exact hp.elim
      | panic ch => exact hp.elim
      | outgrown => exact hp.elim
    · rintro e W2 ⟨⟨v, rfl⟩, h1, h2, h3⟩
      exact ⟨none, _, run_endLoop (P := P) h2 (by simp [rc]), hdone _ (hSp N [] W2 _ _ h1 h2) ((World.putObj_heap_other (by omega)).trans h3)⟩

end Go.Proofs.Ytkkcpofaiocjpab
