/- A range over a function whose rounds all go on, and whose iterator makes memory of its own for each round. -/
import Derived.Test.YtafkkehcacdodaaGreatStrAppend
import Derived.RangeFuncNested
import Derived.RangeFuncBound
import Derived.RangeFuncCalls
import Derived.RangeFuncLeaves
import Derived.Shelf.RegionOpen
import Derived.WalkKit
import Derived.OwnWalkIn
import Derived.TacticsInMore
import Derived.LoopNIn
import Derived.LoopIn
set_option maxRecDepth 100000
namespace Go.Proofs.YtafkkehcacdodaaGreat
open Go.RowKit Go.Shelf
attribute [local go_sem] Oper.semAt_some

/-- What is wanted of an iterator: N rounds, the k-th with values that X lets. -/
def Iter (n : Nat) (P : Program) (gf : Nat) (lb : Array Value) (N : Nat) (I : Nat → World → Prop) (X : Nat → World → Array Value → Prop) : Prop :=
  ∀ (l : Nat) (J : Nat → World → Prop) (W1 : World), (∀ k W W', J k W → Below W.heap.size W W' → J k W') → (∀ k W, J k W → I k W) →
    (∀ k W xs, k < N → J k W → X k W xs → YieldAt Fence.wide (n - 1) P l xs W fun e W' => e = .returned (.bool true) ∧ J (k + 1) W') → J 0 W1 →
    CallsIn Fence.wide n P gf (#[.func (.yield l) #[] #[]] ++ lb) W1 fun e W' => (∃ v, e = .returned v) ∧ J N W'

/-- What a round's body leaves: it goes on, and keeps the loop's own two blocks. -/
def goneOn (D : Nat) (I : Nat → World → Prop) (k : Nat) (W : World) : Exit → Act → World → Prop
  | .normal, _, W' => I (k + 1) W' ∧ W'.heap[D]? = W.heap[D]? ∧ W'.heap[D + 1]? = W.heap[D + 1]?
  | _, _, _ => False

theorem range_all {n N : Nat} {P : Program} {g : Operand} {ps : Array Tmp} {assign body : Code} {Q : Exit → Act → World → Prop} {a : Act} {w : World} {gf : Nat} {lb : Array Value} (hg : a.eval g = .func (.func gf) #[] lb)
    (eg : ∀ args w, (callFunc gf args).run P w = .ok (.enter gf args) w) (I : Nat → World → Prop) (X : Nat → World → Array Value → Prop) (hseq : Iter (n - 1) P gf lb N I X) (hps : ∀ k W xs, X k W xs → xs.size = ps.size)
    (hIl : ∀ k W W', I k W → Below W.heap.size W W' → I k W') (hIp : ∀ k W r r', I k W → W.heap[w.heap.size + 1]? = some (.loop r) → I k (W.putObj (w.heap.size + 1) (.loop r'))) (hXp : ∀ k W xs r r', X k W xs → W.heap[w.heap.size + 1]? = some (.loop r) → X k (W.putObj (w.heap.size + 1) (.loop r')) xs)
    (h0 : I 0 ((w.alloc (.deferred (some []))).alloc (.loop { state := .ready, pending := none, fn := 0, tmps := #[], params := #[], assign := .skip, body := .skip, defers := 0 }))) (hI0 : ∀ r r', I 0 ((w.alloc (.deferred (some []))).alloc (.loop r)) → I 0 ((w.alloc (.deferred (some []))).alloc (.loop r')))
    (a₁ : Array Value → Act)
    (hassign : ∀ (l : Nat) (xs : Array Value) (W : World) (K : Act → World → Prop), xs.size = ps.size → K (a₁ xs) W → assign.wpIn (Fence.wide.inRound l) (n - 1 - 1) P (Exit.then K (fun _ _ _ => False)) { tmps := (ps.zip xs).foldl (fun t (p, v) => t.setIfInBounds p v) a.tmps, defers := [] } W)
    (hbody : ∀ (k : Nat) (xs : Array Value) (W : World) (r : Loop), k < N → I k W → X k W xs → W.heap[w.heap.size]? = some (.deferred (some [])) → W.heap[w.heap.size + 1]? = some (.loop r) → body.wpIn (Fence.wide.inRound (w.heap.size + 1)) (n - 1 - 1) P (goneOn w.heap.size I k W) (a₁ xs) W)
    (hdone : ∀ (W : World), I N W → W.heap[w.heap.size]? = some (.deferred (some [])) → Q .normal { a with defers := { target := .collected w.heap.size, args := #[] } :: a.defers } W) :
    (Code.rangeFunc g ps assign body).wpIn Fence.wide n P Q a w := by
  refine wpIn_rangeFunc ?_
  intro fn hfn
  let rc : LoopState → Option Code → Loop := fun st pe => { state := st, pending := pe, fn := fn, tmps := a.tmps, params := ps, assign := assign, body := body, defers := w.heap.size }
  have hI1 : I 0 ((w.alloc (.deferred (some []))).alloc (.loop (rc .ready none))) := hI0 _ _ h0
  obtain ⟨W1, hW1⟩ : ∃ W1, W1 = (w.alloc (.deferred (some []))).alloc (.loop (rc .ready none)) := ⟨_, rfl⟩
  have hL1 : W1.heap[w.heap.size + 1]? = some (.loop (rc .ready none)) := by
    rw [hW1]; have := World.alloc_heap_new (w.alloc (.deferred (some []))) (.loop (rc .ready none)); rwa [World.size_alloc] at this
  have hD1 : W1.heap[w.heap.size]? = some (.deferred (some [])) := by
    rw [hW1]; exact (Below.heap_alloc _ _ _ (by simp)).trans (World.alloc_heap_new w _)
  rw [← hW1] at hI1
  have hL : ∀ {W : World} {st : LoopState} {pe : Option Code}, W.heap[w.heap.size + 1]? = some (.loop (rc st pe)) → w.heap.size + 1 < W.heap.size := fun h => (Array.getElem?_eq_some_iff.1 h).1
  refine ⟨w.heap.size + 1, [{ target := .collected w.heap.size, args := #[] }], W1, { target := .fn (.func gf) lb, args := #[.func (.yield (w.heap.size + 1)) #[] #[]] }, W1, gf, #[.func (.yield (w.heap.size + 1)) #[] #[]] ++ lb, W1, ?_, ?_, (fun _ _ => trivial), ?_, (fun h => by simp [Fence.wide] at h), ?_⟩
  · rw [hW1]; exact run_enterLoop_outer _ _ _ _ _
  · simp only [resolve, hg]
    simp [go_sem]
  · simp [invoke, go_sem, eg]
  · refine (hseq (w.heap.size + 1) (fun k W => I k W ∧ W.heap[w.heap.size + 1]? = some (.loop (rc .ready none)) ∧ W.heap[w.heap.size]? = some (.deferred (some []))) W1 ?_ (fun k W h => h.1) ?_ ⟨hI1, hL1, hD1⟩).mono ?_
    · rintro k W W' ⟨h1, h2, h3⟩ hb
      exact ⟨hIl k W W' h1 hb, (hb.block _ (hL h2)).trans h2, (hb.block _ (by have := hL h2; omega)).trans h3⟩
    · rintro k W xs hk ⟨h1, h2, h3⟩ hX
      have hsz := hps k W xs hX
      have hy := run_yield (P := P) (args := xs) h2 hsz
      refine ⟨fn, _, assign, body, hy, roundIn_of_wpIn hfn (hassign _ xs W _ hsz ⟨_, run_beginRound h2 rfl, ?_⟩)⟩
      have hlt := hL h2
      have g2 : (W.putObj (w.heap.size + 1) (.loop { rc .ready none with state := .busy })).heap[w.heap.size + 1]? = some (.loop (rc .busy none)) := World.putObj_heap_same hlt
      have g3 : (W.putObj (w.heap.size + 1) (.loop { rc .ready none with state := .busy })).heap[w.heap.size]? = some (.deferred (some [])) := (World.putObj_heap_other (by omega)).trans h3
      refine wpIn_mono (hbody k xs _ _ hk (hIp k W _ _ h1 h2) (hXp k W xs _ _ hX h2) g3 g2) ?_
      intro e a3 W3 hp
      cases e with
      | normal =>
        obtain ⟨q1, q2, q3⟩ := hp
        rw [g3] at q2
        rw [g2] at q3
        have hr := run_endRound (P := P) none q3
        refine ⟨_, _, hr, rfl, hIp _ W3 _ _ q1 q3, World.putObj_heap_same (hL q3), (World.putObj_heap_other (by omega)).trans q2⟩
      | ret => exact hp.elim
      | exit id => exact hp.elim
      | goto t => exact hp.elim
      | panic ch => exact hp.elim
      | outgrown => exact hp.elim
    · rintro e W2 ⟨⟨v, rfl⟩, h1, h2, h3⟩
      exact ⟨none, _, run_endLoop (P := P) h2 (by simp [rc]), hdone _ (hIp N W2 _ _ h1 h2) ((World.putObj_heap_other (by omega)).trans h3)⟩

end Go.Proofs.YtafkkehcacdodaaGreat
