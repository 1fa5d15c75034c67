/- A range over a function whose rounds all go on, and whose iterator makes memory of its own for each round. -/
import Derived.Test.YtafkkehcacdodaaGreatStrAppend
import Derived.RangeFuncNested
import Derived.RangeFuncBound
import Derived.RangeFuncCalls
import Derived.RangeFuncLeaves
import Derived.Shelf.RegionOpen
import Derived.WalkKit
import Derived.OwnWalkIn
import Derived.TacticsInMore
import Derived.LoopNIn
import Derived.LoopIn
set_option maxRecDepth 100000
namespace Go.Proofs.YtafkkehcacdodaaGreat
open Go.RowKit Go.Shelf
attribute [local go_sem] Oper.semAt_some

/-- What is wanted of an iterator: N rounds, the k-th with values that X lets. -/
def Iter (n : Nat) (P : Program) (gf : Nat) (lb : Array Value) (N : Nat) (I : Nat → World → Prop) (X : Nat → World → Array Value → Prop) : Prop :=
  ∀ (l : Nat) (J : Nat → World → Prop) (W1 : World), (∀ k W W', J k W → Below W.heap.size W W' → J k W') → (∀ k W, J k W → I k W) →
    (∀ k W xs, k < N → J k W → X k W xs → YieldAt Fence.wide (n - 1) P l xs W fun e W' => e = .returned (.bool true) ∧ J (k + 1) W') → J 0 W1 →
    CallsIn Fence.wide n P gf (#[.func (.yield l) #[] #[]] ++ lb) W1 fun e W' => (∃ v, e = .returned v) ∧ J N W'

/-- What a round's body leaves: it goes on, and keeps the loop's own two blocks. -/
def goneOn (D : Nat) (I : Nat → World → Prop) (k : Nat) (W : World) : Exit → Act → World → Prop
  | .normal, _, W' => I (k + 1) W' ∧ W'.heap[D]? = W.heap[D]? ∧ W'.heap[D + 1]? = W.heap[D + 1]?
  | _, _, _ => False

theorem range_all {n N : Nat} {P : Program} {g : Operand} {ps : Array Tmp} {assign body : Code} {Q : Exit → Act → World → Prop} {a : Act} {w : World} {gf : Nat} {lb : Array Value} (hg : a.eval g = .func (.func gf) #[] lb)
    (eg : ∀ args w, (callFunc gf args).run P w = .ok (.enter gf args) w) (I : Nat → World → Prop) (X : Nat → World → Array Value → Prop) (hseq : Iter (n - 1) P gf lb N I X) (hps : ∀ k W xs, X k W xs → xs.size = ps.size)
    (hIl : ∀ k W W', I k W → Below W.heap.size W W' → I k W') (hIp : ∀ k W r r', I k W → W.heap[w.heap.size + 1]? = some (.loop r) → I k (W.putObj (w.heap.size + 1) (.loop r'))) (hXp : ∀ k W xs r r', X k W xs → W.heap[w.heap.size + 1]? = some (.loop r) → X k (W.putObj (w.heap.size + 1) (.loop r')) xs)
    (h0 : I 0 ((w.alloc (.deferred (some []))).alloc (.loop { state := .ready, pending := none, fn := 0, tmps := #[], params := #[], assign := .skip, body := .skip, defers := 0 }))) (hI0 : ∀ r r', I 0 ((w.alloc (.deferred (some []))).alloc (.loop r)) → I 0 ((w.alloc (.deferred (some []))).alloc (.loop r')))
    (a₁ : Array Value → Act)
    (hassign : ∀ (l : Nat) (xs : Array Value) (W : World) (K : Act → World → Prop), xs.size = ps.size → K (a₁ xs) W → assign.wpIn (Fence.wide.inRound l) (n - 1 - 1) P (Exit.then K (fun _ _ _ => False)) { tmps := (ps.zip xs).foldl (fun t (p, v) => t.setIfInBounds p v) a.tmps, defers := [] } W)
    (hbody : ∀ (k : Nat) (xs : Array Value) (W : World) (r : Loop), k < N → I k W → X k W xs → W.heap[w.heap.size]? = some (.deferred (some [])) → W.heap[w.heap.size + 1]? = some (.loop r) → body.wpIn (Fence.wide.inRound (w.heap.size + 1)) (n - 1 - 1) P (goneOn w.heap.size I k W) (a₁ xs) W)
    (hdone : ∀ (W : World), I N W → W.heap[w.heap.size]? = some (.deferred (some [])) → Q .normal { a with defers := { target := .collected w.heap.size, args := #[] } :: a.defers } W) :
    (Code.rangeFunc g ps assign body).wpIn Fence.wide n P Q a w := by
  refine wpIn_rangeFunc ?_
  intro fn hfn
  let rc : LoopState → Option Code → Loop := fun st pe => { state := st, pending := pe, fn := fn, tmps := a.tmps, params := ps, assign := assign, body := body, defers := w.heap.size }
  have hI1 : I 0 ((w.alloc (.deferred (some []))).alloc (.loop (rc .ready none))) := hI0 _ _ h0
  obtain ⟨W1, hW1⟩ : ∃ W1, W1 = (w.alloc (.deferred (some []))).alloc (.loop (rc .ready none)) := ⟨_, rfl⟩
  have hL1 : W1.heap[w.heap.size + 1]? = some (.loop (rc .ready none)) := by
    rw [hW1]; have := World.alloc_heap_new (w.alloc (.deferred (some []))) (.loop (rc .ready none)); rwa [World.size_alloc] at this
  have hD1 : W1.heap[w.heap.size]? = some (.deferred (some [])) := by
    rw [hW1]; exact (Below.heap_alloc _ _ _ (by simp)).trans (World.alloc_heap_new w _)
  rw [← hW1] at hI1
  have hL : ∀ {W : World} {st : LoopState} {pe : Option Code}, W.heap[w.heap.size + 1]? = some (.loop (rc st pe)) → w.heap.size + 1 < W.heap.size := fun h => (Array.getElem?_eq_some_iff.1 h).1
  refine ⟨w.heap.size + 1, [{ target := .collected w.heap.size, args := #[] }], W1, { target := .fn (.func gf) lb, args := #[.func (.yield (w.heap.size + 1)) #[] #[]] }, W1, gf, #[.func (.yield (w.heap.size + 1)) #[] #[]] ++ lb, W1, ?_, ?_, (fun _ _ => trivial), ?_, (fun h => by simp [Fence.wide] at h), ?_⟩
  · rw [hW1]; exact run_enterLoop_outer _ _ _ _ _
  · simp only [resolve, hg]
    simp [go_sem]
  · simp [invoke, go_sem, eg]
  · refine (hseq (w.heap.size + 1) (fun k W => I k W ∧ W.heap[w.heap.size + 1]? = some (.loop (rc .ready none)) ∧ W.heap[w.heap.size]? = some (.deferred (some []))) W1 ?_ (fun k W h => h.1) ?_ ⟨hI1, hL1, hD1⟩).mono ?_
    · rintro k W W' ⟨h1, h2, h3⟩ hb
      exact ⟨hIl k W W' h1 hb, (hb.block _ (hL h2)).trans h2, (hb.block _ (by have := hL h2; omega)).trans h3⟩
    · rintro k W xs hk ⟨h1, h2, h3⟩ hX
      have hsz := hps k W xs hX
      have hy := run_yield (P := P) (args := xs) h2 hsz
      refine ⟨fn, _, assign, body, hy, roundIn_of_wpIn hfn (hassign _ xs W _ hsz ⟨_, run_beginRound h2 rfl, ?_⟩)⟩
      have hlt := hL h2
      have g2 : (W.putObj (w.heap.size + 1) (.loop { rc .ready none with state := .busy })).heap[w.heap.size + 1]? = some (.loop (rc .busy none)) := World.putObj_heap_same hlt
      have g3 : (W.putObj (w.heap.size + 1) (.loop { rc .ready none with state := .busy })).heap[w.heap.size]? = some (.deferred (some [])) := (World.putObj_heap_other (by omega)).trans h3
      refine wpIn_mono (hbody k xs _ _ hk (hIp k W _ _ h1 h2) (hXp k W xs _ _ hX h2) g3 g2) ?_
      intro e a3 W3 hp
      cases e with
      | normal =>
        obtain ⟨q1, q2, q3⟩ := hp
        rw [g3] at q2
        rw [g2] at q3
        have hr := run_endRound (P := P) none q3
        refine ⟨_, _, hr, rfl, hIp _ W3 _ _ q1 q3, World.putObj_heap_same (hL q3), (World.putObj_heap_other (by omega)).trans q2⟩
      | ret => exact hp.elim
      | exit id => exact hp.elim
      | goto t => exact hp.elim
      | panic ch => exact hp.elim
      | outgrown => exact hp.elim
    · rintro e W2 ⟨⟨v, rfl⟩, h1, h2, h3⟩
      exact ⟨none, _, run_endLoop (P := P) h2 (by simp [rc]), hdone _ (hIp N W2 _ _ h1 h2) ((World.putObj_heap_other (by omega)).trans h3)⟩

end Go.Proofs.YtafkkehcacdodaaGreat

namespace Go.Proofs.YtafkkehcacdodaaGreat
open Go.RowKit Go.Shelf
attribute [local go_sem] Oper.semAt_some

set_option maxHeartbeats 1000000 in
theorem sectors_ok (w : World) (D : Nat) : Calls Tryz.prog 69 #[.pointer (some ⟨D, 0, none⟩)] w fun e w' => e = .returned (.func (.func 98) #[] #[.pointer (some ⟨w.heap.size, 0, none⟩)]) ∧ w' = w.alloc (.cells #[.pointer (some ⟨D, 0, none⟩)] 25) := by
  go_enter Tryz.func69, Tryz.ntmps69
  go_wp2
  go_ret
  exact ⟨rfl, rfl⟩

/-- What is handed over in the k-th round. -/
def HandK (I : Nat → World → Prop) (s : St) (k : Nat) (W : World) (xs : Array Value) : Prop :=
  ∃ Wp g, I k Wp ∧ Below Wp.heap.size Wp W ∧ Wp.heap.size ≤ g ∧ g < W.heap.size ∧ xs = #[.int .i64 k, .slice (some ⟨g, 0, none⟩) 64 64] ∧ Bts W (.slice (some ⟨g, 0, none⟩) 64 64) (sec s.now k)

set_option maxHeartbeats 2000000 in
theorem sectors_iter (n : Nat) (tag : Nat → Nat) (base o : Nat) (s : St) (p : PL) (Bx : Nat) (I : Nat → World → Prop) (hI : ∀ k W, I k W → PD W tag base o s p ∧ W.cell? ⟨Bx, 0, none⟩ = some (.pointer (some ⟨p.D, 0, none⟩))) :
    Iter n Tryz.prog 98 #[.pointer (some ⟨Bx, 0, none⟩)] s.n I (HandK I s) := by
  intro l J W1 hA hJI hY h0
  have hP0 := hI 0 W1 (hJI 0 W1 h0)
  have hn2 := hP0.1.ok.n2
  have hc0 := hP0.2
  have HSz := size_ok W1 tag base o s p hP0.1
  have hln := hP0.1.ok.nl
  have hlb := hP0.1.ok.nb
  clear hP0
  have hwf : ∀ f, Fence.wide.fn f := fun _ => trivial
  have hwd : Fence.wide.depth = none := rfl
  refine callsIn_of_wp Tryz.func98 rfl trivial ?_ rfl
  simp only [Tryz.ntmps98, List.size_toArray, List.length_cons, List.length_nil, Nat.reduceAdd, Nat.reduceSub, Array.replicate_succ, Array.replicate_zero, List.push_toArray, List.append_toArray, List.nil_append, List.cons_append]
  gi_wp2_with (gi_at_call 62; refine (callsIn_wide.2 HSz).mono ?_; rintro e w' ⟨rfl, hx⟩; have HX : Hid (w' = W1) := hx; clear hx; rw [HX.out])
  gi_loopw [8] (fun i wr => ∃ k : Nat, k ≤ s.n ∧ i = .int .i64 k ∧ J k wr) (fun i _ => s.n - (intOf i).toNat)
  case atStart => exact ⟨0, Nat.zero_le _, rfl, h0⟩
  case round =>
    obtain ⟨k, hk, rfl, hJ⟩ := hrel
    obtain ⟨hP, hc⟩ := hI k wr (hJI k wr hJ)
    by_cases hlt : k < s.n
    · have hltI : (k : Int) < (s.n : Int) := by omega
      have HR := read_ok wr tag base o s p hP k hlt
      have hB := below_alloc wr (.cells (bytesV (sec s.now k)).toArray 103)
      obtain ⟨fn, tmps, assign, body, hy, hR⟩ := hY k _ #[.int .i64 k, .slice (some ⟨wr.heap.size, 0, none⟩) 64 64] hlt (hA k wr _ hJ hB) ⟨wr, wr.heap.size, hJI k wr hJ, hB, Nat.le_refl _, by simp, rfl, read_bts wr _ _ _ (Below.refl _ _) (sec_len hln hlt) (sec_bytes hlb k)⟩
      obtain ⟨W2, hW2⟩ : ∃ W2, W2 = wr.alloc (.cells (bytesV (sec s.now k)).toArray 103) := ⟨_, rfl⟩
      rw [← hW2] at hy hR HR
      clear hP hB hW2 hJ HSz
      gi_wp2_with (gi_at_call 63; refine (callsIn_wide.2 HR).mono ?_; rintro e w' ⟨rfl, hx⟩; have HX2 : Hid (w' = W2) := hx; clear hx; rw [HX2.out])
      refine hR.mono ?_
      rintro e W3 ⟨rfl, hJ3⟩
      gi_wp2
      go_roundw
      case rel => exact ⟨k + 1, by omega, by go_num, hJ3⟩
      case measure => simp [intOf]; omega
    · have hke : k = s.n := by omega
      subst hke
      clear hP HSz
      gi_wp2
      go_end0
      exact ⟨⟨_, rfl⟩, hJ⟩

end Go.Proofs.YtafkkehcacdodaaGreat

namespace Go.Proofs.YtafkkehcacdodaaGreat
open Go.RowKit Go.Shelf

/-- An operation that is no defer statement. -/
def plainOp (o : Oper) : Bool := match o.op with | .defer _ => false | _ => true

/-- It ends normally, and nothing else. -/
def nrm (K : Act → World → Prop) : Exit → Act → World → Prop
  | .normal, a, w => K a w
  | _, _, _ => False

theorem ops_round {P : Program} {ops : Array Oper} {K : Act → World → Prop} {l n : Nat} (hd : ∀ (i : Nat) (o : Oper), ops[i]? = some o → ∀ c, o.op ≠ .defer c) :
    ∀ (is : List Nat) (a : Act) (w : World), wpOps P ops (nrm K) is a w → wpOpsIn (Fence.wide.inRound l) n P ops (nrm K) is a w := by
  intro is
  induction is with
  | nil => intro a w h; exact h
  | cons i rest ih =>
    intro a w h
    unfold wpOps at h
    unfold wpOpsIn
    cases ho : ops[i]? with
    | none => simp only [ho] at h ⊢; exact ih a w h
    | some o =>
      simp only [ho] at h ⊢
      by_cases hw : Region.wanted o (yielded ops a.tmps) = true
      · simp only [hw, if_true] at h ⊢
        rcases h with h | ⟨_, x, y, hh⟩
        case inr => exact hh.elim
        refine ⟨fun _ _ => trivial, ?_⟩
        rw [Oper.semAt_plain _ _ _ (hd i o ho)]
        unfold Oper.wp at h
        generalize (execOp a.eval o).run P w = r at *
        cases r with
        | ok x w' =>
          cases x <;> simp only [Oper.upon] at h
          case value v => exact ih _ _ h
          case skip => exact ih _ _ h
          case defer d => exact ih _ _ h
          case enter f args =>
            refine ⟨fun hh => by simp [Fence.wide, Fence.inRound] at hh, CallsIn.inRound l (callsIn_wide.2 (h.mono ?_))⟩
            intro e w'' he
            cases e with
            | returned v => exact ih _ _ he
            | panicked c => exact he
            | outgrown => exact he
          case row row args =>
            refine ⟨fun hh => by simp [Fence.wide, Fence.inRound] at hh, fun c cs _ => ?_⟩
            obtain ⟨v, w', r1, r2⟩ := h c cs
            exact ⟨v, w', ih _ _ r1, stepsIn_wide.2 r2⟩
        | halt x w' =>
          cases x <;> simp only [Oper.upon] at h
          case panic v => exact h.elim
      · simp only [hw] at h ⊢
        exact ⟨fun _ _ => trivial, ih _ _ h⟩

theorem region_round {P : Program} {ops : Array Oper} {Q : Exit → Act → World → Prop} {S : World → Prop} {id l n : Nat} {a : Act} {w : World} (hm : P.follows .mixedOrders = true) (hd : ops.toList.all plainOp = true) (hS : S w.drew)
    (h : S w.drew → wpAnyH P .any ops (nrm (Q .normal)) S ops.size (Array.replicate ops.size false) a w.drew) : (Code.region id ops true).wpIn (Fence.wide.inRound l) n P Q a w := by
  have hd' : ∀ (i : Nat) (o : Oper), ops[i]? = some o → ∀ c, o.op ≠ .defer c := by
    intro i o ho c e
    have hmem : o ∈ ops.toList := Array.mem_toList_iff.2 (Array.mem_of_getElem? ho)
    have := List.all_eq_true.1 hd o hmem
    unfold plainOp at this
    rw [e] at this
    cases this
  refine wpIn_mono (Q := nrm (Q .normal)) (wpIn_region_draw fun t => ops_round hd' _ a _ ?_) ?_
  · simp only [Region.schedule, hm, Bool.true_or, if_true]
    exact wpAny_sound ops.size t _ a _ (wpAny_of_held _ _ _ _ (h hS))
  · intro e a w hq
    cases e with
    | normal => exact hq
    | _ => exact hq.elim

end Go.Proofs.YtafkkehcacdodaaGreat

namespace Go.Proofs.YtafkkehcacdodaaGreat
open Go.RowKit Go.Shelf
attribute [local go_sem] Oper.semAt_some

/-- Bodies that Scan answered, none of them appended to yet. -/
structure Got (w : World) (tag : Nat → Nat) (T N B O : Nat) (lvs : List Value) (ls : List (List Int)) : Prop where
  cell : ∀ i, i < ls.length → w.cell? ⟨B, O + i, none⟩ = some (lvs.getD i undef)
  tB : ls ≠ [] → tag B = T ∧ B < w.heap.size
  bt : ∀ i, i < ls.length → Bts w (lvs.getD i undef) (ls.getD i [])
  tE : ∀ i, i < ls.length → ∀ g, (lvs.getD i undef).ownBlock = some g → tag g = T ∧ N ≤ g ∧ g < w.heap.size

theorem cell_same {w w' : World} {g : Nat} (h : w'.heap[g]? = w.heap[g]?) (j : Nat) : w'.cell? ⟨g, j, none⟩ = w.cell? ⟨g, j, none⟩ := by unfold World.cell?; simp only [h]
theorem frozen_same {w w' : World} {g : Nat} (h : w'.heap[g]? = w.heap[g]?) (j : Nat) : w'.frozen? ⟨g, j, none⟩ = w.frozen? ⟨g, j, none⟩ := by unfold World.frozen?; simp only [h]

theorem Got.keep {w w' : World} {tag tag' : Nat → Nat} {T N B O : Nat} {lvs : List Value} {ls : List (List Int)} (h : Got w tag T N B O lvs ls) (hk : ∀ g, g < w.heap.size → tag g = T → w'.heap[g]? = w.heap[g]?) (ht : ∀ g, g < w.heap.size → tag' g = tag g) (hs : w.heap.size ≤ w'.heap.size) : Got w' tag' T N B O lvs ls := by
  have hne : ∀ i, i < ls.length → ls ≠ [] := fun i hi e => by rw [e] at hi; simp at hi
  exact ⟨fun i hi => by rw [cell_same (hk B (h.tB (hne i hi)).2 (h.tB (hne i hi)).1)]; exact h.cell i hi, fun hn => ⟨by rw [ht _ (h.tB hn).2]; exact (h.tB hn).1, Nat.lt_of_lt_of_le (h.tB hn).2 hs⟩,
    fun i hi => bts_same (h.bt i hi) (fun g hg hlt => hk g hlt (h.tE i hi g hg).1), fun i hi g hg => ⟨by rw [ht _ (h.tE i hi g hg).2.2]; exact (h.tE i hi g hg).1, (h.tE i hi g hg).2.1, Nat.lt_of_lt_of_le (h.tE i hi g hg).2.2 hs⟩⟩

theorem got_of_lst {w w1 : World} {v : Value} {vs : List Value} {ls : List (List Int)} (h : Lst w1 w.heap.size v vs ls) (tag : Nat → Nat) (T N : Nat) (hN : N ≤ w.heap.size) : ∃ A B O c, v = .slice A ls.length c ∧ ls.length ≤ c ∧ c ≤ maxLen ∧ (A = some ⟨B, O, none⟩ ∨ ls = []) ∧ Got w1 (tagOver tag w.heap.size T) T N B O vs ls := by
  rcases h.win.2 with ⟨e, h0⟩ | ⟨B, O, c, cs, e, hb, h2, h3, h4, h5⟩
  · have hn : ls = [] := List.eq_nil_of_length_eq_zero h0
    refine ⟨none, 0, 0, 0, by rw [e, h0], by omega, by decide, .inr hn, ?_⟩
    subst hn
    exact ⟨fun i hi => by simp at hi, fun hh => absurd rfl hh, fun i hi => by simp at hi, fun i hi => by simp at hi⟩
  · refine ⟨_, B, O, c, e, h2, h3, .inl rfl, ⟨?_, ?_, h.bts, ?_⟩⟩
    · intro i hi
      have hvl : vs.length = ls.length := by have := h.win.1; omega
      have := hb.range O (ls.length * 1) i (vs.getD i undef) (by rw [h5]; simp [List.getD, List.getElem?_eq_getElem (show i < vs.length by omega)])
      exact this
    · intro _
      exact ⟨tagOver_ge _ _ _ _ (h.blk B (by rw [e]; rfl)), hb.lt⟩
    · intro i hi g hg
      obtain ⟨e1, e2, _⟩ := h.ent i hi g hg
      exact ⟨tagOver_ge _ _ _ _ e1, by omega, e2⟩

/-- Between two rounds of Open. -/
structure OpI (w : World) (tag : Nat → Nat) (o' D : Nat) (t : Sd) (W : World) : Prop where
  po : ∃ tag' rv vs, PO W tag' w.heap.size o' D t ⟨w.heap.size, rv, vs⟩ ∧ (∀ j, j < w.heap.size → tag' j = tag j) ∧ (∀ j, w.heap.size < j → j < w.heap.size + 5 → tag' j = 0)
  cV : W.cell? ⟨w.heap.size + 1, 0, none⟩ = some (.pointer (some ⟨w.heap.size, 0, none⟩))
  cB : W.cell? ⟨w.heap.size + 2, 0, none⟩ = some (.pointer (some ⟨D, 0, none⟩))
  below : Below w.heap.size w W
  sz : w.heap.size + 5 ≤ W.heap.size

theorem OpI.later {w : World} {tag : Nat → Nat} {o' D : Nat} {t : Sd} {W W' : World} (h : OpI w tag o' D t W) (hb : Below W.heap.size W W') : OpI w tag o' D t W' := by
  obtain ⟨tag', rv, vs, h1, h2, h3⟩ := h.po
  exact ⟨⟨tag', rv, vs, h1.later hb, h2, h3⟩, cell_later hb h.cV, cell_later hb h.cB, h.below.trans (hb.mono h.below.size), Nat.le_trans h.sz hb.size⟩

theorem size_putObj (W : World) (l : Nat) (o : Obj) : (W.putObj l o).heap.size = W.heap.size := by simp [World.putObj]

theorem OpI.put {w : World} {tag : Nat → Nat} {o' D : Nat} (ho : 1 ≤ o') {t : Sd} {W : World} (h : OpI w tag o' D t W) (j : Nat) (hj1 : w.heap.size + 3 ≤ j) (hj2 : j < w.heap.size + 5) (x : Obj) : OpI w tag o' D t (W.putObj j x) := by
  obtain ⟨tag', rv, vs, h1, h2, h3⟩ := h.po
  have hs := h.sz
  have hk : ∀ k, k ≠ j → (W.putObj j x).heap[k]? = W.heap[k]? := fun k hk => World.putObj_heap_other hk
  refine ⟨⟨tag', rv, vs, h1.keep (fun k hk' ht => hk k (fun e => ?_)) (fun _ _ => rfl) (by rw [size_putObj]; exact Nat.le_refl _), h2, h3⟩, ?_, ?_, ?_, by rw [size_putObj]; exact hs⟩
  · have := h3 k (by omega) (by omega)
    rw [this] at ht
    omega
  · rw [cell_same (hk _ (by omega))]; exact h.cV
  · rw [cell_same (hk _ (by omega))]; exact h.cB
  · exact h.below.grown (grownBy_putObj' W _ x) h.below.size (fun k e => by cases e; omega)

theorem bts_put {W : World} {v : Value} {l : List Int} (h : Bts W v l) {L : Nat} {r : Loop} (hL : W.heap[L]? = some (.loop r)) (x : Obj) : Bts (W.putObj L x) v l := by
  obtain ⟨a, cap, b, off, rfl, h1, h2, h3, h4, h5⟩ := h
  refine ⟨a, cap, b, off, rfl, h1, h2, h3, h4, fun i hi => ?_⟩
  have hc := h5 i hi
  by_cases e : b = L
  · subst e
    exfalso
    unfold World.cell? at hc
    simp [hL] at hc
  · rw [cell_same (World.putObj_heap_other e)]; exact hc

theorem below_put {w W : World} (h : Below w.heap.size w W) {L : Nat} (hL : L < w.heap.size) (x : Obj) : Below (w.putObj L x).heap.size (w.putObj L x) (W.putObj L x) := by
  refine ⟨h.os, h.tape, h.output, by rw [size_putObj, size_putObj]; exact h.size, fun k hk => ?_⟩
  rw [size_putObj] at hk
  by_cases e : k = L
  · subst e
    rw [World.putObj_heap_same hL, World.putObj_heap_same (Nat.lt_of_lt_of_le hL h.size)]
  · rw [World.putObj_heap_other e, World.putObj_heap_other e]; exact h.block k hk

theorem openK_step (now : List Int) (k : Nat) : openK now (k + 1) = ⟨if allz (sec now k) then (openK now k).pos else k + 1, 0, (openK now k).recs ++ (scanB (sec now k)).map fun b => (k, b)⟩ := rfl

theorem map_take_snoc (ls : List (List Int)) (k j : Nat) (h : j < ls.length) : (ls.take (j + 1)).map (fun b => ((k : Nat), b)) = (ls.take j).map (fun b => (k, b)) ++ [(k, ls.getD j [])] := by
  rw [List.take_succ_eq_append_getElem h, List.map_append, List.getD_eq_getElem?_getD, List.getElem?_eq_getElem h]
  rfl

theorem PO.low {w : World} {tag : Nat → Nat} {base base' o D : Nat} {t : Sd} {q : SL} (h : PO w tag base o D t q) (hb : base' ≤ base) : PO w tag base' o D t q :=
  ⟨h.bS, h.wR, h.lv, h.bt, ⟨h.tS.1, Nat.le_trans hb h.tS.2⟩, fun g hg => ⟨(h.tR g hg).1, Nat.le_trans hb (h.tR g hg).2⟩, fun i hi g hg => ⟨(h.tB i hi g hg).1, Nat.le_trans hb (h.tB i hi g hg).2.1, (h.tB i hi g hg).2.2⟩⟩

set_option maxHeartbeats 8000000 in
theorem open_ok (w : World) (tag : Nat → Nat) (base o o' : Nat) (ho2 : 1 ≤ o') (s : St) (p : PL) (h : PD w tag base o s p) (hbase : base ≤ w.heap.size) :
    Calls Tryz.prog 30 #[.pointer (some ⟨p.D, 0, none⟩)] w fun e w' => ∃ q tag', e = .returned (.tuple #[.pointer (some ⟨q.S, 0, none⟩), .int .i64 0]) ∧ PO w' tag' base o' p.D (openT s) q ∧ (∀ k, k < w.heap.size → tag' k = tag k) ∧ Below w.heap.size w w' := by
  have hwf : ∀ f, Fence.wide.fn f := fun _ => trivial
  have hwd : Fence.wide.depth = none := rfl
  have HPD : Hid (PD w tag base o s p) := h
  have hn2 := h.ok.n2
  have hln := h.ok.nl
  have hlb := h.ok.nb
  clear h
  refine (callsIn_wide (n := 10)).1 ?_
  refine callsIn_of_wp_marks Tryz.func30 rfl trivial ?_ rfl
  simp only [Tryz.ntmps30, List.size_toArray, List.length_cons, List.length_nil, Nat.reduceAdd, Nat.reduceSub, Array.replicate_succ, Array.replicate_zero, List.push_toArray, List.append_toArray, List.nil_append, List.cons_append]
  gi_wp2_with (gi_at_call 69; refine (callsIn_wide.2 (sectors_ok _ _)).mono ?_; rintro e w' ⟨rfl, rfl⟩)
  obtain ⟨W0, hW0⟩ : ∃ W0, W0 = ((w.alloc (.cells #[.pointer (some ⟨p.D, 0, none⟩), .int .i64 0, .int .i64 0, .slice none 0 0] 133)).alloc (.cells #[.pointer (some ⟨w.heap.size, 0, none⟩)] 75)).alloc (.cells #[.pointer (some ⟨p.D, 0, none⟩)] 25) := ⟨_, rfl⟩
  rw [← hW0]
  have hsz0 : W0.heap.size = w.heap.size + 3 := by rw [hW0]; simp
  have hB0 : Below w.heap.size w W0 := by rw [hW0]; exact ((below_alloc w _).alloc (by simp) _).alloc (by simp; omega) _
  have HI0 : Hid (∀ W, Below W0.heap.size W0 W → w.heap.size + 5 ≤ W.heap.size → OpI w tag o' p.D (openK s.now 0) W) := by
    intro W hB hsz
    have b0 := blk_new w #[.pointer (some ⟨p.D, 0, none⟩), .int .i64 0, .int .i64 0, .slice none 0 0] 133
    have b1 := blk_new (w.alloc (.cells #[.pointer (some ⟨p.D, 0, none⟩), .int .i64 0, .int .i64 0, .slice none 0 0] 133)) #[.pointer (some ⟨w.heap.size, 0, none⟩)] 75
    have b2 := blk_new ((w.alloc (.cells #[.pointer (some ⟨p.D, 0, none⟩), .int .i64 0, .int .i64 0, .slice none 0 0] 133)).alloc (.cells #[.pointer (some ⟨w.heap.size, 0, none⟩)] 75)) #[.pointer (some ⟨p.D, 0, none⟩)] 25
    have e1 := (b0.later (below_alloc _ (.cells #[.pointer (some ⟨w.heap.size, 0, none⟩)] 75))).later (below_alloc _ (.cells #[.pointer (some ⟨p.D, 0, none⟩)] 25))
    have e2 := b1.later (below_alloc _ (.cells #[.pointer (some ⟨p.D, 0, none⟩)] 25))
    rw [← hW0] at e1 e2 b2
    rw [World.size_alloc] at e2 b2
    rw [World.size_alloc] at b2
    refine ⟨⟨fun j => if j < w.heap.size then tag j else if j = w.heap.size then 16 * o' + 7 else 0, .slice none 0 0, [], ⟨e1.later hB, win_nil _ _, rfl, fun i hi => by simp [openK] at hi, ⟨by simp, Nat.le_refl _⟩, fun g hg => by simp [Value.ownBlock] at hg, fun i hi => by simp [openK] at hi⟩, fun j hj => by simp [hj], (fun j h1 h2 => by show (if j < w.heap.size then tag j else if j = w.heap.size then 16 * o' + 7 else 0) = 0; rw [if_neg (by omega), if_neg (by omega)])⟩, (e2.later hB).cell 0, (b2.later hB).cell 0, hB0.trans (hB.mono (by omega)), hsz⟩
  clear hW0
  refine range_all (N := s.n) (gf := 98) (lb := #[.pointer (some ⟨w.heap.size + 1 + 1, 0, none⟩)]) rfl (enters_of Tryz.func98 (by kernel_rfl) rfl) (fun k W => OpI w tag o' p.D (openK s.now k) W) (HandK (fun k W => OpI w tag o' p.D (openK s.now k) W) s)
    (sectors_iter 9 tag base o s p (w.heap.size + 2) _ (fun k W hI => ⟨HPD.out.later hI.below, hI.cB⟩)) ?hps (fun k W W' hI hb => hI.later hb) ?hIp ?hXp ?h0 ?hI0
    (fun xs => { tmps := #[.pointer (some ⟨p.D, 0, none⟩), undef, .pointer none, .int .i64 0, .pointer (some ⟨w.heap.size + 1, 0, none⟩), xs.getD 0 undef, xs.getD 1 undef, undef, undef, .pointer (some ⟨p.D, 0, none⟩), .bool false, .pointer (some ⟨p.D, 0, none⟩), .agg #[.pointer (some ⟨p.D, 0, none⟩), .int .i64 0, .int .i64 0, .slice none 0 0], .pointer (some ⟨w.heap.size, 0, none⟩), .pointer (some ⟨p.D, 0, none⟩), .func (.func 98) #[] #[.pointer (some ⟨w.heap.size + 1 + 1, 0, none⟩)], xs.getD 0 undef, xs.getD 1 undef, undef, undef, undef, undef, undef, undef, undef, undef, undef, undef, undef, undef, undef, undef, undef, undef, undef, undef, undef, undef, undef, undef, undef, undef, undef, undef, undef, undef, undef], defers := [] }) ?assign ?body ?done
  case hps =>
    rintro k W xs ⟨_, g, _, _, _, _, rfl, _⟩
    rfl
  case hIp =>
    intro k W r r' hI hL
    rw [hsz0]
    exact hI.put ho2 (w.heap.size + 4) (by omega) (by omega) _
  case hXp =>
    rintro k W xs r r' ⟨Wp, g, hI, hB, hg, hg2, rfl, hbt⟩ hL
    have hs := hI.sz
    refine ⟨Wp.putObj (W0.heap.size + 1) (.loop r'), g, ?_, below_put hB (by omega) _, by rw [size_putObj]; exact hg, by rw [size_putObj]; exact hg2, rfl, bts_put hbt hL _⟩
    rw [hsz0]
    exact hI.put ho2 (w.heap.size + 4) (by omega) (by omega) _
  case h0 =>
    refine HI0.out _ ((below_alloc W0 _).alloc (by simp) _) (by simp; omega)
  case hI0 =>
    intro r r' _
    exact HI0.out _ ((below_alloc W0 _).alloc (by simp) _) (by simp; omega)
  case assign =>
    intro l xs W K hxs hK
    obtain ⟨x, y, rfl⟩ : ∃ x y, xs = #[x, y] := by
      have : xs.size = 2 := hxs
      match xs, this with
      | ⟨[x, y]⟩, _ => exact ⟨x, y, rfl⟩
    gi_wp2
    exact hK
  case done =>
    intro W hI hD
    have cV := hI.cV
    have HI : Hid (OpI w tag o' p.D (openK s.now s.n) W) := hI
    have HD : Hid (W.heap[W0.heap.size]? = some (.deferred (some []))) := hD
    clear hI hD
    gi_wp2
    refine ⟨by simp, .inl ⟨_, _, rfl, run_takeDeferred HD.out, ?_⟩⟩
    have hI2 := HI.out.put ho2 W0.heap.size (by omega) (by omega) (.deferred none)
    obtain ⟨tag', rv, vs, h1, h2, h3⟩ := hI2.po
    exact ⟨_, results_tmp2 rfl _ _ _, ⟨w.heap.size, rv, vs⟩, tag', rfl, h1.low hbase, h2, hI2.below⟩
  case body =>
    rintro k xs W r hk _ ⟨Wp, g, hI, hBp, hgp, hg2, rfl, hbt⟩ hD hL
    obtain ⟨i0, hi, hz0, hz1, hz2⟩ := info_parts infoR
    have hsl : (sec s.now k).length = 64 := sec_len hln hk
    have hkI : (k : Int) < 4096 := by omega
    obtain ⟨tagp, rv, vs, hPOp, ht1, ht2⟩ := hI.po
    have hszp := hI.sz
    have hbelp := hI.below
    have hPO := hPOp.clip hBp
    have cVp := hI.cV
    have HSc := scan_ok W _ (sec s.now k) hbt (by omega)
    have hokk := openK_ok s.now s.n hln hlb k (by omega)
    have HBT : Hid (Bts W (.slice (some ⟨g, 0, none⟩) 64 64) (sec s.now k)) := hbt
    have HIB : Hid (Below w.heap.size w W) := hbelp.trans (hBp.mono hbelp.size)
    have HBp : Hid (Below Wp.heap.size Wp W) := hBp
    have hszW : w.heap.size + 5 ≤ W.heap.size := Nat.le_trans hszp hBp.size
    have HCB : Hid (Wp.cell? ⟨w.heap.size + 2, 0, none⟩ = some (.pointer (some ⟨p.D, 0, none⟩))) := hI.cB
    have HCV : Hid (Wp.cell? ⟨w.heap.size + 1, 0, none⟩ = some (.pointer (some ⟨w.heap.size, 0, none⟩))) := cVp
    have HT1 : Hid (∀ j, j < w.heap.size → clip tagp Wp.heap.size j = tag j) := fun j hj => by rw [clip_lt _ _ _ (by omega)]; exact ht1 j hj
    have HT2 : Hid (∀ j, w.heap.size < j → j < w.heap.size + 5 → clip tagp Wp.heap.size j = 0) := fun j h1 h2 => by rw [clip_lt _ _ _ (by omega)]; exact ht2 j h1 h2
    have HTg : Hid (clip tagp Wp.heap.size g = 0) := by show _ = _; simp [Go.Proofs.YtafkkehcacdodaaGreat.clip, Nat.not_lt.2 hgp]
    have HPO : Hid (PO W (clip tagp Wp.heap.size) w.heap.size o' p.D (openK s.now k) ⟨w.heap.size, rv, vs⟩) := hPO
    clear hI hPO hPOp hbelp hBp hbt ht1 ht2 cVp
    generalize hTG : clip tagp Wp.heap.size = tagW at *
    clear hTG
    generalize hLS : scanB (sec s.now k) = ls at *
    have hlsn : ls.length ≤ 8 := by have := scanB_len 64 (sec s.now k) (by omega); rw [hLS] at this; omega
    have hlsb : ∀ x ∈ ls, isBytes x ∧ 1 ≤ x.length ∧ x.length ≤ 56 := by rw [← hLS]; exact scanB_all 64 _ (by omega) (sec_bytes hlb k)
    have HLS : Hid (scanB (sec s.now k) = ls) := hLS
    clear hLS
    gi_wp2_with (gi_at_call 64; refine (CallsIn.inRound _ (callsIn_wide.2 HSc)).mono ?_; rintro e W1 ⟨lv, lvs, rfl, hLst, hB1⟩; obtain ⟨A, LB, LO, lc, rfl, hlc, hlm, hA, hG⟩ := got_of_lst hLst tagW (16 * o' + 9) w.heap.size (by omega); clear hLst)
    unfold maxLen at hlm
    have hS1 : Step tagW (tagOver tagW W.heap.size (16 * o' + 9)) w.heap.size o' W W1 := step_over tagW w.heap.size o' (16 * o' + 9) (by omega) hB1
    have hPO1 : PO W1 (tagOver tagW W.heap.size (16 * o' + 9)) w.heap.size o' p.D (openK s.now k) ⟨w.heap.size, rv, vs⟩ := HPO.out.keep (fun j hj _ => hB1.block j hj) hS1.tags hB1.size
    have HS1 : Hid (Step tagW (tagOver tagW W.heap.size (16 * o' + 9)) w.heap.size o' W W1) := hS1
    generalize hT1 : tagOver tagW W.heap.size (16 * o' + 9) = tag1 at *
    clear hT1 hS1
    have hsz1 := hB1.size
    gi_loopw [21] (fun i wr => ∃ (j : Nat) (tag2 : Nat → Nat) (rv2 : Value) (vs2 : List Value), j ≤ ls.length ∧ i = .int .i64 j ∧ PO wr tag2 w.heap.size o' p.D ⟨(openK s.now k).pos, (openK s.now k).used, (openK s.now k).recs ++ (ls.take j).map fun b => (k, b)⟩ ⟨w.heap.size, rv2, vs2⟩ ∧ Step tag1 tag2 w.heap.size o' W1 wr ∧ Got wr tag2 (16 * o' + 9) w.heap.size LB LO lvs ls) (fun i _ => ls.length - (intOf i).toNat)
    case atStart => exact ⟨0, tag1, rv, vs, Nat.zero_le _, rfl, by simpa using hPO1, Step.refl _ _ _ _, hG⟩
    case round =>
      obtain ⟨j, tag2, rv2, vs2, hj, rfl, hP2, hS2, hG2⟩ := hrel
      have HS12 : Hid (Step2 tagW tag2 w.heap.size o' o' W wr) := (HS1.out.two1 o').trans (hS2.two1 o')
      have hszr : W.heap.size ≤ wr.heap.size := Nat.le_trans hsz1 hS2.below.size
      have cV : wr.cell? ⟨w.heap.size + 1, 0, none⟩ = some (.pointer (some ⟨w.heap.size, 0, none⟩)) := by
        rw [cell_same (HS12.out.kept _ (by omega) (by rw [HT2.out _ (by omega) (by omega)]; omega) (by rw [HT2.out _ (by omega) (by omega)]; omega))]
        exact cell_later HBp.out HCV.out
      by_cases hlt : j < ls.length
      · have hltI : (j : Int) < (ls.length : Int) := by omega
        rcases hA with rfl | hnil
        case inr => rw [hnil] at hlt; simp at hlt
        have hcel := hG2.cell j hlt
        have hbj := hG2.bt j hlt
        have htj := hG2.tE j hlt
        have HMT : Hid ((ls.take (j + 1)).map (fun b => (k, b)) = (ls.take j).map (fun b => (k, b)) ++ [(k, ls.getD j [])]) := map_take_snoc ls k j hlt
        generalize lvs.getD j undef = u at *
        generalize hx : ls.getD j [] = x at *
        clear hx
        obtain ⟨ua, uc, huv, _⟩ := bts_src hbj
        subst huv
        have d3 := hP2.s3
        obtain ⟨ra, rc, hrv, hr1, hr2⟩ := hP2.rform
        have hrv' : rv2 = .slice ra ((openK s.now k).recs ++ (ls.take j).map fun b => (k, b)).length rc := hrv
        have hrl : ((openK s.now k).recs ++ (ls.take j).map fun b => (k, b)).length ≤ 100000 := by
          rw [List.length_append, List.length_map, List.length_take]; omega
        have HWn : Hid (Win wr 2 (.slice ra ((openK s.now k).recs ++ (ls.take j).map fun b => (k, b)).length rc) ((openK s.now k).recs ++ (ls.take j).map fun b => (k, b)).length (rcells ((openK s.now k).recs ++ (ls.take j).map fun b => (k, b)) vs2)) := by
          have := hP2.wR
          show Win _ _ _ _ _
          rw [← hrv']
          exact this
        have d3' : wr.cell? ⟨w.heap.size, 3, none⟩ = some (.slice ra ((openK s.now k).recs ++ (ls.take j).map fun b => (k, b)).length rc) := by rw [← hrv']; exact d3
        have HAP : Hid (∀ v' w3, (wr.alloc (.cells #[.int .i64 k, .slice ua x.length uc] 138)).drew.grownBy w3 (Value.slice ra ((openK s.now k).recs ++ (ls.take j).map fun b => (k, b)).length rc).ownBlock → (v'.ownBlock = (Value.slice ra ((openK s.now k).recs ++ (ls.take j).map fun b => (k, b)).length rc).ownBlock ∨ v'.ownBlock = some (wr.alloc (.cells #[.int .i64 k, .slice ua x.length uc] 138)).drew.heap.size) →
            Win w3 2 v' (((openK s.now k).recs ++ (ls.take j).map fun b => (k, b)).length + 1) (rcells ((openK s.now k).recs ++ (ls.take j).map fun b => (k, b)) vs2 ++ [.int .i64 k, .slice ua x.length uc]) →
            (∃ tag3, PO (w3.setCell ⟨w.heap.size, 3, none⟩ v') tag3 w.heap.size o' p.D ⟨(openK s.now k).pos, (openK s.now k).used, (openK s.now k).recs ++ (ls.take (j + 1)).map fun b => (k, b)⟩ ⟨w.heap.size, v', vs2 ++ [.slice ua x.length uc]⟩ ∧ Step tag1 tag3 w.heap.size o' W1 (w3.setCell ⟨w.heap.size, 3, none⟩ v') ∧ Got (w3.setCell ⟨w.heap.size, 3, none⟩ v') tag3 (16 * o' + 9) w.heap.size LB LO lvs ls) ∧
            w3.cell? ⟨w.heap.size, 3, none⟩ = some (.slice ra ((openK s.now k).recs ++ (ls.take j).map fun b => (k, b)).length rc) ∧ w3.frozen? ⟨w.heap.size, 3, none⟩ = false ∧ w3.cell? ⟨w.heap.size + 1, 0, none⟩ = some (.pointer (some ⟨w.heap.size, 0, none⟩)) ∧ (w3.setCell ⟨w.heap.size, 3, none⟩ v').cell? ⟨w.heap.size + 1, 0, none⟩ = some (.pointer (some ⟨w.heap.size, 0, none⟩))) := by
          intro v' w3 hg ha hw
          rw [← hrv'] at hg ha
          have hBx : Below wr.heap.size wr (wr.alloc (.cells #[.int .i64 k, .slice ua x.length uc] 138)).drew := (below_alloc wr _).drew
          obtain ⟨tag3, e1, e2, e3⟩ := hP2.pushed (by omega) hBx k x _ v' hbj htj hg ha hw
          have hsx := hBx.size
          have hne : rv2.ownBlock ≠ some w.heap.size := fun e => by have a := (hP2.tR _ e).1; have b : tag2 w.heap.size = 16 * o' + 7 := hP2.tS.1; rw [b] at a; omega
          have hneV : rv2.ownBlock ≠ some (w.heap.size + 1) := fun e => by
            have a := (hP2.tR _ e).1
            rw [HS12.out.tags _ (by omega), HT2.out _ (by omega) (by omega)] at a
            omega
          have hbl : Blk w3 w.heap.size _ := hP2.bS.same ((hg.block w.heap.size (by omega) (fun e => hne e.symm)).trans (hBx.block w.heap.size (by omega)))
          have hcV3 : w3.cell? ⟨w.heap.size + 1, 0, none⟩ = some (.pointer (some ⟨w.heap.size, 0, none⟩)) := by
            rw [cell_same ((hg.block (w.heap.size + 1) (by omega) (fun e => hneV e.symm)).trans (hBx.block (w.heap.size + 1) (by omega)))]; exact cV
          refine ⟨⟨tag3, ?_, hS2.trans e2, ?_⟩, by rw [← hrv']; exact hbl.cell 3, hbl.frozen 3, hcV3, by rw [World.cell?_setCell_far _ _ _ _ (by show w.heap.size ≠ w.heap.size + 1; omega)]; exact hcV3⟩
          · rw [HMT.out, ← List.append_assoc]; exact e1
          · exact hG2.keep (fun g' hg' ht' => e3 g' hg' ht') e2.tags e2.below.size
        have hSlt : w.heap.size < wr.heap.size := by omega
        have hVlt : w.heap.size + 1 < wr.heap.size := by omega
        have cVa : Hid ((wr.alloc (.cells #[.int .i64 k, .slice ua x.length uc] 138)).cell? ⟨w.heap.size + 1, 0, none⟩ = some (.pointer (some ⟨w.heap.size, 0, none⟩))) := cell_later (below_alloc wr _) cV
        generalize hRN : ((openK s.now k).recs ++ (ls.take j).map fun b => (k, b)).length = rn at *
        generalize hRC : rcells ((openK s.now k).recs ++ (ls.take j).map fun b => (k, b)) vs2 = rcs at *
        unfold maxLen at hr2
        clear hrv hrv' hP2 hS2 hG2 hbj htj d3 hRN hRC
        gi_wp2
        refine region_round (S := fun w' => w'.cell? ⟨w.heap.size + 1, 0, none⟩ = some (.pointer (some ⟨w.heap.size, 0, none⟩))) (by kernel_rfl) (by kernel_rfl) cV (fun hHeld => ?_)
        refine wpAnyH_take (i := 0) (oi := { dst := some 25, op := Op.load 75 (Operand.tmp 4), type := 75, pos := "strand.go:109", after := #[], guard := none }) (v := .pointer (some ⟨w.heap.size, 0, none⟩)) rfl (by kernel_rfl) (by kernel_rfl) (by kernel_rfl) (fun _ _ _ h => h) (Or.inl ⟨by rfl, by intro wS hSw; go_simp⟩) hHeld ?_
        simp only [Act.put, List.setIfInBounds_toArray, List.set_cons_zero, List.set_cons_succ]
        refine wpAnyH_take (i := 1) (oi := { dst := some 26, op := Op.load 75 (Operand.tmp 4), type := 75, pos := "strand.go:109", after := #[], guard := none }) (v := .pointer (some ⟨w.heap.size, 0, none⟩)) rfl (by kernel_rfl) (by kernel_rfl) (by kernel_rfl) (fun _ _ _ h => h) (Or.inl ⟨by rfl, by intro wS hSw; go_simp⟩) hHeld ?_
        simp only [Act.put, List.setIfInBounds_toArray, List.set_cons_zero, List.set_cons_succ]
        refine wpAnyH_take (i := 2) (oi := { dst := some 27, op := Op.nilCheck (Operand.tmp 26), type := 0, pos := "strand.go:109", after := #[{ on := 1, ground := Ground.data }], guard := none }) (v := .pointer (some ⟨w.heap.size, 0, none⟩)) rfl (by kernel_rfl) (by kernel_rfl) (by kernel_rfl) (fun _ _ _ h => h) (Or.inl ⟨by rfl, by intro wS hSw; go_simp⟩) hHeld ?_
        simp only [Act.put, List.setIfInBounds_toArray, List.set_cons_zero, List.set_cons_succ]
        refine wpAnyH_take (i := 3) (oi := { dst := some 28, op := Op.fieldAddr 133 (Operand.tmp 27) 3, type := 0, pos := "strand.go:109", after := #[{ on := 2, ground := Ground.data }], guard := none }) (v := .pointer (some ⟨w.heap.size, 3, none⟩)) rfl (by kernel_rfl) (by kernel_rfl) (by kernel_rfl) (fun _ _ _ h => h) (Or.inl ⟨by rfl, by intro wS hSw; go_simp⟩) hHeld ?_
        simp only [Act.put, List.setIfInBounds_toArray, List.set_cons_zero, List.set_cons_succ]
        refine wpAnyH_take (i := 5) (oi := { dst := some 30, op := Op.move (Operand.tmp 5), type := 3, pos := "strand.go:109", after := #[], guard := none }) (v := .int .i64 k) rfl (by kernel_rfl) (by kernel_rfl) (by kernel_rfl) (fun _ _ _ h => h) (Or.inl ⟨by rfl, by intro wS hSw; go_simp⟩) hHeld ?_
        simp only [Act.put, List.setIfInBounds_toArray, List.set_cons_zero, List.set_cons_succ]
        refine wpAnyH_take (i := 6) (oi := { dst := some 31, op := Op.move (Operand.tmp 8), type := 39, pos := "strand.go:109", after := #[], guard := none }) (v := .slice ua x.length uc) rfl (by kernel_rfl) (by kernel_rfl) (by kernel_rfl) (fun _ _ _ h => h) (Or.inl ⟨by rfl, by intro wS hSw; go_simp⟩) hHeld ?_
        simp only [Act.put, List.setIfInBounds_toArray, List.set_cons_zero, List.set_cons_succ]
        refine wpAnyH_take (i := 7) (oi := { dst := some 32, op := Op.build 138 #[(0, Operand.tmp 30), (1, Operand.tmp 31)], type := 138, pos := "strand.go:109", after := #[{ on := 5, ground := Ground.data }, { on := 6, ground := Ground.data }], guard := none }) (v := .agg #[.int .i64 k, .slice ua x.length uc]) rfl (by kernel_rfl) (by kernel_rfl) (by kernel_rfl) (fun _ _ _ h => h) (Or.inl ⟨by rfl, by intro wS hSw; go_simp⟩) hHeld ?_
        simp only [Act.put, List.setIfInBounds_toArray, List.set_cons_zero, List.set_cons_succ]
        refine wpAnyH_ready (rs := [4, 8]) (by kernel_rfl) (by simp) (AllReadyH.cons (o := { dst := some 29, op := Op.load 131 (Operand.tmp 28), type := 131, pos := "strand.go:109", after := #[{ on := 3, ground := Ground.data }], guard := none }) rfl (fun K hK => ?wayA) (AllReadyH.cons (o := { dst := some 33, op := Op.buildSlice 131 1 #[(0, Operand.tmp 32)], type := 131, pos := "strand.go:109", after := #[{ on := 7, ground := Ground.data }], guard := none }) rfl (fun K hK => ?wayB) AllReadyH.nil))
        case' wayA =>
          go_simp
          refine hK.out _ _ cV (fun hHeld => ?_)
          clear hK K
          try simp only [Act.put, List.setIfInBounds_toArray, List.set_cons_zero, List.set_cons_succ]
          refine wpAnyH_ready (rs := [8]) (by kernel_rfl) (by simp) (AllReadyH.cons (o := { dst := some 33, op := Op.buildSlice 131 1 #[(0, Operand.tmp 32)], type := 131, pos := "strand.go:109", after := #[{ on := 7, ground := Ground.data }], guard := none }) rfl (fun K hK => ?_) AllReadyH.nil)
          go_simp
          refine hK.out _ _ cVa.out (fun hHeld => ?_)
          clear hK K
          try simp only [Act.put, List.setIfInBounds_toArray, List.set_cons_zero, List.set_cons_succ]
        case' wayB =>
          go_simp
          refine hK.out _ _ cVa.out (fun hHeld => ?_)
          clear hK K
          try simp only [Act.put, List.setIfInBounds_toArray, List.set_cons_zero, List.set_cons_succ]
          refine wpAnyH_ready (rs := [4]) (by kernel_rfl) (by simp) (AllReadyH.cons (o := { dst := some 29, op := Op.load 131 (Operand.tmp 28), type := 131, pos := "strand.go:109", after := #[{ on := 3, ground := Ground.data }], guard := none }) rfl (fun K hK => ?_) AllReadyH.nil)
          go_simp
          refine hK.out _ _ cVa.out (fun hHeld => ?_)
          clear hK K
          try simp only [Act.put, List.setIfInBounds_toArray, List.set_cons_zero, List.set_cons_succ]
        all_goals
          refine wpAnyH_ready (rs := [9]) (by kernel_rfl) (by simp) (AllReadyH.cons (o := { dst := some 34, op := Op.call { callee := Callee.builtin Builtin.append, args := #[Operand.tmp 29, Operand.tmp 33], argTypes := #[131, 131] }, type := 131, pos := "strand.go:109", after := #[{ on := 4, ground := Ground.data }, { on := 8, ground := Ground.data }], guard := none }) rfl (fun K hK => ?_) AllReadyH.nil)
          refine step_win_append rfl (.tmp 29) (.tmp 33) 131 rfl 138 i0 (.agg #[.int .i64 0, .slice none 0 0]) 2 32 Tryz.underlying131 hi hz0 hz1 hz2 rfl (by decide) (.slice ra rn rc) rn rcs (by rfl) (by exact HWn.out.later (below_alloc wr _).drew) ⟨wr.heap.size, 0, none⟩ 1 1 [.int .i64 k, .slice ua x.length uc] (by rfl) rfl (by exact news_new wr #[.int .i64 k, .slice ua x.length uc] 138) (by intro u hu; simp at hu; rcases hu with rfl | rfl <;> rfl) (by unfold maxLen; omega) (by omega) ?_
          intro v' w3 hwin hgrow hat
          obtain ⟨va, vc, hvv⟩ := win_shape hwin
          subst hvv
          obtain ⟨hAP, g3, f3, cV3, cV4⟩ := HAP.out _ w3 hgrow hat hwin
          refine hK.out _ _ cV3 (fun hHeld => ?_)
          clear hK K
          try simp only [Act.put, List.setIfInBounds_toArray, List.set_cons_zero, List.set_cons_succ]
          refine wpAnyH_take (i := 10) (oi := { dst := some 35, op := Op.nilCheck (Operand.tmp 25), type := 0, pos := "strand.go:109", after := #[{ on := 0, ground := Ground.data }, { on := 0, ground := Ground.phase }, { on := 1, ground := Ground.phase }, { on := 2, ground := Ground.phase }, { on := 3, ground := Ground.phase }, { on := 4, ground := Ground.phase }, { on := 5, ground := Ground.phase }, { on := 6, ground := Ground.phase }, { on := 7, ground := Ground.phase }, { on := 8, ground := Ground.phase }, { on := 9, ground := Ground.phase }], guard := none }) (v := .pointer (some ⟨w.heap.size, 0, none⟩)) rfl (by kernel_rfl) (by kernel_rfl) (by kernel_rfl) (fun _ _ _ h => h) (Or.inl ⟨by rfl, by intro wS hSw; go_simp⟩) hHeld ?_
          simp only [Act.put, List.setIfInBounds_toArray, List.set_cons_zero, List.set_cons_succ]
          refine wpAnyH_take (i := 11) (oi := { dst := some 36, op := Op.fieldAddr 133 (Operand.tmp 35) 3, type := 0, pos := "strand.go:109", after := #[{ on := 10, ground := Ground.data }, { on := 0, ground := Ground.phase }, { on := 1, ground := Ground.phase }, { on := 2, ground := Ground.phase }, { on := 3, ground := Ground.phase }, { on := 4, ground := Ground.phase }, { on := 5, ground := Ground.phase }, { on := 6, ground := Ground.phase }, { on := 7, ground := Ground.phase }, { on := 8, ground := Ground.phase }, { on := 9, ground := Ground.phase }], guard := none }) (v := .pointer (some ⟨w.heap.size, 3, none⟩)) rfl (by kernel_rfl) (by kernel_rfl) (by kernel_rfl) (fun _ _ _ h => h) (Or.inl ⟨by rfl, by intro wS hSw; go_simp⟩) hHeld ?_
          simp only [Act.put, List.setIfInBounds_toArray, List.set_cons_zero, List.set_cons_succ]
          refine wpAnyH_ready (rs := [12]) (by kernel_rfl) (by simp) (AllReadyH.cons (o := { dst := none, op := Op.store 131 (Operand.tmp 36) (Operand.tmp 34), type := 0, pos := "strand.go:109", after := #[{ on := 11, ground := Ground.data }, { on := 9, ground := Ground.data }, { on := 9, ground := Ground.chain }, { on := 0, ground := Ground.phase }, { on := 1, ground := Ground.phase }, { on := 2, ground := Ground.phase }, { on := 3, ground := Ground.phase }, { on := 4, ground := Ground.phase }, { on := 5, ground := Ground.phase }, { on := 6, ground := Ground.phase }, { on := 7, ground := Ground.phase }, { on := 8, ground := Ground.phase }, { on := 9, ground := Ground.phase }], guard := none }) rfl (fun K hK => ?_) AllReadyH.nil)
          go_simp
          refine hK.out _ _ cV4 (fun hHeld => ?_)
          clear hK K
          try simp only [Act.put, List.setIfInBounds_toArray, List.set_cons_zero, List.set_cons_succ]
          refine wpAnyH_done (by kernel_rfl) ?_ _
          simp only [nrm]
          gi_wp2
          go_roundw
          case rel =>
            obtain ⟨tag3, e1, e2, e3⟩ := hAP
            exact ⟨j + 1, tag3, _, _, by omega, by go_num, e1, e2, e3⟩
          case measure => simp [intOf]; omega
      · have hje : j = ls.length := by omega
        subst hje
        rw [List.take_length] at hP2
        have hBr : Bts wr (.slice (some ⟨g, 0, none⟩) 64 64) (sec s.now k) := bts_same HBT.out (fun g' hg' hlt' => by
          simp [Value.ownBlock] at hg'
          subst hg'
          exact HS12.out.kept _ hlt' (by rw [HTg.out]; omega) (by rw [HTg.out]; omega))
        have HBl := blank_any wr _ _ hBr
        have kp : ∀ j', w.heap.size < j' → j' < w.heap.size + 5 → wr.heap[j']? = W.heap[j']? := fun j' a b => HS12.out.kept j' (by omega) (by rw [HT2.out _ a b]; omega) (by rw [HT2.out _ a b]; omega)
        have HKD : Hid (wr.heap[W0.heap.size]? = W.heap[W0.heap.size]? ∧ wr.heap[W0.heap.size + 1]? = W.heap[W0.heap.size + 1]?) := ⟨kp _ (by omega) (by omega), kp _ (by omega) (by omega)⟩
        have HCBr : Hid (wr.cell? ⟨w.heap.size + 2, 0, none⟩ = some (.pointer (some ⟨p.D, 0, none⟩))) := by
          show _ = _
          rw [cell_same (kp _ (by omega) (by omega))]
          exact cell_later HBp.out HCB.out
        have HTA : Hid (∀ j', j' < w.heap.size → tag2 j' = tag j') := fun j' a => by rw [HS12.out.tags _ (by omega)]; exact HT1.out j' a
        have HTB : Hid (∀ j', w.heap.size < j' → j' < w.heap.size + 5 → tag2 j' = 0) := fun j' a b => by rw [HS12.out.tags _ (by omega)]; exact HT2.out j' a b
        have HBel : Hid (Below w.heap.size w wr) := HIB.out.trans HS12.out.below
        have hszf : w.heap.size + 5 ≤ wr.heap.size := by omega
        have HP2 : Hid (PO wr tag2 w.heap.size o' p.D ⟨(openK s.now k).pos, (openK s.now k).used, (openK s.now k).recs ++ ls.map fun b => (k, b)⟩ ⟨w.heap.size, rv2, vs2⟩) := hP2
        have HOK : Hid (openK s.now (k + 1) = ⟨if allz (sec s.now k) then (openK s.now k).pos else k + 1, 0, (openK s.now k).recs ++ ls.map fun b => (k, b)⟩) := by show _ = _; rw [openK_step, HLS.out]
        have hus : (openK s.now k).used = 0 := hokk.2.1
        have f1 := hP2.fS 1
        have c1 := hP2.s1
        have hu64 : (openK s.now k).pos ≤ 4096 := by have := hokk.1; omega
        clear hP2 hS2 hG2 hBr kp hokk hG hPO1 hlsb hA
        by_cases hz : allz (sec s.now k) = true
        · rw [hz] at HBl HOK
          gi_wp2_with (gi_at_call 70; refine (CallsIn.inRound _ (callsIn_wide.2 HBl)).mono ?_; rintro e w' ⟨rfl, hx⟩; have HX : Hid (w' = wr) := hx; clear hx; rw [HX.out])
          refine ⟨⟨⟨tag2, rv2, vs2, ?_, HTA.out, HTB.out⟩, cV, HCBr.out, HBel.out, hszf⟩, HKD.out.1, HKD.out.2⟩
          rw [HOK.out]
          have := HP2.out
          rw [hus] at this
          simpa using this
        · have hz' : allz (sec s.now k) = false := by simpa using hz
          rw [hz'] at HBl HOK
          have f1' : wr.frozen? ⟨w.heap.size, 1, none⟩ = false := f1
          have c1' : wr.cell? ⟨w.heap.size, 1, none⟩ = some (.int .i64 (openK s.now k).pos) := c1
          gi_wp2_with (gi_at_call 70; refine (CallsIn.inRound _ (callsIn_wide.2 HBl)).mono ?_; rintro e w' ⟨rfl, hx⟩; have HX : Hid (w' = wr) := hx; clear hx; rw [HX.out])
          have hbs : Blk wr w.heap.size [.pointer (some ⟨p.D, 0, none⟩), .int .i64 (openK s.now k).pos, .int .i64 (openK s.now k).used, rv2] := HP2.out.bS
          have hbs1 : Blk (wr.setCell ⟨w.heap.size, 1, none⟩ (.int .i64 ((k + 1 : Nat) : Int))) w.heap.size [.pointer (some ⟨p.D, 0, none⟩), .int .i64 ((k + 1 : Nat) : Int), .int .i64 ((0 : Nat) : Int), rv2] := by
            have := hbs.set 1 (.int .i64 ((k + 1 : Nat) : Int))
            rw [hus] at this
            simpa using this
          have hpl := HP2.out.placed (wr.setCell ⟨w.heap.size, 1, none⟩ (.int .i64 ((k + 1 : Nat) : Int))) ⟨k + 1, 0, (openK s.now k).recs ++ ls.map fun b => (k, b)⟩ hbs1 rfl (fun j' _ hj' => heap_setCell_other _ _ j' _ hj') (by simp [World.setCell])
          have hso : ∀ j', j' ≠ w.heap.size → (wr.setCell ⟨w.heap.size, 1, none⟩ (.int .i64 ((k + 1 : Nat) : Int))).heap[j']? = wr.heap[j']? := fun j' hj' => heap_setCell_other _ _ j' _ hj'
          refine ⟨⟨⟨tag2, rv2, vs2, ?_, HTA.out, HTB.out⟩, ?_, ?_, ?_, ?_⟩, ?_, ?_⟩
          · rw [HOK.out]; simpa using hpl
          · exact (cell_same (hso _ (by omega)) _).trans cV
          · exact (cell_same (hso _ (by omega)) _).trans HCBr.out
          · exact HBel.out.setCell (Nat.le_refl _) _
          · show _ ≤ (wr.setCell _ _).heap.size
            simp [World.setCell]; exact hszf
          · exact (hso _ (by omega)).trans HKD.out.1
          · exact (hso _ (by omega)).trans HKD.out.2

end Go.Proofs.YtafkkehcacdodaaGreat
