/- A region that draws its order within a round. -/
import Derived.Test.YtafkkehcacdodaaGreatStrIter
set_option maxRecDepth 100000
namespace Go.Proofs.YtafkkehcacdodaaGreat
open Go.RowKit Go.Shelf

/-- An operation that is no defer statement. -/
def plainOp (o : Oper) : Bool := match o.op with | .defer _ => false | _ => true

/-- It ends normally, and nothing else. -/
def nrm (K : Act → World → Prop) : Exit → Act → World → Prop
  | .normal, a, w => K a w
  | _, _, _ => False

theorem ops_round {P : Program} {ops : Array Oper} {K : Act → World → Prop} {l n : Nat} (hd : ∀ (i : Nat) (o : Oper), ops[i]? = some o → ∀ c, o.op ≠ .defer c) :
    ∀ (is : List Nat) (a : Act) (w : World), wpOps P ops (nrm K) is a w → wpOpsIn (Fence.wide.inRound l) n P ops (nrm K) is a w := by
  intro is
  induction is with
  | nil => intro a w h; exact h
  | cons i rest ih =>
    intro a w h
    unfold wpOps at h
    unfold wpOpsIn
    cases ho : ops[i]? with
    | none => simp only [ho] at h ⊢; exact ih a w h
    | some o =>
      simp only [ho] at h ⊢
      by_cases hw : Region.wanted o (yielded ops a.tmps) = true
      · simp only [hw, if_true] at h ⊢
        rcases h with h | ⟨_, x, y, hh⟩
        case inr => exact hh.elim
        refine ⟨fun _ _ => trivial, ?_⟩
        rw [Oper.semAt_plain _ _ _ (hd i o ho)]
        unfold Oper.wp at h
        generalize (execOp a.eval o).run P w = r at *
        cases r with
        | ok x w' =>
          cases x <;> simp only [Oper.upon] at h
          case value v => exact ih _ _ h
          case skip => exact ih _ _ h
          case defer d => exact ih _ _ h
          case enter f args =>
            refine ⟨fun hh => by simp [Fence.wide, Fence.inRound] at hh, CallsIn.inRound l (callsIn_wide.2 (h.mono ?_))⟩
            intro e w'' he
            cases e with
            | returned v => exact ih _ _ he
            | panicked c => exact he
            | outgrown => exact he
          case row row args =>
            refine ⟨fun hh => by simp [Fence.wide, Fence.inRound] at hh, fun c cs _ => ?_⟩
            obtain ⟨v, w', r1, r2⟩ := h c cs
            exact ⟨v, w', ih _ _ r1, stepsIn_wide.2 r2⟩
        | halt x w' =>
          cases x <;> simp only [Oper.upon] at h
          case panic v => exact h.elim
      · simp only [hw] at h ⊢
        exact ⟨fun _ _ => trivial, ih _ _ h⟩

theorem region_round {P : Program} {ops : Array Oper} {Q : Exit → Act → World → Prop} {S : World → Prop} {id l n : Nat} {a : Act} {w : World} (hm : P.follows .mixedOrders = true) (hd : ops.toList.all plainOp = true) (hS : S w.drew)
    (h : S w.drew → wpAnyH P .any ops (nrm (Q .normal)) S ops.size (Array.replicate ops.size false) a w.drew) : (Code.region id ops true).wpIn (Fence.wide.inRound l) n P Q a w := by
  have hd' : ∀ (i : Nat) (o : Oper), ops[i]? = some o → ∀ c, o.op ≠ .defer c := by
    intro i o ho c e
    have hmem : o ∈ ops.toList := Array.mem_toList_iff.2 (Array.mem_of_getElem? ho)
    have := List.all_eq_true.1 hd o hmem
    unfold plainOp at this
    rw [e] at this
    cases this
  refine wpIn_mono (Q := nrm (Q .normal)) (wpIn_region_draw fun t => ops_round hd' _ a _ ?_) ?_
  · simp only [Region.schedule, hm, Bool.true_or, if_true]
    exact wpAny_sound ops.size t _ a _ (wpAny_of_held _ _ _ _ (h hS))
  · intro e a w hq
    cases e with
    | normal => exact hq
    | _ => exact hq.elim

end Go.Proofs.YtafkkehcacdodaaGreat
