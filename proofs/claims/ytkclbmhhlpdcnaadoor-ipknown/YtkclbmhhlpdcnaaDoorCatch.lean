/- The contracts of the deferred functions of Build and Parse. -/
import Derived.Test.YtkclbmhhlpdcnaaDoorRefuse
import Derived.Defers
import Derived.Recover
import Derived.Laws.Pointers
import Derived.Laws.IdiomStrings
import Derived.RegionTactic
import Derived.ChangeAlike
import Derived.BigRegion
set_option maxRecDepth 100000
namespace Go.Proofs.YtkclbmhhlpdcnaaDoor
open Go.RowKit

/-- The cells of two variables that were made, in a later world. -/
theorem two_cells {v w' : World} {C C' : Array Value} {t t' : TypeId} (hb : Below ((v.alloc (.cells C t)).alloc (.cells C' t')).heap.size ((v.alloc (.cells C t)).alloc (.cells C' t')) w') :
    (∀ i x, C[i]? = some x → w'.cell? ⟨v.heap.size, i, none⟩ = some x) ∧ (∀ i, w'.frozen? ⟨v.heap.size, i, none⟩ = false) ∧
    (∀ i x, C'[i]? = some x → w'.cell? ⟨v.heap.size + 1, i, none⟩ = some x) ∧ (∀ i, w'.frozen? ⟨v.heap.size + 1, i, none⟩ = false) := by
  have hsz : ((v.alloc (.cells C t)).alloc (.cells C' t')).heap.size = v.heap.size + 1 + 1 := by simp
  have b1 : Below (v.alloc (.cells C t)).heap.size (v.alloc (.cells C t)) w' := below_trans (below_alloc _ _) hb
  refine ⟨fun i x hx => ?_, fun i => ?_, fun i x hx => ?_, fun i => ?_⟩
  · refine cell_later b1 ?_
    rw [World.cell?_alloc_mark v C t (0, 0) i]; exact hx
  · rw [b1.frozen (by simp), World.frozen?_alloc_mark v C t 0 0 i]; simp
  · refine cell_later hb ?_
    have := World.cell?_alloc_mark (v.alloc (.cells C t)) C' t' (0, 0) i
    rw [show (v.alloc (.cells C t)).heap.size = v.heap.size + 1 by simp] at this
    rw [this]; exact hx
  · rw [hb.frozen (by rw [hsz]; exact Nat.lt_succ_self _)]
    have := World.frozen?_alloc_mark (v.alloc (.cells C t)) C' t' 0 0 i
    rw [show (v.alloc (.cells C t)).heap.size = v.heap.size + 1 by simp] at this
    rw [this]; simp

theorem assert_errno (v : Value) (w : World) : (Instr.typeAssert (.iface 24 v) 20 24 false).run Tryd.prog w = .ok v w := by
  simp [Instr.typeAssert, run_underlying Tryd.underlying24]

theorem frame_b (a b : Value) : (#[a, b] ++ Array.replicate (Tryd.f12.ntmps - #[a, b].size) undef : Array Value) = #[a, b, undef, undef, undef, undef, undef, undef] := by rw [Tryd.ntmps12]; rfl

set_option maxHeartbeats 1000000 in
theorem bcatch_panicking (b b' base : Nat) (x z : Int) (v0 : Value) (w : World) (hc : w.cell? ⟨b, 0, none⟩ = some v0) (hz : w.frozen? ⟨b, 0, none⟩ = false) (hc' : w.cell? ⟨b', 0, none⟩ = some (.int .i64 z)) (hz' : w.frozen? ⟨b', 0, none⟩ = false) (hpq : ¬ b = b') (h1 : base ≤ b) (h2 : base ≤ b') :
    CallsD Tryd.prog 12 #[.pointer (some ⟨b, 0, none⟩), .pointer (some ⟨b', 0, none⟩)] (.panicking (chainOf x)) w fun e u' w' =>
      e = .returned (.tuple #[]) ∧ u' = .panicking [{ v := .iface 24 (.int .i64 x), recovered := true }] ∧ w'.cell? ⟨b, 0, none⟩ = some (.slice none 0 0) ∧ w'.cell? ⟨b', 0, none⟩ = some (.int .i64 x) ∧ Below base w w' := by
  have ha := assert_errno
  have hpq' : ¬ b' = b := fun e => hpq e.symm
  refine callsD_of_wpS Tryd.func12 rfl fun c₀ cs hu => ?_
  rw [frame_b]
  apply wpS_seq
  apply wpS_region
  simp [wpOpsS, go_sem, recoverD, hu, chainOf, Exit.thenS]
  refine wpS_of_wp ?_
  go_wp2
  go_region
  have bel : Below base w ((w.setCell ⟨b, 0, none⟩ (.slice none 0 0)).setCell ⟨b', 0, none⟩ (.int .i64 x)).drew := below_drewN (((Below.refl base w).setCell h1 _).setCell h2 _) 1
  show bodyPostS _ _ _ _ _ _ _ _ _
  simp [bodyPostS, results, Tryd.results12, go_sem, hc, hc', bel]

theorem bcatch_idle (p q : Addr) (w : World) :
    CallsD Tryd.prog 12 #[.pointer (some p), .pointer (some q)] .returning w fun e u' w' => e = .returned (.tuple #[]) ∧ u' = .returning ∧ w' = w := by
  refine callsD_of_wpS Tryd.func12 rfl fun c₀ cs hu => ?_
  rw [frame_b]
  apply wpS_seq
  apply wpS_region
  simp [wpOpsS, go_sem, recoverD, hu, Exit.thenS]
  refine wpS_of_wp ?_
  go_wp2
  cases c₀
  simp_all [bodyPostS, results, Tryd.results12]
end Go.Proofs.YtkclbmhhlpdcnaaDoor
