/- The contracts of plain, awake, small, and of Same at one datagram. -/
import Derived.Test.YtkclbmhhlpdcnabDoorBuild
set_option maxRecDepth 100000
namespace Go.Proofs.YtkclbmhhlpdcnabDoor
open Go.RowKit

def plainDg : Dg := ⟨0, 0, false, false, 0, 64, 17, 167772161, 134744072, [], []⟩

theorem plain_any (w : World) : Calls Tryd.prog 11 #[] w fun e w' => e = .returned (ipV plainDg (.slice none 0 0) (.slice none 0 0)) ∧ Below w.heap.size w w' := by
  go_enter Tryd.func11, Tryd.ntmps11
  go_wp2
  refine bodyPost_ret (v := ipV plainDg (.slice none 0 0) (.slice none 0 0)) ?_ rfl ?_
  · simp [results, Tryd.results11, go_sem, plainDg]
  refine ⟨rfl, ?_⟩
  repeat (first | exact below_alloc _ _ | refine Below.setCell ?_ (Nat.le_refl _) _)

theorem plain_ok : plainDg.Ok := ⟨by decide, by decide, by decide, by decide, (fun z h => by cases h), (fun z h => by cases h)⟩

theorem plain_len : (built plainDg).length = 20 := by decide

set_option maxHeartbeats 1000000 in
theorem awake2_any (w : World) : Calls Tryd.prog 5 #[] w fun e w' => e = .returned (.bool true) ∧ Below w.heap.size w w' := by
  go_enter Tryd.func5, Tryd.ntmps5
  go_wp2_with fail
  refine (plain_any _).mono ?_
  rintro e w1 ⟨rfl, hb1⟩
  go_wp2_with fail
  refine (build_ok plainDg none none 0 0 _ plain_ok (by decide) (bts_nil _) (bts_nil _)).mono ?_
  rintro e w2 ⟨v, rfl, ⟨g, cap, rfl, -, h3, h4, -, hs, -⟩, hb2⟩
  rw [plain_len] at h3
  have hs := fun i (hi : i < 20) => hs i (by rw [plain_len]; exact hi)
  have c0 : w2.cell? ⟨g, 0, none⟩ = some (.int .u8 69) := by
    have := hs 0 (by decide)
    rwa [show (built plainDg).getD 0 0 = 69 by decide] at this
  have c10 : w2.cell? ⟨g, 10, none⟩ = some (.int .u8 96) := by
    have := hs 10 (by decide)
    rwa [show (built plainDg).getD 10 0 = 96 by decide] at this
  have c11 : w2.cell? ⟨g, 11, none⟩ = some (.int .u8 201) := by
    have := hs 11 (by decide)
    rwa [show (built plainDg).getD 11 0 = 201 by decide] at this
  rw [plain_len]
  clear hs
  go_wp2
  go_ret
  exact ⟨rfl, below_trans hb1 hb2⟩

def smallB (p : Dg) : Bool := decide (p.body.length ≤ 5000) && decide (p.opts.length ≤ 5000)

theorem bts_drewN {w : World} {v : Value} {l : List Int} (h : Bts w v l) (n : Nat) : Bts (w.drewN n) v l := h.later (below_drewN (Below.refl _ _) n)
