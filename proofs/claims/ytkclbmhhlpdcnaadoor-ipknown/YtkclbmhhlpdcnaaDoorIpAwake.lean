/- The contracts of plain, awake, small, and of Same at one datagram. -/
import Derived.Test.YtkclbmhhlpdcnaaDoorBuild
set_option maxRecDepth 100000
namespace Go.Proofs.YtkclbmhhlpdcnaaDoor
open Go.RowKit

def plainDg : Dg := ⟨0, 0, false, false, 0, 64, 17, 167772161, 134744072, [], []⟩

theorem plain_any (w : World) : Calls Tryd.prog 6 #[] w fun e w' => e = .returned (ipV plainDg (.slice none 0 0) (.slice none 0 0)) ∧ Below w.heap.size w w' := by
  go_enter Tryd.func6, Tryd.ntmps6
  go_wp2
  refine bodyPost_ret (v := ipV plainDg (.slice none 0 0) (.slice none 0 0)) ?_ rfl ?_
  · simp [results, Tryd.results6, go_sem, plainDg]
  refine ⟨rfl, ?_⟩
  repeat (first | exact below_alloc _ _ | refine Below.setCell ?_ (Nat.le_refl _) _)

theorem plain_ok : plainDg.Ok := ⟨by decide, by decide, by decide, by decide, (fun z h => by cases h), (fun z h => by cases h)⟩

theorem plain_len : (built plainDg).length = 20 := by decide

set_option maxHeartbeats 1000000 in
theorem awake2_any (w : World) : Calls Tryd.prog 4 #[] w fun e w' => e = .returned (.bool true) ∧ Below w.heap.size w w' := by
  go_enter Tryd.func4, Tryd.ntmps4
  go_wp2_with fail
  refine (plain_any _).mono ?_
  rintro e w1 ⟨rfl, hb1⟩
  go_wp2_with fail
  refine (build_ok plainDg none none 0 0 _ plain_ok (by decide) (bts_nil _) (bts_nil _)).mono ?_
  rintro e w2 ⟨v, rfl, ⟨g, cap, rfl, -, h3, h4, -, hs, -⟩, hb2⟩
  rw [plain_len] at h3
  have hs := fun i (hi : i < 20) => hs i (by rw [plain_len]; exact hi)
  have c0 : w2.cell? ⟨g, 0, none⟩ = some (.int .u8 69) := by
    have := hs 0 (by decide)
    rwa [show (built plainDg).getD 0 0 = 69 by decide] at this
  have c10 : w2.cell? ⟨g, 10, none⟩ = some (.int .u8 96) := by
    have := hs 10 (by decide)
    rwa [show (built plainDg).getD 10 0 = 96 by decide] at this
  have c11 : w2.cell? ⟨g, 11, none⟩ = some (.int .u8 201) := by
    have := hs 11 (by decide)
    rwa [show (built plainDg).getD 11 0 = 201 by decide] at this
  rw [plain_len]
  clear hs
  go_wp2
  go_ret
  exact ⟨rfl, below_trans hb1 hb2⟩

def smallB (p : Dg) : Bool := decide (p.body.length ≤ 5000) && decide (p.opts.length ≤ 5000)

/-- Same of two rows of bytes that are one. -/
theorem same_one (w : World) (v v' : Value) (l : List Int) (h : Bts w v l) (h' : Bts w v' l) :
    Calls Tryd.prog 21 #[v, v'] w fun e w' => e = .returned (.bool true) ∧ ∃ nq, w' = w.drewN nq := by
  obtain ⟨a, cap, b, off, rfl, h2, h3, h4, h5, h6⟩ := h
  obtain ⟨a', cap', b', off', rfl, k2, k3, k4, k5, k6⟩ := h'
  have := same_any a a' b off b' off' cap cap' l l l.length l.length w rfl rfl (Nat.le_trans h2 h3) (Nat.le_trans h2 h3) h5 h6 k5 k6
  rwa [show sameB l l = true by unfold sameB; simp] at this

theorem bts_drewN {w : World} {v : Value} {l : List Int} (h : Bts w v l) (n : Nat) : Bts (w.drewN n) v l := h.later (below_drewN (Below.refl _ _) n)

set_option maxHeartbeats 2000000 in
theorem ipsame_one (p : Dg) (vo vb vo' vb' : Value) (w : World) (ho : Bts w vo p.opts) (hb : Bts w vb p.body) (ho' : Bts w vo' p.opts) (hb' : Bts w vb' p.body) :
    Calls Tryd.prog 10 #[ipV p vo vb, ipV p vo' vb'] w fun e w' => e = .returned (.bool true) ∧ Below w.heap.size w w' := by
  have hb2 := below_trans (below_alloc w (.cells (ipC p vo vb) 29)) (below_alloc _ (.cells (ipC p vo' vb') 29))
  have g1 := ho.later hb2
  have g2 := hb.later hb2
  have g3 := ho'.later hb2
  have g4 := hb'.later hb2
  obtain ⟨a1, n1, k1, rfl⟩ := ho.shape
  obtain ⟨a2, n2, k2, rfl⟩ := hb.shape
  obtain ⟨a3, n3, k3, rfl⟩ := ho'.shape
  obtain ⟨a4, n4, k4, rfl⟩ := hb'.shape
  clear ho hb ho' hb'
  go_enter Tryd.func10, Tryd.ntmps10
  go_wp2_with fail
  refine (same_one _ _ _ _ (by exact g1) (by exact g3)).mono ?_
  rintro e w1 ⟨rfl, nq, rfl⟩
  go_wp2_with fail
  refine (same_one _ _ _ _ (by exact bts_drewN g2 _) (by exact bts_drewN g4 _)).mono ?_
  rintro e w1 ⟨rfl, nq', rfl⟩
  go_wp2
  go_ret
  exact ⟨rfl, below_drewN hb2 _⟩
end Go.Proofs.YtkclbmhhlpdcnaaDoor
