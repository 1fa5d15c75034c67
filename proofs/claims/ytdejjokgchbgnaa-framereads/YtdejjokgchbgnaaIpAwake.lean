/- The contracts of plain, awake, small, and of Same at one datagram. -/
import Derived.Test.YtdejjokgchbgnaaRow
import Derived.Test.YtdejjokgchbgnaaBuild
set_option maxRecDepth 100000
namespace Go.Proofs.Ytdejjokgchbgnaa
open Go.RowKit

def plainDg : Dg := ⟨0, 0, false, false, 0, 64, 17, 167772161, 134744072, [], []⟩

theorem plain_ok : plainDg.Ok := ⟨by decide, by decide, by decide, by decide, (fun z h => by cases h), (fun z h => by cases h)⟩

theorem plain_len : (built plainDg).length = 20 := by decide

def smallB (p : Dg) : Bool := decide (p.body.length ≤ 5000) && decide (p.opts.length ≤ 5000)

set_option maxHeartbeats 2000000 in
theorem ipsame_one (p : Dg) (vo vb vo' vb' : Value) (w : World) (ho : Bts w vo p.opts) (hb : Bts w vb p.body) (ho' : Bts w vo' p.opts) (hb' : Bts w vb' p.body) :
    Calls Try.prog 33 #[ipV p vo vb, ipV p vo' vb'] w fun e w' => e = .returned (.bool true) ∧ Below w.heap.size w w' := by
  have hb2 := below_trans (below_alloc w (.cells (ipC p vo vb) 29)) (below_alloc _ (.cells (ipC p vo' vb') 29))
  have g1 := ho.later hb2
  have g2 := hb.later hb2
  have g3 := ho'.later hb2
  have g4 := hb'.later hb2
  obtain ⟨a1, n1, k1, rfl⟩ := ho.shape
  obtain ⟨a2, n2, k2, rfl⟩ := hb.shape
  obtain ⟨a3, n3, k3, rfl⟩ := ho'.shape
  obtain ⟨a4, n4, k4, rfl⟩ := hb'.shape
  clear ho hb ho' hb'
  go_enter Try.func33, Try.ntmps33
  go_wp2_with fail
  refine (same_one _ _ _ _ (by exact g1) (by exact g3)).mono ?_
  rintro e w1 ⟨rfl, nq, rfl⟩
  go_wp2_with fail
  refine (same_one _ _ _ _ (by exact bts_drewN g2 _) (by exact bts_drewN g4 _)).mono ?_
  rintro e w1 ⟨rfl, nq', rfl⟩
  go_wp2
  go_ret
  exact ⟨rfl, below_drewN hb2 _⟩
end Go.Proofs.Ytdejjokgchbgnaa
