/- The document's Segments. -/
import Derived.Test.YtafkkehcacdodaaGreatStrRSegMath
import Derived.Test.YtafkkehcacdodaaGreatStrInts
import Derived.Deep.LoopGhost
import Derived.BigRegion
import Derived.Lib.SmallJoins
set_option maxRecDepth 100000
namespace Go.Proofs.YtafkkehcacdodaaGreat
open Go.RowKit
attribute [local go_sem ↓] Go.wp_at_zero Go.wp_at_succ

/-- A row's beginning. -/
theorem own_take {w : World} {base g n cap : Nat} {l : List Int} (h : OwnI w base (.slice (some ⟨g, 0, none⟩) n cap) l) (hn : l.length = n) (m : Nat) (hm : m ≤ n) : WinI w (.slice (some ⟨g, 0, none⟩) m cap) (l.take m) := by
  unfold OwnI at h
  rw [hn] at h
  rcases h.2 with ⟨h0, _⟩ | ⟨g', cap', cur, e, _, hg, h1, h2, h3, h4⟩
  · cases h0
  · simp only [Value.slice.injEq, Option.some.injEq, Addr.mk.injEq, and_true, true_and] at e
    obtain ⟨rfl, rfl⟩ := e
    have hl : (l.take m).length = m := by rw [List.length_take]; omega
    unfold WinI
    rw [hl]
    refine ⟨by simp; omega, .inr ⟨g, 0, cap, cur.toList, rfl, ⟨3, by simpa using hg⟩, by omega, h2, by simp [h3], ?_⟩⟩
    rw [List.drop_zero, List.map_take, ← h4, List.take_take]
    congr 1
    omega

end Go.Proofs.YtafkkehcacdodaaGreat
