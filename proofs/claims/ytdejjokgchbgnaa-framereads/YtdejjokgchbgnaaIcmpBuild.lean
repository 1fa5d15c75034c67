/- The contract of Build. -/
import Derived.Test.YtdejjokgchbgnaaIcmpSmall
set_option maxRecDepth 100000
namespace Go.Proofs.Ytdejjokgchbgnaa
open Go.RowKit
attribute [local go_sem ↓] Go.wp_at_zero Go.wp_at_succ

theorem whead_bts {w : World} {G : Nat} {m : Wd} {c : Int} {L : List Int} (h : Sees w G 0 L) (e : L = headW m c) : Bts w (.slice (some ⟨G, 0, none⟩) 8 8) (headW m c) := by
  subst e
  exact ⟨_, 8, G, 0, rfl, by rw [headW_length]; exact Nat.le_refl _, by decide, headW_bytes m c, .inl rfl, h⟩

theorem whead_list (m : Wd) : lay (lay (lay (List.replicate 8 0) 0 1 m.type) 1 1 m.code) 4 4 m.rest = headW m 0 := by
  show [m.type % 256, m.code % 256, 0, 0, m.rest / 256 / 256 / 256 % 256, m.rest / 256 / 256 % 256, m.rest / 256 % 256, m.rest % 256] = _
  unfold headW
  simp only [List.cons.injEq, and_true, true_and]
  refine ⟨by decide, by decide, by omega, by omega⟩
