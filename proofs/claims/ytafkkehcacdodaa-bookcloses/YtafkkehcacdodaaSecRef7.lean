/- The document's Crash. -/
import Derived.Test.YtafkkehcacdodaaM14
import Derived.Deep.LoopGhost
import Derived.Deep.CutRange
import Derived.Deep.CutBlock
set_option maxRecDepth 100000
namespace Go.Proofs.Ytafkkehcacdodaa
open Go.RowKit
attribute [local go_sem ↓] Go.wp_at_zero Go.wp_at_succ

/-- One block is being written; it shows X by now. -/
structure Cp (w2 : World) (N0 g cap n : Nat) (X : List Int) (wr : World) : Prop where
  row : Row wr 1 g cap n (bytesV X)
  kept : ∀ q, q ≠ g → wr.heap[q]? = w2.heap[q]?
  below : Below N0 w2 wr

theorem Cp.set {w2 : World} {N0 g cap n : Nat} {X : List Int} {wr : World} (h : Cp w2 N0 g cap n X wr) (hg : N0 ≤ g) (j : Nat) (c : Int) (Y : List Int) (hY : (bytesV X).set j (.int .u8 c) = bytesV Y) : Cp w2 N0 g cap n Y (wr.setCell ⟨g, j, none⟩ (.int .u8 c)).drew := by
  refine ⟨?_, fun q hq => ?_, (h.below.setCell hg _).drew⟩
  · have := h.row.set j (.int .u8 c)
    rw [hY] at this
    exact this
  · show (wr.setCell _ _).heap[q]? = _
    rw [heap_setCell_other _ _ q _ hq]
    exact h.kept q hq

theorem MD.sAt {w : World} {tag : Nat → Nat} {base o : Nat} {s : St} {p : ML} (h : MD w tag base o s p) (hne : 0 < s.since.length) : ∃ g oo cap, p.sv = .slice (some ⟨g, oo, none⟩) s.since.length cap ∧ s.since.length ≤ cap ∧ cap ≤ maxLen ∧
    ∀ i, i < s.since.length → w.cell? ⟨g, oo + i * 2, none⟩ = some (.int .i64 (s.since.getD i (0, [])).1) ∧ w.cell? ⟨g, oo + i * 2 + 1, none⟩ = some (.slice (some ⟨(p.bs.getD i (0, 0)).1, 0, none⟩) 64 (p.bs.getD i (0, 0)).2) := by
  rcases h.wS.2 with ⟨_, hz⟩ | ⟨g, oo, cap, cs, hv, hb, hn, hcm, hcap, hx⟩
  · omega
  · refine ⟨g, oo, cap, hv, hn, hcm, fun i hi => ?_⟩
    obtain ⟨m0, m1⟩ := mcells_at s.since p.bs h.lb i hi
    have r := hb.range oo (s.since.length * 2)
    rw [hx] at r
    have r0 := r (2 * i) _ m0
    have r1 := r (2 * i + 1) _ m1
    refine ⟨?_, ?_⟩
    · rw [show oo + i * 2 = oo + 2 * i by omega]; exact r0
    · rw [show oo + i * 2 + 1 = oo + (2 * i + 1) by omega]; exact r1

end Go.Proofs.Ytafkkehcacdodaa
