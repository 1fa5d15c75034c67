/- The contracts of header and Build. -/
import Derived.Test.YtdejjokgchbgnaaTcpFits
set_option maxRecDepth 100000
namespace Go.Proofs.Ytdejjokgchbgnaa
open Go.RowKit
attribute [local go_sem ↓] Go.wp_at_zero Go.wp_at_succ

theorem tmake20 : ∃ Z : Array Value, Hid (∀ j, j < 20 → Z[j]? = some (.int .u8 0)) ∧ ∀ W : World, (Instr.makeSlice 23 (.int .i64 20) (.int .i64 20)).run Try.prog W = .ok (.slice (some ⟨W.heap.size, 0, none⟩) 20 20) (W.alloc (.cells Z 5)) := by
  refine ⟨madeCells #[.int .u8 0] 20, ?_, fun W => run_make_row' (P := Try.prog) 23 5 (.int .u8 0) 1 Try.underlying23 info5 rfl .i64 .i64 20 (by decide) (by decide) W⟩
  show ∀ j, j < 20 → (madeCells #[.int .u8 0] 20)[j]? = some (.int .u8 0)
  intro j hj
  simp [madeCells, hj, Nat.mod_one]

def zerosT20 : List Int := [0, 0, 0, 0, 0, 0, 0, 0, 0, 0, 0, 0, 0, 0, 0, 0, 0, 0, 0, 0]

theorem zeros20_bts (w : World) (Z : Array Value) (h : ∀ j, j < 20 → Z[j]? = some (.int .u8 0)) (N : Nat) (hN : N = w.heap.size) : Bts (w.alloc (.cells Z 5)) (.slice (some ⟨N, 0, none⟩) 20 20) zerosT20 := by
  subst hN
  exact ⟨_, 20, w.heap.size, 0, rfl, by decide, by decide, (by unfold isBytes zerosT20; decide), .inl rfl, zeros_sees w Z 20 h⟩

theorem div3 (x : Int) : x / 256 / 256 / 256 % 256 = x / 16777216 % 256 := by omega

theorem div2 (x : Int) : x / 256 / 256 % 256 = x / 65536 % 256 := by omega

set_option maxHeartbeats 1000000 in
/-- What is laid, one field behind the other. -/
theorem header_list (p : Pc) :
    lay (lay (lay (lay (lay (lay (lay (zerosT20 ++ p.opts) 0 2 p.src) 2 2 p.dst) 4 4 p.seq) 8 4 p.ack) 12 2 p.lead) 14 2 p.window) 18 2 p.urgent = headT p 0 := by
  have e : lay (lay (lay (lay (lay (lay (lay (zerosT20 ++ p.opts) 0 2 p.src) 2 2 p.dst) 4 4 p.seq) 8 4 p.ack) 12 2 p.lead) 14 2 p.window) 18 2 p.urgent =
      (p.src / 256 % 256) :: (p.src % 256) :: (p.dst / 256 % 256) :: (p.dst % 256) :: (p.seq / 256 / 256 / 256 % 256) :: (p.seq / 256 / 256 % 256) :: (p.seq / 256 % 256) :: (p.seq % 256) :: (p.ack / 256 / 256 / 256 % 256) :: (p.ack / 256 / 256 % 256) :: (p.ack / 256 % 256) :: (p.ack % 256) ::
        (p.lead / 256 % 256) :: (p.lead % 256) :: (p.window / 256 % 256) :: (p.window % 256) :: 0 :: 0 :: (p.urgent / 256 % 256) :: (p.urgent % 256) :: p.opts := by
    simp [lay, zerosT20]
  rw [e, div3, div3, div2, div2]
  rfl

theorem check_list (p : Pc) (c : Int) : lay (headT p 0) 16 2 c = headT p c := by
  simp [lay, headT, fixT]
