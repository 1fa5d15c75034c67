/- The contract of awake. -/
import Derived.Test.YtcbhfdhnggdgbabSum
namespace Go.Proofs.Ytcbhfdhnggdgbab
open Go.RowKit

theorem sees_new3 (w : World) (x y z : Int) : Sees (w.alloc (.cells #[.int .u8 x, .int .u8 y, .int .u8 z] 5)) w.heap.size 0 [x, y, z] := by
  intro i hi
  have : i = 0 ∨ i = 1 ∨ i = 2 := by simp at hi; omega
  rcases this with rfl | rfl | rfl <;> simp [go_sem]

theorem bts_new1 (w : World) (N : Nat) (x : Int) (hN : N = w.heap.size) (hx : 0 ≤ x ∧ x < 256) : Bts (w.alloc (.cells #[.int .u8 x] 5)) (.slice (some ⟨N, 0, none⟩) 1 1) [x] := by
  subst hN
  refine ⟨_, 1, w.heap.size, 0, rfl, by simp, by decide, ?_, .inl rfl, ?_⟩
  · intro z hz; simp at hz; subst hz; exact hx
  · intro i hi
    have : i = 0 := by simp at hi; omega
    subst this
    simp

set_option maxHeartbeats 400000 in
theorem awake_any (w : World) : Calls Try.prog 5 #[] w fun e w' => e = .returned (.bool true) ∧ Below w.heap.size w w' := by
  have e3 : fold16 (ws [255]) = 65280 := by decide
  have e1 : getV [1, 2, 3] 1 2 = 515 := by decide
  have e2 : holdsB 3 1 2 = true := by decide
  go_enter Try.func5, Try.ntmps5
  go_wp2_with fail
  refine (get_any _ w.heap.size 0 3 3 [1, 2, 3] 1 2 _ (by decide) (by decide) rfl (by unfold isBytes; decide) (.inl rfl) (sees_new3 w 1 2 3)).mono ?_
  rintro e w' ⟨rfl, rfl⟩
  go_wp2_with fail
  refine (sum_one _ _ _ [255] 22 (by simp) (bts_new1 _ _ 255 (by simp) (by decide)) (by decide)).mono ?_
  rintro e w' ⟨rfl, rfl⟩
  go_wp2_with fail
  go_ret
  exact ⟨rfl, by repeat (first | exact Below.refl _ _ | refine Below.alloc ?_ (by simp; try omega) _)⟩
end Go.Proofs.Ytcbhfdhnggdgbab
