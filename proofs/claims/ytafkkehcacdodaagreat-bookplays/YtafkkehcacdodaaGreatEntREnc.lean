/- The contract of Encode in the document's own answer. -/
import Derived.Test.YtafkkehcacdodaaGreatEntRow
import Derived.Test.YtafkkehcacdodaaGreatEntPut
set_option maxRecDepth 100000
namespace Go.Proofs.YtafkkehcacdodaaGreat
open Go.RowKit

theorem owns_lit1 (w : World) (a : Int) : Owns (w.alloc (.cells #[.int .u8 a] 5)) w.heap.size (.slice (some ⟨w.heap.size, 0, none⟩) 1 1) [a] :=
  World.ownsRow_lit w #[.int .u8 a] 1 (Nat.le_refl _) (by decide) rfl

theorem rencode_no (e : En) (w : World) (h : ¬ e.May) :
    Calls Tryz.prog 79 #[enV e] w fun r w' => r = .returned (.tuple #[.slice none 0 0, .int .i64 1]) ∧ Below w.heap.size w w' := by
  have hE : Hid (checkE e = 1) := by show checkE e = 1; unfold checkE; rw [mayB_false h]; rfl
  have H := fun w => rcheck_any e w
  rw [hE.out] at H
  obtain ⟨k, t, s, a, b⟩ := e
  go_enter Tryz.func79, Tryz.ntmps79
  go_wp2_with fail
  refine (H _).mono ?_
  rintro r w1 ⟨rfl, hb⟩
  go_wp2
  go_ret2
  exact ⟨rfl, below_trans (below_alloc _ _) hb⟩

set_option maxHeartbeats 4000000 in
theorem rencode_1 (t : Int) (w : World) (h : En.May ⟨1, t, 0, 0, 0⟩) :
    Calls Tryz.prog 79 #[enV ⟨1, t, 0, 0, 0⟩] w fun r w' => ∃ v, r = .returned (.tuple #[v, .int .i64 0]) ∧ Owns w' w.heap.size v (bytesE ⟨1, t, 0, 0, 0⟩) ∧ Below w.heap.size w w' := by
  have hE : Hid (checkE ⟨1, t, 0, 0, 0⟩ = 0) := by show checkE _ = 0; unfold checkE; rw [mayB_true h]; rfl
  have H := fun w => rcheck_any ⟨1, t, 0, 0, 0⟩ w
  rw [hE.out] at H
  obtain ⟨t0, t1, -⟩ := h
  dsimp only at t0 t1
  have ut : IntKind.u64.wrap t = t := u64_id _ t0 (by omega)
  go_enter Tryz.func79, Tryz.ntmps79
  go_wp2_with fail
  refine (H _).mono ?_
  rintro r w1 ⟨rfl, hb⟩
  have HC : Hid (∀ W, Below w1.heap.size w1 W → W.cell? ⟨w.heap.size, 0, none⟩ = some (.int .i64 1) ∧ W.cell? ⟨w.heap.size, 1, none⟩ = some (.int .i64 t) ∧ W.cell? ⟨w.heap.size, 2, none⟩ = some (.int .u32 0) ∧ W.cell? ⟨w.heap.size, 3, none⟩ = some (.int .u32 0) ∧ W.cell? ⟨w.heap.size, 4, none⟩ = some (.int .i64 0)) := by
    intro W hW
    have hbW := below_trans hb hW
    exact ⟨cell_later hbW (by rw [World.cell?_alloc_mark w _ _ (0, 0) 0]; rfl), cell_later hbW (by rw [World.cell?_alloc_mark w _ _ (0, 0) 1]; rfl), cell_later hbW (by rw [World.cell?_alloc_mark w _ _ (0, 0) 2]; rfl), cell_later hbW (by rw [World.cell?_alloc_mark w _ _ (0, 0) 3]; rfl), cell_later hbW (by rw [World.cell?_alloc_mark w _ _ (0, 0) 4]; rfl)⟩
  have hb0 : Below w.heap.size w w1 := below_trans (below_alloc w _) hb
  have hlt : w.heap.size < w1.heap.size := Nat.lt_of_lt_of_le (by simp) hb.size
  obtain ⟨c0, c1, c2, c3, c4⟩ := HC.out w1 (Below.refl _ _)
  clear hb
  have h8 := owns_lit1 w1 1
  have hb1 : Below w1.heap.size w1 (w1.alloc (.cells #[.int .u8 1] 5)) := below_alloc _ _
  go_wp2_with fail
  refine (lay_big _ w1.heap.size _ [1] 8 8 t w1 h8 (by simp) (by decide) rfl (by decide) hb1).mono ?_
  rintro r w2 ⟨v2, rfl, hO2, hB2, hz2⟩
  obtain ⟨d0, d1, d2, d3, d4⟩ := HC.out w2 hB2
  have hlt2 := Nat.lt_of_lt_of_le hlt hz2
  clear c0 c1 c2 c3 c4 h8 hb1 hlt hz2
  obtain ⟨va, vc, hv⟩ := owns_shape hO2
  have hO : Owns w2 w.heap.size v2 (bytesE ⟨1, t, 0, 0, 0⟩) := hO2.low hb0.size
  have hB := below_trans hb0 hB2
  generalize ([1] ++ bigE 8 t).length = N at *
  subst hv
  clear d1 d2 d3 d4 hO2 hB2
  go_wp2
  go_ret2
  exact ⟨_, rfl, hO, hB⟩

set_option maxHeartbeats 4000000 in
theorem rencode_2 (t s a b : Int) (w : World) (h : En.May ⟨2, t, s, a, b⟩) (s0 : 0 ≤ s) (s1 : s < 4294967296) (a0 : 0 ≤ a) (a1 : a < 4294967296) :
    Calls Tryz.prog 79 #[enV ⟨2, t, s, a, b⟩] w fun r w' => ∃ v, r = .returned (.tuple #[v, .int .i64 0]) ∧ Owns w' w.heap.size v (bytesE ⟨2, t, s, a, b⟩) ∧ Below w.heap.size w w' := by
  have hE : Hid (checkE ⟨2, t, s, a, b⟩ = 0) := by show checkE _ = 0; unfold checkE; rw [mayB_true h]; rfl
  have H := fun w => rcheck_any ⟨2, t, s, a, b⟩ w
  rw [hE.out] at H
  obtain ⟨t0, t1, hkk⟩ := h
  dsimp only at t0 t1 hkk
  have b0 : 0 ≤ b := by omega
  have b1 : b ≤ 65535 := by omega
  clear hkk
  have ua : IntKind.u64.wrap a = a := u64_id _ a0 (by omega)
  have ub : IntKind.u64.wrap b = b := u64_id _ b0 (by omega)
  have us : IntKind.u64.wrap s = s := u64_id _ s0 (by omega)
  have ut : IntKind.u64.wrap t = t := u64_id _ t0 (by omega)
  go_enter Tryz.func79, Tryz.ntmps79
  go_wp2_with fail
  refine (H _).mono ?_
  rintro r w1 ⟨rfl, hb⟩
  have HC : Hid (∀ W, Below w1.heap.size w1 W → W.cell? ⟨w.heap.size, 0, none⟩ = some (.int .i64 2) ∧ W.cell? ⟨w.heap.size, 1, none⟩ = some (.int .i64 t) ∧ W.cell? ⟨w.heap.size, 2, none⟩ = some (.int .u32 s) ∧ W.cell? ⟨w.heap.size, 3, none⟩ = some (.int .u32 a) ∧ W.cell? ⟨w.heap.size, 4, none⟩ = some (.int .i64 b)) := by
    intro W hW
    have hbW := below_trans hb hW
    exact ⟨cell_later hbW (by rw [World.cell?_alloc_mark w _ _ (0, 0) 0]; rfl), cell_later hbW (by rw [World.cell?_alloc_mark w _ _ (0, 0) 1]; rfl), cell_later hbW (by rw [World.cell?_alloc_mark w _ _ (0, 0) 2]; rfl), cell_later hbW (by rw [World.cell?_alloc_mark w _ _ (0, 0) 3]; rfl), cell_later hbW (by rw [World.cell?_alloc_mark w _ _ (0, 0) 4]; rfl)⟩
  have hb0 : Below w.heap.size w w1 := below_trans (below_alloc w _) hb
  have hlt : w.heap.size < w1.heap.size := Nat.lt_of_lt_of_le (by simp) hb.size
  obtain ⟨c0, c1, c2, c3, c4⟩ := HC.out w1 (Below.refl _ _)
  clear hb
  have h8 := owns_lit1 w1 2
  have hb1 : Below w1.heap.size w1 (w1.alloc (.cells #[.int .u8 2] 5)) := below_alloc _ _
  go_wp2_with fail
  refine (lay_big _ w1.heap.size _ [2] 8 8 t w1 h8 (by simp) (by decide) rfl (by decide) hb1).mono ?_
  rintro r w2 ⟨v2, rfl, hO2, hB2, hz2⟩
  obtain ⟨d0, d1, d2, d3, d4⟩ := HC.out w2 hB2
  have hlt2 := Nat.lt_of_lt_of_le hlt hz2
  have hz2' := hz2
  clear c0 c1 c2 c3 c4 h8 hb1 hlt hz2
  obtain ⟨va, vc, hv⟩ := owns_shape hO2
  have HL2 : Hid (([2] ++ bigE 8 t).length = 9) := by show _ = _; simp [bigE_length]
  rw [HL2.out] at hv
  subst hv
  go_wp2_with fail
  refine (lay_big _ w1.heap.size _ ([2] ++ bigE 8 t) 4 4 s w1 hO2 hz2' (by rw [HL2.out]; decide) rfl (by decide) hB2).mono ?_
  rintro r w3 ⟨v3, rfl, hO3, hB3, hz3'⟩
  clear d0 d1 d2 d3 d4 hO2 HL2 hz2'
  obtain ⟨d0, d1, d2, d3, d4⟩ := HC.out w3 hB3
  obtain ⟨va, vc, hv⟩ := owns_shape hO3
  have HL3 : Hid (([2] ++ bigE 8 t ++ bigE 4 s).length = 13) := by show _ = _; simp [bigE_length]
  rw [HL3.out] at hv
  subst hv
  go_wp2_with fail
  refine (lay_big _ w1.heap.size _ ([2] ++ bigE 8 t ++ bigE 4 s) 4 4 a w1 hO3 hz3' (by rw [HL3.out]; decide) rfl (by decide) hB3).mono ?_
  rintro r w4 ⟨v4, rfl, hO4, hB4, hz4'⟩
  clear d0 d1 d2 d3 d4 hO3 HL3 hz3'
  obtain ⟨d0, d1, d2, d3, d4⟩ := HC.out w4 hB4
  obtain ⟨va, vc, hv⟩ := owns_shape hO4
  have HL4 : Hid (([2] ++ bigE 8 t ++ bigE 4 s ++ bigE 4 a).length = 17) := by show _ = _; simp [bigE_length]
  rw [HL4.out] at hv
  subst hv
  go_wp2_with fail
  refine (lay_big _ w1.heap.size _ ([2] ++ bigE 8 t ++ bigE 4 s ++ bigE 4 a) 2 2 b w1 hO4 hz4' (by rw [HL4.out]; decide) rfl (by decide) hB4).mono ?_
  rintro r w5 ⟨v5, rfl, hO5, hB5, hz5'⟩
  clear d0 d1 d2 d3 d4 hO4 HL4 hz4'
  obtain ⟨d0, d1, d2, d3, d4⟩ := HC.out w5 hB5
  obtain ⟨va, vc, hv⟩ := owns_shape hO5
  have hO : Owns w5 w.heap.size v5 (bytesE ⟨2, t, s, a, b⟩) := hO5.low hb0.size
  have hB := below_trans hb0 hB5
  generalize ([2] ++ bigE 8 t ++ bigE 4 s ++ bigE 4 a ++ bigE 2 b).length = N at *
  subst hv
  clear d1 d2 d3 d4 hO5 hB5
  go_wp2
  go_ret2
  exact ⟨_, rfl, hO, hB⟩

set_option maxHeartbeats 4000000 in
theorem rencode_3 (t s a b : Int) (w : World) (h : En.May ⟨3, t, s, a, b⟩) (a0 : 0 ≤ a) (a1 : a < 4294967296) :
    Calls Tryz.prog 79 #[enV ⟨3, t, s, a, b⟩] w fun r w' => ∃ v, r = .returned (.tuple #[v, .int .i64 0]) ∧ Owns w' w.heap.size v (bytesE ⟨3, t, s, a, b⟩) ∧ Below w.heap.size w w' := by
  have hE : Hid (checkE ⟨3, t, s, a, b⟩ = 0) := by show checkE _ = 0; unfold checkE; rw [mayB_true h]; rfl
  have H := fun w => rcheck_any ⟨3, t, s, a, b⟩ w
  rw [hE.out] at H
  obtain ⟨t0, t1, hkk⟩ := h
  dsimp only at t0 t1 hkk
  have b0 : 0 ≤ b := by omega
  have b1 : b ≤ 65535 := by omega
  clear hkk
  have ua : IntKind.u64.wrap a = a := u64_id _ a0 (by omega)
  have ub : IntKind.u64.wrap b = b := u64_id _ b0 (by omega)
  have ut : IntKind.u64.wrap t = t := u64_id _ t0 (by omega)
  go_enter Tryz.func79, Tryz.ntmps79
  go_wp2_with fail
  refine (H _).mono ?_
  rintro r w1 ⟨rfl, hb⟩
  have HC : Hid (∀ W, Below w1.heap.size w1 W → W.cell? ⟨w.heap.size, 0, none⟩ = some (.int .i64 3) ∧ W.cell? ⟨w.heap.size, 1, none⟩ = some (.int .i64 t) ∧ W.cell? ⟨w.heap.size, 2, none⟩ = some (.int .u32 s) ∧ W.cell? ⟨w.heap.size, 3, none⟩ = some (.int .u32 a) ∧ W.cell? ⟨w.heap.size, 4, none⟩ = some (.int .i64 b)) := by
    intro W hW
    have hbW := below_trans hb hW
    exact ⟨cell_later hbW (by rw [World.cell?_alloc_mark w _ _ (0, 0) 0]; rfl), cell_later hbW (by rw [World.cell?_alloc_mark w _ _ (0, 0) 1]; rfl), cell_later hbW (by rw [World.cell?_alloc_mark w _ _ (0, 0) 2]; rfl), cell_later hbW (by rw [World.cell?_alloc_mark w _ _ (0, 0) 3]; rfl), cell_later hbW (by rw [World.cell?_alloc_mark w _ _ (0, 0) 4]; rfl)⟩
  have hb0 : Below w.heap.size w w1 := below_trans (below_alloc w _) hb
  have hlt : w.heap.size < w1.heap.size := Nat.lt_of_lt_of_le (by simp) hb.size
  obtain ⟨c0, c1, c2, c3, c4⟩ := HC.out w1 (Below.refl _ _)
  clear hb
  have h8 := owns_lit1 w1 3
  have hb1 : Below w1.heap.size w1 (w1.alloc (.cells #[.int .u8 3] 5)) := below_alloc _ _
  go_wp2_with fail
  refine (lay_big _ w1.heap.size _ [3] 8 8 t w1 h8 (by simp) (by decide) rfl (by decide) hb1).mono ?_
  rintro r w2 ⟨v2, rfl, hO2, hB2, hz2⟩
  obtain ⟨d0, d1, d2, d3, d4⟩ := HC.out w2 hB2
  have hlt2 := Nat.lt_of_lt_of_le hlt hz2
  have hz2' := hz2
  clear c0 c1 c2 c3 c4 h8 hb1 hlt hz2
  obtain ⟨va, vc, hv⟩ := owns_shape hO2
  have HL2 : Hid (([3] ++ bigE 8 t).length = 9) := by show _ = _; simp [bigE_length]
  rw [HL2.out] at hv
  subst hv
  go_wp2_with fail
  refine (lay_big _ w1.heap.size _ ([3] ++ bigE 8 t) 4 4 a w1 hO2 hz2' (by rw [HL2.out]; decide) rfl (by decide) hB2).mono ?_
  rintro r w3 ⟨v3, rfl, hO3, hB3, hz3'⟩
  clear d0 d1 d2 d3 d4 hO2 HL2 hz2'
  obtain ⟨d0, d1, d2, d3, d4⟩ := HC.out w3 hB3
  obtain ⟨va, vc, hv⟩ := owns_shape hO3
  have HL3 : Hid (([3] ++ bigE 8 t ++ bigE 4 a).length = 13) := by show _ = _; simp [bigE_length]
  rw [HL3.out] at hv
  subst hv
  go_wp2_with fail
  refine (lay_big _ w1.heap.size _ ([3] ++ bigE 8 t ++ bigE 4 a) 2 2 b w1 hO3 hz3' (by rw [HL3.out]; decide) rfl (by decide) hB3).mono ?_
  rintro r w4 ⟨v4, rfl, hO4, hB4, hz4'⟩
  clear d0 d1 d2 d3 d4 hO3 HL3 hz3'
  obtain ⟨d0, d1, d2, d3, d4⟩ := HC.out w4 hB4
  obtain ⟨va, vc, hv⟩ := owns_shape hO4
  have hO : Owns w4 w.heap.size v4 (bytesE ⟨3, t, s, a, b⟩) := hO4.low hb0.size
  have hB := below_trans hb0 hB4
  generalize ([3] ++ bigE 8 t ++ bigE 4 a ++ bigE 2 b).length = N at *
  subst hv
  clear d1 d2 d3 d4 hO4 hB4
  go_wp2
  go_ret2
  exact ⟨_, rfl, hO, hB⟩

theorem rencode_ok (e : En) (w : World) (h : e.May) (ho : e.Ok) :
    Calls Tryz.prog 79 #[enV e] w fun r w' => ∃ v, r = .returned (.tuple #[v, .int .i64 0]) ∧ Owns w' w.heap.size v (bytesE e) ∧ Below w.heap.size w w' := by
  obtain ⟨k, t, s, a, b⟩ := e
  have hk := h.kind
  dsimp only at hk
  rcases hk with ⟨rfl, rfl, rfl, rfl⟩ | ⟨rfl, _⟩ | ⟨rfl, _⟩
  · exact rencode_1 t w h
  · exact rencode_2 t s a b w h ho.sub0 ho.sub1 ho.addr0 ho.addr1
  · exact rencode_3 t s a b w h ho.addr0 ho.addr1

end Go.Proofs.YtafkkehcacdodaaGreat
