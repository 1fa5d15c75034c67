/- The contract of Build. -/
import Derived.Test.YtejknbkleinjbaaIcmpSmall
namespace Go.Proofs.Ytejknbkleinjbaa
open Go.RowKit
attribute [local go_sem ↓] Go.wp_at_zero Go.wp_at_succ

theorem wbuild_type (m : Wd) (a : Option Addr) (c : Nat) (w : World) (h : ¬ inB m.type 255) :
    Calls Try.prog 14 #[wdV m (.slice a m.data.length c)] w fun e w' => e = .returned (.tuple #[.slice none 0 0, .int .i64 1]) ∧ Below w.heap.size w w' := by
  have g0 : inBb m.type 255 = false := decide_eq_false h
  go_enter Try.func14, Try.ntmps14
  go_wp2_with (first | (go_at_call 25; refine (isByte_any _ _).mono ?_; rintro e w' ⟨rfl, rfl⟩))
  go_ret2
  exact ⟨rfl, below_alloc _ _⟩

theorem wbuild_code (m : Wd) (a : Option Addr) (c : Nat) (w : World) (h0 : inB m.type 255) (h : ¬ inB m.code 255) :
    Calls Try.prog 14 #[wdV m (.slice a m.data.length c)] w fun e w' => e = .returned (.tuple #[.slice none 0 0, .int .i64 1]) ∧ Below w.heap.size w w' := by
  have g0 : inBb m.type 255 = true := decide_eq_true h0
  have g1 : inBb m.code 255 = false := decide_eq_false h
  go_enter Try.func14, Try.ntmps14
  go_wp2_with (first | (go_at_call 25; refine (isByte_any _ _).mono ?_; rintro e w' ⟨rfl, rfl⟩))
  go_ret2
  exact ⟨rfl, below_alloc _ _⟩

theorem wbuild_long (m : Wd) (a : Option Addr) (c : Nat) (w : World) (hd : m.data.length ≤ 140737488351232) (h0 : inB m.type 255) (h1 : inB m.code 255) (h : 2020 < m.data.length) :
    Calls Try.prog 14 #[wdV m (.slice a m.data.length c)] w fun e w' => e = .returned (.tuple #[.slice none 0 0, .int .i64 3]) ∧ Below w.heap.size w w' := by
  have g0 : inBb m.type 255 = true := decide_eq_true h0
  have g1 : inBb m.code 255 = true := decide_eq_true h1
  have g2 : (2028 : Int) < 8 + (m.data.length : Int) := by omega
  go_enter Try.func14, Try.ntmps14
  go_wp2_with (first | (go_at_call 25; refine (isByte_any _ _).mono ?_; rintro e w' ⟨rfl, rfl⟩))
  go_ret2
  exact ⟨rfl, below_alloc _ _⟩

theorem wbuild_no (m : Wd) (a : Option Addr) (c : Nat) (w : World) (hd : m.data.length ≤ 140737488351232) (h : ¬ buildW m = 0) :
    Calls Try.prog 14 #[wdV m (.slice a m.data.length c)] w fun e w' => e = .returned (.tuple #[.slice none 0 0, .int .i64 (buildW m)]) ∧ Below w.heap.size w w' := by
  obtain ⟨E, hE⟩ : ∃ E, buildW m = E := ⟨_, rfl⟩
  rw [hE] at h ⊢
  unfold buildW at hE
  by_cases h0 : inB m.type 255
  case neg => rw [if_pos h0] at hE; subst hE; exact wbuild_type m a c w h0
  rw [if_neg (by simpa using h0)] at hE
  by_cases h1 : inB m.code 255
  case neg => rw [if_pos h1] at hE; subst hE; exact wbuild_code m a c w h0 h1
  rw [if_neg (by simpa using h1)] at hE
  by_cases h2 : 2020 < m.data.length
  · rw [if_pos h2] at hE; subst hE; exact wbuild_long m a c w hd h0 h1 h2
  rw [if_neg h2] at hE
  exact absurd hE.symm h

theorem whead_bts {w : World} {G : Nat} {m : Wd} {c : Int} {L : List Int} (h : Sees w G 0 L) (e : L = headW m c) : Bts w (.slice (some ⟨G, 0, none⟩) 8 8) (headW m c) := by
  subst e
  exact ⟨_, 8, G, 0, rfl, by rw [headW_length]; exact Nat.le_refl _, by decide, headW_bytes m c, .inl rfl, h⟩

theorem whead_list (m : Wd) : lay (lay (lay (List.replicate 8 0) 0 1 m.type) 1 1 m.code) 4 4 m.rest = headW m 0 := by
  show [m.type % 256, m.code % 256, 0, 0, m.rest / 256 / 256 / 256 % 256, m.rest / 256 / 256 % 256, m.rest / 256 % 256, m.rest % 256] = _
  unfold headW
  simp only [List.cons.injEq, and_true, true_and]
  refine ⟨by decide, by decide, by omega, by omega⟩

set_option maxHeartbeats 8000000 in
theorem wbuild_ok (m : Wd) (a : Option Addr) (c : Nat) (w : World) (k : m.Ok) (f : WFits m) (hD : Bts w (.slice a m.data.length c) m.data) :
    Calls Try.prog 14 #[wdV m (.slice a m.data.length c)] w fun e w' =>
      ∃ v, e = .returned (.tuple #[v, .int .i64 0]) ∧ Fresh w' w.heap.size v (builtW m) ∧ Below w.heap.size w w' := by
  obtain ⟨Z, hZ, hmk⟩ := umake8
  have g0 : inBb m.type 255 = true := decide_eq_true f.type
  have g1 : inBb m.code 255 = true := decide_eq_true f.code
  obtain ⟨⟨p0, p1⟩, ⟨q0, q1⟩, hlen⟩ := f
  obtain ⟨r0, r1, -⟩ := k
  have g2 : ¬ (2028 : Int) < 8 + (m.data.length : Int) := by omega
  have HF : Hid (checkW m = turn16 (fold16 (ws (headW m 0 ++ m.data)))) := (rfl : checkW m = _)
  have HFB : Hid (0 ≤ checkW m ∧ checkW m ≤ 65535) := checkW_bd m
  have hs0 := zeros_sees (w.alloc (.cells (wdC m (.slice a m.data.length c)) 26)) Z 8 hZ.out
  rw [World.size_alloc] at hs0
  go_enter Try.func14, Try.ntmps14
  go_wp2_with (first | (go_at_call 25; refine (isByte_any _ _).mono ?_; rintro e w' ⟨rfl, rfl⟩))
  refine (wlay_step (w.heap.size + 1) 0 8 8 (List.replicate 8 0) 0 1 0 1 m.type _ (w.alloc (.cells (wdC m (.slice a m.data.length c)) 26)) (below_alloc _ _) rfl rfl (by decide) hs0 (by decide) (by decide) (by decide) (by omega) (by omega) (by decide)).mono ?_
  rintro e w1 ⟨G1, L1, rfl, E1, HL1, hs, hb⟩
  clear hs0
  have d1 := box_cell hb 1 _ rfl
  go_wp2_with fail
  refine (wlay_step G1 0 8 8 L1 1 1 1 1 m.code _ _ hb rfl rfl HL1.out hs (by decide) (by decide) (by decide) (by omega) (by omega) (by decide)).mono ?_
  clear hs hb d1
  rintro e w2' ⟨G2, L2, rfl, E2, HL2, hs, hb⟩
  have d2 := box_cell hb 2 _ rfl
  go_wp2_with fail
  refine (wlay_step G2 0 8 8 L2 4 4 4 4 m.rest _ _ hb rfl rfl HL2.out hs (by decide) (by decide) (by decide) (by omega) (by omega) (by decide)).mono ?_
  clear hs hb d2
  rintro e w3 ⟨G3, L3, rfl, E3, HL3, hs, hb⟩
  have HE : Hid (L3 = headW m 0) := by
    show L3 = headW m 0
    rw [E3.out, E2.out, E1.out]
    exact whead_list m
  clear E1 E2 E3
  have d3 : w3.cell? ⟨w.heap.size, 3, none⟩ = some (.slice a m.data.length c) := box_cell hb 3 _ rfl
  have hD3 := hD.later (below_trans (below_alloc w _) hb)
  have hH3 := whead_bts hs HE.out
  go_wp2_with fail
  refine (check2 w3 _ _ _ (headW m 0) m.data 24 rfl hH3 hD3 (by rw [headW_length]; omega)).mono ?_
  rintro e w5 ⟨rfl, hw5⟩
  rw [← HF.out]
  have bx : Below w3.heap.size w3 w5 := by rw [hw5]; exact below_alloc _ _
  have hs5 := hs.later bx
  have hbx5 := below_trans hb bx
  clear hw5 hD3 hH3 d3 hb hs bx HF
  obtain ⟨F, hF0⟩ : ∃ F, checkW m = F := ⟨_, rfl⟩
  have HFF : Hid (checkW m = F) := hF0
  have hfb := HFB.out
  rw [hF0] at hfb ⊢
  clear hF0 HFB
  obtain ⟨f0, f1⟩ := hfb
  go_wp2_with fail
  refine (wlay_step G3 0 8 8 L3 2 2 2 2 F _ _ hbx5 rfl rfl HL3.out hs5 (by decide) (by decide) (by decide) (by omega) (by omega) (by decide)).mono ?_
  rintro e w6 ⟨G6, L6, rfl, E6, HL6, hs6, hb6⟩
  have HE6 : Hid (L6 = headW m F) := by
    show L6 = headW m F
    rw [E6.out, HE.out]
    rfl
  have hb06 := below_trans (below_alloc w (.cells (wdC m (.slice a m.data.length c)) 26)) hb6
  have hH6 := whead_bts hs6 HE6.out
  have hD6 := hD.later hb06
  have d3 : w6.cell? ⟨w.heap.size, 3, none⟩ = some (.slice a m.data.length c) := box_cell hb6 3 _ rfl
  clear hs5 hbx5 E6 HE
  go_wp2_with fail
  refine (join_pair w6 _ _ _ (headW m F) m.data 8 24 rfl (headW_length m F) hH6 hD6 (by omega)).mono ?_
  rintro e w7 ⟨g, cap, rfl, hF, hg, hb7⟩
  have hbb := below_trans hb06 hb7
  have hF' : Fresh w7 w.heap.size (.slice (some ⟨g, 0, none⟩) (8 + m.data.length) cap) (builtW m) := by
    unfold builtW
    rw [HFF.out]
    exact hF.low (by have := hb06.size; omega)
  clear hF hs6 hb6 hD6 hH6 d3
  go_wp2
  go_ret2
  exact ⟨_, rfl, hF', hbb⟩
end Go.Proofs.Ytejknbkleinjbaa
