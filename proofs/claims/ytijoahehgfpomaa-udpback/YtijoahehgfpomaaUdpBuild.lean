/- The contract of Build. -/
import Derived.Test.YtijoahehgfpomaaUdpSmall
namespace Go.Proofs.Ytijoahehgfpomaa
open Go.RowKit
attribute [local go_sem ↓] Go.wp_at_zero Go.wp_at_succ

/-- A datagram as a value. -/
@[reducible] def udV (u : Ud) (vd : Value) : Value := .agg #[.int .i64 u.src, .int .i64 u.dst, .bool u.bare, vd]

@[reducible] def udC (u : Ud) (vd : Value) : Array Value := #[.int .i64 u.src, .int .i64 u.dst, .bool u.bare, vd]

theorem ubuild_src (s d : Int) (u : Ud) (a : Option Addr) (c : Nat) (w : World) (hd : u.data.length ≤ 140737488351232) (h : ¬ inB u.src 65535) :
    Calls Try.prog 10 #[.int .u32 s, .int .u32 d, udV u (.slice a u.data.length c)] w fun e w' => e = .returned (.tuple #[.slice none 0 0, .int .i64 1]) ∧ Below w.heap.size w w' := by
  have g0 : inBb u.src 65535 = false := decide_eq_false h
  go_enter Try.func10, Try.ntmps10
  go_wp2_with (first | (go_at_call 20; refine (isPort_any _ _).mono ?_; rintro e w' ⟨rfl, rfl⟩))
  go_ret2
  exact ⟨rfl, below_alloc _ _⟩

theorem ubuild_dst (s d : Int) (u : Ud) (a : Option Addr) (c : Nat) (w : World) (hd : u.data.length ≤ 140737488351232) (h0 : inB u.src 65535) (h : ¬ inB u.dst 65535) :
    Calls Try.prog 10 #[.int .u32 s, .int .u32 d, udV u (.slice a u.data.length c)] w fun e w' => e = .returned (.tuple #[.slice none 0 0, .int .i64 1]) ∧ Below w.heap.size w w' := by
  have g0 : inBb u.src 65535 = true := decide_eq_true h0
  have g1 : inBb u.dst 65535 = false := decide_eq_false h
  go_enter Try.func10, Try.ntmps10
  go_wp2_with (first | (go_at_call 20; refine (isPort_any _ _).mono ?_; rintro e w' ⟨rfl, rfl⟩))
  go_ret2
  exact ⟨rfl, below_alloc _ _⟩

theorem ubuild_long (s d : Int) (u : Ud) (a : Option Addr) (c : Nat) (w : World) (hd : u.data.length ≤ 140737488351232) (h0 : inB u.src 65535) (h1 : inB u.dst 65535) (h : 2020 < u.data.length) :
    Calls Try.prog 10 #[.int .u32 s, .int .u32 d, udV u (.slice a u.data.length c)] w fun e w' => e = .returned (.tuple #[.slice none 0 0, .int .i64 3]) ∧ Below w.heap.size w w' := by
  have g0 : inBb u.src 65535 = true := decide_eq_true h0
  have g1 : inBb u.dst 65535 = true := decide_eq_true h1
  have g2 : (2028 : Int) < 8 + (u.data.length : Int) := by omega
  go_enter Try.func10, Try.ntmps10
  go_wp2_with (first | (go_at_call 20; refine (isPort_any _ _).mono ?_; rintro e w' ⟨rfl, rfl⟩))
  go_ret2
  exact ⟨rfl, below_alloc _ _⟩

theorem ubuild_no (s d : Int) (u : Ud) (a : Option Addr) (c : Nat) (w : World) (hd : u.data.length ≤ 140737488351232) (h : ¬ buildU u = 0) :
    Calls Try.prog 10 #[.int .u32 s, .int .u32 d, udV u (.slice a u.data.length c)] w fun e w' => e = .returned (.tuple #[.slice none 0 0, .int .i64 (buildU u)]) ∧ Below w.heap.size w w' := by
  obtain ⟨E, hE⟩ : ∃ E, buildU u = E := ⟨_, rfl⟩
  rw [hE] at h ⊢
  unfold buildU at hE
  by_cases h0 : inB u.src 65535
  case neg => rw [if_pos h0] at hE; subst hE; exact ubuild_src s d u a c w hd h0
  rw [if_neg (by simpa using h0)] at hE
  by_cases h1 : inB u.dst 65535
  case neg => rw [if_pos h1] at hE; subst hE; exact ubuild_dst s d u a c w hd h0 h1
  rw [if_neg (by simpa using h1)] at hE
  by_cases h2 : 2020 < u.data.length
  · rw [if_pos h2] at hE; subst hE; exact ubuild_long s d u a c w hd h0 h1 h2
  rw [if_neg h2] at hE
  exact absurd hE.symm h

theorem pts3 {w : World} {v1 v2 v3 : Value} {l1 l2 l3 : List Int} (t : TypeId) (h1 : Bts w v1 l1) (h2 : Bts w v2 l2) (h3 : Bts w v3 l3) : Pts (w.alloc (.cells #[v1, v2, v3] t)) w.heap.size 0 [l1, l2, l3] := by
  have b := below_alloc w (.cells #[v1, v2, v3] t)
  intro i hi
  have : i = 0 ∨ i = 1 ∨ i = 2 := by simp at hi; omega
  rcases this with rfl | rfl | rfl
  · exact ⟨v1, by rw [World.cell?_alloc_mark w #[v1, v2, v3] t (0, 0)]; rfl, h1.later b⟩
  · exact ⟨v2, by rw [World.cell?_alloc_mark w #[v1, v2, v3] t (0, 0)]; rfl, h2.later b⟩
  · exact ⟨v3, by rw [World.cell?_alloc_mark w #[v1, v2, v3] t (0, 0)]; rfl, h3.later b⟩

theorem pts2 {w : World} {v1 v2 : Value} {l1 l2 : List Int} (t : TypeId) (h1 : Bts w v1 l1) (h2 : Bts w v2 l2) : Pts (w.alloc (.cells #[v1, v2] t)) w.heap.size 0 [l1, l2] := by
  have b := below_alloc w (.cells #[v1, v2] t)
  intro i hi
  have : i = 0 ∨ i = 1 := by simp at hi; omega
  rcases this with rfl | rfl
  · exact ⟨v1, by rw [World.cell?_alloc_mark w #[v1, v2] t (0, 0)]; rfl, h1.later b⟩
  · exact ⟨v2, by rw [World.cell?_alloc_mark w #[v1, v2] t (0, 0)]; rfl, h2.later b⟩

theorem Bts.bytes {w : World} {v : Value} {l : List Int} (h : Bts w v l) : isBytes l := by
  obtain ⟨a, cap, b, off, h1, h2, h3, h4, h5, h6⟩ := h; exact h4

theorem check3 (w : World) (N : Nat) (v1 v2 v3 : Value) (l1 l2 l3 : List Int) (t : TypeId) (hN : N = w.heap.size) (h1 : Bts w v1 l1) (h2 : Bts w v2 l2) (h3 : Bts w v3 l3) (hbig : l1.length + (l2.length + l3.length) ≤ 1099511627776) :
    Calls Try.prog 22 #[.slice (some ⟨N, 0, none⟩) 3 3] (w.alloc (.cells #[v1, v2, v3] t)) fun e w' => e = .returned (.int .i64 (turn16 (fold16 (ws (l1 ++ (l2 ++ l3)))))) ∧ w' = w.alloc (.cells #[v1, v2, v3] t) := by
  subst hN
  have := check_any (some ⟨w.heap.size, 0, none⟩) w.heap.size 0 3 [l1, l2, l3] (w.alloc (.cells #[v1, v2, v3] t)) (by simp) (by decide) (.inl rfl) (pts3 t h1 h2 h3) (by simpa using hbig) (by simpa using isBytes_append h1.bytes (isBytes_append h2.bytes h3.bytes))
  simpa using this

theorem sum2 (w : World) (N : Nat) (v1 v2 : Value) (l1 l2 : List Int) (t : TypeId) (hN : N = w.heap.size) (h1 : Bts w v1 l1) (h2 : Bts w v2 l2) (hbig : l1.length + l2.length ≤ 1099511627776) :
    Calls Try.prog 17 #[.slice (some ⟨N, 0, none⟩) 2 2] (w.alloc (.cells #[v1, v2] t)) fun e w' => e = .returned (.int .i64 (fold16 (ws (l1 ++ l2)))) ∧ w' = w.alloc (.cells #[v1, v2] t) := by
  subst hN
  have := sum_any (some ⟨w.heap.size, 0, none⟩) w.heap.size 0 2 [l1, l2] (w.alloc (.cells #[v1, v2] t)) (by simp) (by decide) (.inl rfl) (pts2 t h1 h2) (by simpa using hbig) (by simpa using isBytes_append h1.bytes h2.bytes)
  simpa using this

theorem uhead_bts {w : World} {G : Nat} {u : Ud} {c : Int} {L : List Int} (h : Sees w G 0 L) (e : L = headU u c) : Bts w (.slice (some ⟨G, 0, none⟩) 8 8) (headU u c) := by
  subst e
  exact ⟨_, 8, G, 0, rfl, by rw [headU_length]; exact Nat.le_refl _, by decide, headU_bytes u c, .inl rfl, h⟩

set_option maxHeartbeats 4000000 in
theorem ubuild_bare (s d : Int) (u : Ud) (a : Option Addr) (c : Nat) (w : World) (f : UFits u) (hD : Bts w (.slice a u.data.length c) u.data) (hbare : u.bare = true) :
    Calls Try.prog 10 #[.int .u32 s, .int .u32 d, udV u (.slice a u.data.length c)] w fun e w' =>
      ∃ v, e = .returned (.tuple #[v, .int .i64 0]) ∧ Fresh w' w.heap.size v (builtU s d u) ∧ Below w.heap.size w w' := by
  obtain ⟨Z, hZ, hmk⟩ := umake8
  have g0 : inBb u.src 65535 = true := decide_eq_true f.src
  have g1 : inBb u.dst 65535 = true := decide_eq_true f.dst
  obtain ⟨⟨p0, p1⟩, ⟨q0, q1⟩, hlen⟩ := f
  have g2 : ¬ (2028 : Int) < 8 + (u.data.length : Int) := by omega
  have HF : Hid (fieldU s d u = 0) := (fieldU_bare s d u).2 hbare
  have HB : Hid (u.bare = _) := hbare
  clear hbare
  have hs0 := zeros_sees (w.alloc (.cells (udC u (.slice a u.data.length c)) 25)) Z 8 hZ.out
  rw [World.size_alloc] at hs0
  go_enter Try.func10, Try.ntmps10
  go_wp2_with (first | (go_at_call 20; refine (isPort_any _ _).mono ?_; rintro e w' ⟨rfl, rfl⟩))
  refine (ulay_step (w.heap.size + 1) 0 8 8 (List.replicate 8 0) 0 2 0 2 u.src _ (w.alloc (.cells (udC u (.slice a u.data.length c)) 25)) (below_alloc _ _) rfl rfl (by decide) hs0 (by decide) (by decide) (by decide) (by omega) (by omega) (by decide)).mono ?_
  rintro e w1 ⟨G1, L1, rfl, E1, HL1, hs, hb⟩
  clear hs0
  have d1 := box_cell hb 1 _ rfl
  go_wp2_with fail
  refine (ulay_step G1 0 8 8 L1 2 2 2 2 u.dst _ _ hb rfl rfl HL1.out hs (by decide) (by decide) (by decide) (by omega) (by omega) (by decide)).mono ?_
  clear hs hb d1
  rintro e w2' ⟨G2, L2, rfl, E2, HL2, hs, hb⟩
  go_wp2_with fail
  refine (ulay_step G2 0 8 8 L2 4 2 4 2 (8 + (u.data.length : Int)) _ _ hb rfl rfl HL2.out hs (by decide) (by decide) (by decide) (by omega) (by omega) (by decide)).mono ?_
  clear hs hb
  rintro e w3 ⟨G3, L3, rfl, E3, HL3, hs, hb⟩
  have HE : Hid (L3 = headU u 0) := by
    show L3 = headU u 0
    rw [E3.out, E2.out, E1.out]
    rfl
  clear E1 E2 E3
  have d2 : w3.cell? ⟨w.heap.size, 2, none⟩ = some (.bool u.bare) := box_cell hb 2 _ rfl
  have d3 : w3.cell? ⟨w.heap.size, 3, none⟩ = some (.slice a u.data.length c) := box_cell hb 3 _ rfl
  rw [HB.out] at d2
  have hD3 := hD.later (below_trans (below_alloc w _) hb)
  have hH3 := uhead_bts hs HE.out
  go_wp2_with fail
  refine (join_pair w3 _ _ _ (headU u 0) u.data 8 23 rfl (headU_length u 0) hH3 hD3 (by omega)).mono ?_
  rintro e w4 ⟨g, cap, rfl, hF, hg, hb4⟩
  have hbb := below_trans (below_trans (below_alloc w _) hb) hb4
  have hF' : Fresh w4 w.heap.size (.slice (some ⟨g, 0, none⟩) (8 + u.data.length) cap) (builtU s d u) := by
    unfold builtU
    rw [HF.out]
    exact hF.low (by have := hb.size; simp only [World.size_alloc] at this; omega)
  clear hF hs hb hD3 hH3 d2 d3
  go_wp2
  go_ret2
  exact ⟨_, rfl, hF', hbb⟩

set_option maxHeartbeats 8000000 in
theorem ubuild_check (s d : Int) (u : Ud) (a : Option Addr) (c : Nat) (w : World) (s0 : 0 ≤ s) (s1 : s < 4294967296) (t0 : 0 ≤ d) (t1 : d < 4294967296) (f : UFits u) (hD : Bts w (.slice a u.data.length c) u.data) (hbare : u.bare = false) :
    Calls Try.prog 10 #[.int .u32 s, .int .u32 d, udV u (.slice a u.data.length c)] w fun e w' =>
      ∃ v, e = .returned (.tuple #[v, .int .i64 0]) ∧ Fresh w' w.heap.size v (builtU s d u) ∧ Below w.heap.size w w' := by
  obtain ⟨Z, hZ, hmk⟩ := umake8
  have g0 : inBb u.src 65535 = true := decide_eq_true f.src
  have g1 : inBb u.dst 65535 = true := decide_eq_true f.dst
  obtain ⟨⟨p0, p1⟩, ⟨q0, q1⟩, hlen⟩ := f
  have g2 : ¬ (2028 : Int) < 8 + (u.data.length : Int) := by omega
  have HF : Hid (fieldU s d u = shownI (turn16 (fold16 (ws (pseudoB s d 17 (8 + (u.data.length : Int)) ++ (headU u 0 ++ u.data)))))) := by show _ = _; unfold fieldU; rw [if_neg (by simp [hbare])]; rfl
  have HFB : Hid (0 ≤ fieldU s d u ∧ fieldU s d u ≤ 65535) := fieldU_bd s d u
  have HB : Hid (u.bare = _) := hbare
  clear hbare
  have hs0 := zeros_sees (w.alloc (.cells (udC u (.slice a u.data.length c)) 25)) Z 8 hZ.out
  rw [World.size_alloc] at hs0
  go_enter Try.func10, Try.ntmps10
  go_wp2_with (first | (go_at_call 20; refine (isPort_any _ _).mono ?_; rintro e w' ⟨rfl, rfl⟩))
  refine (ulay_step (w.heap.size + 1) 0 8 8 (List.replicate 8 0) 0 2 0 2 u.src _ (w.alloc (.cells (udC u (.slice a u.data.length c)) 25)) (below_alloc _ _) rfl rfl (by decide) hs0 (by decide) (by decide) (by decide) (by omega) (by omega) (by decide)).mono ?_
  rintro e w1 ⟨G1, L1, rfl, E1, HL1, hs, hb⟩
  clear hs0
  have d1 := box_cell hb 1 _ rfl
  go_wp2_with fail
  refine (ulay_step G1 0 8 8 L1 2 2 2 2 u.dst _ _ hb rfl rfl HL1.out hs (by decide) (by decide) (by decide) (by omega) (by omega) (by decide)).mono ?_
  clear hs hb d1
  rintro e w2' ⟨G2, L2, rfl, E2, HL2, hs, hb⟩
  go_wp2_with fail
  refine (ulay_step G2 0 8 8 L2 4 2 4 2 (8 + (u.data.length : Int)) _ _ hb rfl rfl HL2.out hs (by decide) (by decide) (by decide) (by omega) (by omega) (by decide)).mono ?_
  clear hs hb
  rintro e w3 ⟨G3, L3, rfl, E3, HL3, hs, hb⟩
  have HE : Hid (L3 = headU u 0) := by
    show L3 = headU u 0
    rw [E3.out, E2.out, E1.out]
    rfl
  clear E1 E2 E3
  have d2 : w3.cell? ⟨w.heap.size, 2, none⟩ = some (.bool u.bare) := box_cell hb 2 _ rfl
  have d3 : w3.cell? ⟨w.heap.size, 3, none⟩ = some (.slice a u.data.length c) := box_cell hb 3 _ rfl
  rw [HB.out] at d2
  have hD3 := hD.later (below_trans (below_alloc w _) hb)
  have hH3 := uhead_bts hs HE.out
  go_wp2_with fail
  go_region_held3 (fun w' => w'.cell? ⟨w.heap.size, 3, none⟩ = some (.slice a u.data.length c)) (first | go_keep | (exact box_cell (by assumption) 3 _ rfl))
    (first
      | (go_at_call 18; refine (pseudo_any s d 17 (8 + (u.data.length : Int)) _ s0 s1 t0 t1).mono ?_; rintro e w4 ⟨G4, rfl, hP, hb4'⟩; have hb4 : Below w3.heap.size w3 w4 := below_trans (below_drewN (Below.refl _ _) 1) hb4'; have hbx4 := below_trans hb hb4)
      | (go_at_call 22; refine (check3 w4 _ _ _ _ _ _ _ 23 rfl hP (hH3.later hb4) (hD3.later hb4) (by rw [pseudo_length, headU_length]; omega)).mono ?_; rintro e w5 ⟨rfl, rfl⟩; have hbx5 := below_trans hbx4 (below_alloc w4 (.cells #[.slice (some ⟨G4, 0, none⟩) 12 12, .slice (some ⟨G3, 0, none⟩) 8 8, .slice a u.data.length c] 23))))
  have bx := below_alloc w4 (.cells #[.slice (some ⟨G4, 0, none⟩) 12 12, .slice (some ⟨G3, 0, none⟩) 8 8, .slice a u.data.length c] 23)
  have hs5 := hs.later (below_trans hb4 bx)
  have hD5 := hD3.later (below_trans hb4 bx)
  generalize (w4.alloc (.cells #[.slice (some ⟨G4, 0, none⟩) 12 12, .slice (some ⟨G3, 0, none⟩) 8 8, .slice a u.data.length c] 23)) = w5 at *
  generalize turn16 (fold16 (ws (pseudoB s d 17 (8 + (u.data.length : Int)) ++ (headU u 0 ++ u.data)))) = C at *
  clear hP hb4' hb4 hbx4 hD3 hH3 hb hs bx d2 d3
  go_wp2_with fail
  refine (shown_any _ _).mono ?_
  rintro e w' ⟨rfl, rfl⟩
  rw [← HF.out]
  clear HF
  obtain ⟨F, hF0⟩ : ∃ F, fieldU s d u = F := ⟨_, rfl⟩
  have HFF : Hid (fieldU s d u = F) := hF0
  have hfb := HFB.out
  rw [hF0] at hfb ⊢
  clear hF0 HFB
  obtain ⟨f0, f1⟩ := hfb
  go_wp2_with fail
  refine (ulay_step G3 0 8 8 L3 6 2 6 2 F _ _ hbx5 rfl rfl HL3.out hs5 (by decide) (by decide) (by decide) (by omega) (by omega) (by decide)).mono ?_
  rintro e w6 ⟨G6, L6, rfl, E6, HL6, hs6, hb6⟩
  have HE6 : Hid (L6 = headU u F) := by
    show L6 = headU u F
    rw [E6.out, HE.out]
    rfl
  have hb06 := below_trans (below_alloc w (.cells (udC u (.slice a u.data.length c)) 25)) hb6
  have hH6 := uhead_bts hs6 HE6.out
  have hD6 := hD.later hb06
  have d3 : w6.cell? ⟨w.heap.size, 3, none⟩ = some (.slice a u.data.length c) := box_cell hb6 3 _ rfl
  clear hs5 hD5 hbx5 E6 HE
  go_wp2_with fail
  refine (join_pair w6 _ _ _ (headU u F) u.data 8 23 rfl (headU_length u F) hH6 hD6 (by omega)).mono ?_
  rintro e w7 ⟨g, cap, rfl, hF, hg, hb7⟩
  have hbb := below_trans hb06 hb7
  have hF' : Fresh w7 w.heap.size (.slice (some ⟨g, 0, none⟩) (8 + u.data.length) cap) (builtU s d u) := by
    unfold builtU
    rw [HFF.out]
    exact hF.low (by have := hb06.size; omega)
  clear hF hs6 hb6 hD6 hH6 d3
  go_wp2
  go_ret2
  exact ⟨_, rfl, hF', hbb⟩

theorem ubuild_ok (s d : Int) (u : Ud) (a : Option Addr) (c : Nat) (w : World) (s0 : 0 ≤ s) (s1 : s < 4294967296) (t0 : 0 ≤ d) (t1 : d < 4294967296) (f : UFits u) (hD : Bts w (.slice a u.data.length c) u.data) :
    Calls Try.prog 10 #[.int .u32 s, .int .u32 d, udV u (.slice a u.data.length c)] w fun e w' =>
      ∃ v, e = .returned (.tuple #[v, .int .i64 0]) ∧ Fresh w' w.heap.size v (builtU s d u) ∧ Below w.heap.size w w' := by
  cases h : u.bare
  · exact ubuild_check s d u a c w s0 s1 t0 t1 f hD h
  · exact ubuild_bare s d u a c w f hD h
end Go.Proofs.Ytijoahehgfpomaa
