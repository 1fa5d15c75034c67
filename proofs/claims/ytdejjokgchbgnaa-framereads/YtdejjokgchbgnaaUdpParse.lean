/- The contracts of measured and of Parse. -/
import Derived.Test.YtdejjokgchbgnaaUdpBuild
set_option maxRecDepth 100000
namespace Go.Proofs.Ytdejjokgchbgnaa
open Go.RowKit
attribute [local go_sem ↓] Go.wp_at_zero Go.wp_at_succ

theorem uslice_upto (b off len cap q : Nat) (hq : q ≤ cap) (W : World) :
    (Instr.slice 112 (.slice (some ⟨b, off, none⟩) len cap) none (some (.int .i64 (q : Int))) none).run Try.prog W = .ok (.slice (some ⟨b, off, none⟩) q cap) W := by
  have ht' : Try.prog.underlying 112 = some (.slice (Try.prog.elem 112)) := by simp [Program.elem, Try.underlying112]
  have he : Try.prog.elem 112 = 5 := by simp [Program.elem, Try.underlying112]
  rw [run_slice_h W 112 _ _ _ ht' .i64 _ (by omega) (by omega), he, Try.sizeOf5]
  by_cases hc : cap = 0
  · simp [Result.andThen, sliced, hc]
  · simp [Result.andThen, sliced, hc, add_at]

theorem bts_take {w : World} {b off len cap : Nat} {l : List Int} (hA : At w b off len cap l) (q : Nat) (hq : q ≤ len) : Bts w (.slice (some ⟨b, off, none⟩) q cap) (l.take q) := by
  have hlen : (l.take q).length = q := by rw [List.length_take, hA.len]; omega
  have c1 := hA.cap1
  refine ⟨_, cap, b, off, by rw [hlen], by omega, hA.cap2, isBytes_take hA.bytes q, .inl rfl, ?_⟩
  intro i hi
  rw [hlen] at hi
  have : (l.take q).getD i 0 = l.getD i 0 := by simp [List.getD, hi]
  rw [this]
  exact hA.sees i (by rw [hA.len]; omega)

theorem umeas_short (s d : Int) (a : Option Addr) (len cap : Nat) (w : World) (h : len < 8) :
    Calls Try.prog 68 #[.int .u32 s, .int .u32 d, .slice a len cap] w fun e w' => e = .returned (.tuple #[.int .i64 0, .int .i64 2]) ∧ Below w.heap.size w w' := by
  have h' : (len : Int) < 8 := by omega
  go_enter Try.func68, Try.ntmps68
  go_wp2
  go_ret2
  exact ⟨rfl, Below.refl _ _⟩

set_option maxHeartbeats 1000000 in
theorem umeas_form (s d : Int) (b off len cap : Nat) (l : List Int) (w : World) (hA : At w b off len cap l) (g1 : 8 ≤ len) (h : w2 l 4 < 8) :
    Calls Try.prog 68 #[.int .u32 s, .int .u32 d, .slice (some ⟨b, off, none⟩) len cap] w fun e w' => e = .returned (.tuple #[.int .i64 0, .int .i64 4]) ∧ Below w.heap.size w w' := by
  have h' : ¬ (len : Int) < 8 := by omega
  go_enter Try.func68, Try.ntmps68
  go_wp2_with fail
  refine (uword_any b off len cap l 4 4 _ hA rfl (by omega)).mono ?_
  rintro e w' ⟨rfl, rfl⟩
  go_wp2
  go_ret2
  exact ⟨rfl, Below.refl _ _⟩

set_option maxHeartbeats 1000000 in
theorem umeas_long (s d : Int) (b off len cap : Nat) (l : List Int) (w : World) (hA : At w b off len cap l) (g1 : 8 ≤ len) (g2 : 8 ≤ w2 l 4) (h : (len : Int) < w2 l 4) :
    Calls Try.prog 68 #[.int .u32 s, .int .u32 d, .slice (some ⟨b, off, none⟩) len cap] w fun e w' => e = .returned (.tuple #[.int .i64 0, .int .i64 2]) ∧ Below w.heap.size w w' := by
  have h' : ¬ (len : Int) < 8 := by omega
  have g2' : ¬ w2 l 4 < 8 := by omega
  go_enter Try.func68, Try.ntmps68
  go_wp2_with fail
  refine (uword_any b off len cap l 4 4 _ hA rfl (by omega)).mono ?_
  rintro e w' ⟨rfl, rfl⟩
  go_wp2
  go_ret2
  exact ⟨rfl, Below.refl _ _⟩

theorem At.quiet {w : World} {b off len cap : Nat} {l : List Int} (h : At w b off len cap l) (n : Nat) : At (w.drewN n) b off len cap l := h.later (below_drewN (Below.refl _ _) n)

theorem uword_zero (b off len cap : Nat) (l : List Int) (q : Int) (k : Nat) (w : World) (hA : At w b off len cap l) (hq : q = (k : Int)) (hk : k + 2 ≤ len) (h0 : w2 l k = 0) :
    Calls Try.prog 69 #[.slice (some ⟨b, off, none⟩) len cap, .int .i64 q] w fun e w' => e = .returned (.int .i64 0) ∧ ∃ m, w' = w.drewN m := by
  refine (uword_any b off len cap l q k w hA hq hk).mono ?_
  rintro e w' ⟨rfl, rfl⟩
  exact ⟨by rw [h0], 0, rfl⟩

set_option maxHeartbeats 2000000 in
theorem umeas_bare (s d : Int) (b off len cap : Nat) (l : List Int) (w : World) (hA : At w b off len cap l) (g1 : 8 ≤ len) (g2 : 8 ≤ w2 l 4) (g3 : w2 l 4 ≤ len) (g4 : w2 l 6 = 0) :
    Calls Try.prog 68 #[.int .u32 s, .int .u32 d, .slice (some ⟨b, off, none⟩) len cap] w fun e w' => e = .returned (.tuple #[.int .i64 (w2 l 4), .int .i64 0]) ∧ Below w.heap.size w w' := by
  have h' : ¬ (len : Int) < 8 := by omega
  have g2' : ¬ w2 l 4 < 8 := by omega
  have g3' : ¬ (len : Int) < w2 l 4 := by omega
  go_enter Try.func68, Try.ntmps68
  go_wp2_with fail
  refine (uword_any b off len cap l 4 4 _ hA rfl (by omega)).mono ?_
  rintro e w' ⟨rfl, rfl⟩
  go_wp2_with fail
  go_quiet ((go_at_call 69; refine Calls.quiet_of (uword_zero b off len cap l 6 6 _ (At.quiet hA _) rfl (by omega) g4)))
  go_wp2
  go_ret2
  exact ⟨rfl, below_drewN (Below.refl _ _) _⟩

set_option maxHeartbeats 4000000 in
theorem umeas_sum (s d : Int) (b off len cap q : Nat) (l : List Int) (w : World) (s0 : 0 ≤ s) (s1 : s < 4294967296) (t0 : 0 ≤ d) (t1 : d < 4294967296) (hA : At w b off len cap l) (hq : w2 l 4 = (q : Int)) (hl : len ≤ 70000) (g1 : 8 ≤ len) (g2 : 8 ≤ q) (g3 : q ≤ len) (g4 : w2 l 6 ≠ 0) (h : fold16 (ws (pseudoB s d 17 q ++ l.take q)) ≠ 65535) :
    Calls Try.prog 68 #[.int .u32 s, .int .u32 d, .slice (some ⟨b, off, none⟩) len cap] w fun e w' => e = .returned (.tuple #[.int .i64 0, .int .i64 5]) ∧ Below w.heap.size w w' := by
  have h' : ¬ (len : Int) < 8 := by omega
  have g2' : ¬ (q : Int) < 8 := by omega
  have g3' : ¬ (len : Int) < (q : Int) := by omega
  have hc := hA.cap1
  have hsl := uslice_upto b off len cap q (by omega)
  have HQ : Hid (w2 l 4 = (q : Int)) := hq
  have hne : (w2 l 6 != 0) = true := by rw [bne_iff_ne]; exact g4
  have hs : (fold16 (ws (pseudoB s d 17 q ++ l.take q)) != 65535) = true := by rw [bne_iff_ne]; exact h
  have HTL : Hid ((l.take q).length = q) := by show _ = _; rw [List.length_take, hA.len]; omega
  clear hq g4 h
  go_enter Try.func68, Try.ntmps68
  go_wp2_with fail
  refine (uword_any b off len cap l 4 4 _ hA rfl (by omega)).mono ?_
  rintro e w1 ⟨rfl, hw1⟩
  have hw1 := hw1.symm
  subst hw1
  rw [HQ.out]
  go_wp2_with fail
  go_region_held3 (fun w' => True) (first | trivial | go_keep)
    (first
      | (go_at_call 69; refine (uword_any b off len cap l 6 6 _ (hA.later (Below.refl _ _).drew) rfl (by omega)).mono ?_; rintro e w2' ⟨rfl, hw2⟩; have hw2 := hw2.symm; subst hw2)
      | (go_at_call 74; refine (pseudo_any s d 17 (q : Int) _ s0 s1 t0 t1).mono ?_; rintro e w4 ⟨G4, rfl, hP, hb4'⟩; have hb4 : Below w.heap.size w w4 := below_trans (below_drewN (Below.refl _ _) 1) hb4')
      | (go_at_call 57; refine (sum2 w4 _ _ _ _ _ 23 rfl hP (bts_take (hA.later hb4) q g3) (by rw [pseudo_length, HTL.out]; omega)).mono ?_; rintro e w5 ⟨rfl, rfl⟩))
  go_wp2
  go_ret2
  exact ⟨rfl, below_trans hb4 (below_alloc _ _)⟩

set_option maxHeartbeats 4000000 in
theorem umeas_ok (s d : Int) (b off len cap q : Nat) (l : List Int) (w : World) (s0 : 0 ≤ s) (s1 : s < 4294967296) (t0 : 0 ≤ d) (t1 : d < 4294967296) (hA : At w b off len cap l) (hq : w2 l 4 = (q : Int)) (hl : len ≤ 70000) (g1 : 8 ≤ len) (g2 : 8 ≤ q) (g3 : q ≤ len) (g4 : w2 l 6 ≠ 0) (h : fold16 (ws (pseudoB s d 17 q ++ l.take q)) = 65535) :
    Calls Try.prog 68 #[.int .u32 s, .int .u32 d, .slice (some ⟨b, off, none⟩) len cap] w fun e w' => e = .returned (.tuple #[.int .i64 (q : Int), .int .i64 0]) ∧ Below w.heap.size w w' := by
  have h' : ¬ (len : Int) < 8 := by omega
  have g2' : ¬ (q : Int) < 8 := by omega
  have g3' : ¬ (len : Int) < (q : Int) := by omega
  have hc := hA.cap1
  have hsl := uslice_upto b off len cap q (by omega)
  have HQ : Hid (w2 l 4 = (q : Int)) := hq
  have hne : (w2 l 6 != 0) = true := by rw [bne_iff_ne]; exact g4
  have hs : (fold16 (ws (pseudoB s d 17 q ++ l.take q)) != 65535) = false := by rw [h]; rfl
  have HTL : Hid ((l.take q).length = q) := by show _ = _; rw [List.length_take, hA.len]; omega
  clear hq g4 h
  go_enter Try.func68, Try.ntmps68
  go_wp2_with fail
  refine (uword_any b off len cap l 4 4 _ hA rfl (by omega)).mono ?_
  rintro e w1 ⟨rfl, hw1⟩
  have hw1 := hw1.symm
  subst hw1
  rw [HQ.out]
  go_wp2_with fail
  go_region_held3 (fun w' => True) (first | trivial | go_keep)
    (first
      | (go_at_call 69; refine (uword_any b off len cap l 6 6 _ (hA.later (Below.refl _ _).drew) rfl (by omega)).mono ?_; rintro e w2' ⟨rfl, hw2⟩; have hw2 := hw2.symm; subst hw2)
      | (go_at_call 74; refine (pseudo_any s d 17 (q : Int) _ s0 s1 t0 t1).mono ?_; rintro e w4 ⟨G4, rfl, hP, hb4'⟩; have hb4 : Below w.heap.size w w4 := below_trans (below_drewN (Below.refl _ _) 1) hb4')
      | (go_at_call 57; refine (sum2 w4 _ _ _ _ _ 23 rfl hP (bts_take (hA.later hb4) q g3) (by rw [pseudo_length, HTL.out]; omega)).mono ?_; rintro e w5 ⟨rfl, rfl⟩))
  go_wp2
  go_ret2
  exact ⟨rfl, below_trans hb4 (below_alloc _ _)⟩

theorem umeas_no (s d : Int) (a : Option Addr) (b off len cap : Nat) (l : List Int) (w : World) (s0 : 0 ≤ s) (s1 : s < 4294967296) (t0 : 0 ≤ d) (t1 : d < 4294967296) (ha : a = some ⟨b, off, none⟩ ∨ l = []) (hA : At w b off len cap l) (hl : len ≤ 70000) (h : ¬ parseU s d l = 0) :
    Calls Try.prog 68 #[.int .u32 s, .int .u32 d, .slice a len cap] w fun e w' => e = .returned (.tuple #[.int .i64 0, .int .i64 (parseU s d l)]) ∧ Below w.heap.size w w' := by
  have hL := hA.len
  obtain ⟨E, hE⟩ : ∃ E, parseU s d l = E := ⟨_, rfl⟩
  rw [hE] at h ⊢
  unfold parseU at hE
  by_cases g1 : l.length < 8
  · rw [if_pos g1] at hE; subst hE; exact umeas_short s d a len cap w (by omega)
  rw [if_neg g1] at hE
  rcases ha with rfl | rfl
  case inr => simp at g1
  by_cases g2 : w2 l 4 < 8
  · rw [if_pos g2] at hE; subst hE; exact umeas_form s d b off len cap l w hA (by omega) g2
  rw [if_neg g2] at hE
  by_cases g3 : (l.length : Int) < w2 l 4
  · rw [if_pos g3] at hE; subst hE; exact umeas_long s d b off len cap l w hA (by omega) (by omega) (by omega)
  rw [if_neg g3] at hE
  obtain ⟨q, hq⟩ := Int.eq_ofNat_of_zero_le (show 0 ≤ w2 l 4 by omega)
  rw [hq, Int.toNat_natCast] at hE
  by_cases g4 : w2 l 6 ≠ 0 ∧ fold16 (ws (pseudoB s d 17 (q : Int) ++ l.take q)) ≠ 65535
  · rw [if_pos g4] at hE; subst hE; exact umeas_sum s d b off len cap q l w s0 s1 t0 t1 hA hq hl (by omega) (by omega) (by omega) g4.1 g4.2
  rw [if_neg g4] at hE
  exact absurd hE.symm h

theorem umeas_yes (s d : Int) (b off len cap : Nat) (l : List Int) (w : World) (s0 : 0 ≤ s) (s1 : s < 4294967296) (t0 : 0 ≤ d) (t1 : d < 4294967296) (hA : At w b off len cap l) (hl : len ≤ 70000) (g : UGood s d l) :
    Calls Try.prog 68 #[.int .u32 s, .int .u32 d, .slice (some ⟨b, off, none⟩) len cap] w fun e w' => e = .returned (.tuple #[.int .i64 (w2 l 4), .int .i64 0]) ∧ Below w.heap.size w w' := by
  have hL := hA.len
  obtain ⟨g1, g2, g3, g4⟩ := g
  by_cases h6 : w2 l 6 = 0
  · exact umeas_bare s d b off len cap l w hA (by omega) g2 (by omega) h6
  rcases g4 with g4 | g4
  · exact absurd g4 h6
  obtain ⟨q, hq⟩ := Int.eq_ofNat_of_zero_le (show 0 ≤ w2 l 4 by omega)
  rw [hq, Int.toNat_natCast] at g4
  rw [hq] at g2 g3 ⊢
  exact umeas_ok s d b off len cap q l w s0 s1 t0 t1 hA hq hl (by omega) (by omega) (by omega) h6 g4

theorem Bts.shapeL {w : World} {v : Value} {l : List Int} (h : Bts w v l) : ∃ a c, v = .slice a l.length c := by
  obtain ⟨a, c, _, _, rfl, _⟩ := h; exact ⟨_, _, rfl⟩

@[reducible] def zeroUC : Array Value := #[.int .i64 0, .int .i64 0, .bool false, .slice none 0 0]

theorem zeroU_cells {w w0 w' : World} {t : TypeId} (h : w0 = w.alloc (.cells zeroUC t)) (hb : Below w0.heap.size w0 w') :
    (w'.cell? ⟨w.heap.size, 0, none⟩ = some (.int .i64 0) ∧ w'.cell? ⟨w.heap.size, 1, none⟩ = some (.int .i64 0) ∧ w'.cell? ⟨w.heap.size, 2, none⟩ = some (.bool false) ∧ w'.cell? ⟨w.heap.size, 3, none⟩ = some (.slice none 0 0)) ∧ ∀ i, w'.frozen? ⟨w.heap.size, i, none⟩ = false := by
  subst h
  have hc : ∀ i v, zeroUC[i]? = some v → w'.cell? ⟨w.heap.size, i, none⟩ = some v := by
    intro i v hv
    refine cell_later hb ?_
    rw [World.cell?_alloc_mark w zeroUC t (0, 0) i]; exact hv
  refine ⟨⟨hc 0 _ rfl, hc 1 _ rfl, hc 2 _ rfl, hc 3 _ rfl⟩, fun i => ?_⟩
  rw [hb.frozen (by simp), World.frozen?_alloc_mark w zeroUC t 0 0 i]; simp

set_option maxHeartbeats 2000000 in
theorem uparse_no (s d : Int) (a : Option Addr) (b off len cap : Nat) (l : List Int) (w : World) (s0 : 0 ≤ s) (s1 : s < 4294967296) (t0 : 0 ≤ d) (t1 : d < 4294967296) (ha : a = some ⟨b, off, none⟩ ∨ l = []) (hA : At w b off len cap l) (hl : len ≤ 70000) (h : ¬ parseU s d l = 0) :
    Calls Try.prog 59 #[.int .u32 s, .int .u32 d, .slice a len cap] w fun e w' => e = .returned (.tuple #[udV Ud.zero (.slice none 0 0), .int .i64 (parseU s d l)]) ∧ Below w.heap.size w w' := by
  have HE : Hid (¬ parseU s d l = 0) := h
  obtain ⟨E, hEE⟩ : ∃ E, parseU s d l = E := ⟨_, rfl⟩
  have hne : (E != 0) = true := by rw [bne_iff_ne, ← hEE]; exact h
  rw [hEE]
  have HEE : Hid (parseU s d l = E) := hEE
  clear h hEE
  go_enter Try.func59, Try.ntmps59
  go_wp2_with fail
  refine (umeas_no s d a b off len cap l _ s0 s1 t0 t1 ha (hA.later (below_alloc _ _)) hl HE.out).mono ?_
  rintro e w1 ⟨rfl, hb1⟩
  rw [HEE.out]
  obtain ⟨⟨c0, c1, c2, c3⟩, hfz⟩ := zeroU_cells rfl hb1
  have bel : Below w.heap.size w ((((w1.setCell ⟨w.heap.size, 0, none⟩ (.int .i64 0)).setCell ⟨w.heap.size, 1, none⟩ (.int .i64 0)).setCell ⟨w.heap.size, 2, none⟩ (.bool false)).setCell ⟨w.heap.size, 3, none⟩ (.slice none 0 0)) := by
    have hle : w.heap.size ≤ w.heap.size := Nat.le_refl _
    exact (((((below_trans (below_alloc _ _) hb1).setCell hle _).setCell hle _).setCell hle _).setCell hle _)
  clear hb1
  go_wp2
  refine bodyPost_ret (v := .tuple #[udV Ud.zero (.slice none 0 0), .int .i64 E]) ?_ rfl ?_
  · simp [results, Try.results59, go_sem, c0, c1, c2, c3, Ud.zero]
  exact ⟨rfl, bel⟩

set_option maxHeartbeats 8000000 in
theorem uparse_own (s d : Int) (b off len cap : Nat) (l : List Int) (w : World) (s0 : 0 ≤ s) (s1 : s < 4294967296) (t0 : 0 ≤ d) (t1 : d < 4294967296) (hA : At w b off len cap l) (hl : len ≤ 70000) (g : UGood s d l) :
    Calls Try.prog 59 #[.int .u32 s, .int .u32 d, .slice (some ⟨b, off, none⟩) len cap] w fun e w' =>
      ∃ a1 k1, e = .returned (.tuple #[udV (udOf l) (.slice a1 (udOf l).data.length k1), .int .i64 0]) ∧ Owns w' w.heap.size (.slice a1 (udOf l).data.length k1) (udOf l).data ∧ Below w.heap.size w w' := by
  have hL := hA.len
  have hc := hA.cap1
  have HG : Hid (UGood s d l) := g
  have g2 := g.b
  have g3 := g.c
  have g1 := g.a
  rw [hL] at g1 g3
  have i5 : (0 : Int) ≤ w2 l 4 := by omega
  have i7 : w2 l 4 ≤ (cap : Int) := by omega
  obtain ⟨V1, hsl1, ho1⟩ := slice_part b off len cap 8 (w2 l 4) 8 (w2 l 4).toNat rfl (by omega) (by omega) (by omega)
  have HBL : Hid (isBytes l) := hA.bytes
  clear g hL
  go_enter Try.func59, Try.ntmps59
  go_wp2_with fail
  refine (umeas_yes s d b off len cap l _ s0 s1 t0 t1 (hA.later (below_alloc _ _)) hl HG.out).mono ?_
  rintro e w1 ⟨rfl, hb1⟩
  have hb0 : Below w.heap.size w w1 := below_trans (below_alloc _ _) hb1
  have hA1 := hA.later hb0
  have HW : Hid (Below (w.alloc (.cells zeroUC 49)).heap.size (w.alloc (.cells zeroUC 49)) w1) := hb1
  have hsz := hb1.size
  simp only [World.size_alloc] at hsz
  clear hb1
  go_wp2_with fail
  go_region_held3 (fun w' => True) (first | trivial | go_keep)
    (first
      | (go_at_call_of 69 (Value.int .i64 0); refine (uword_any b off len cap l 0 0 _ (hA1.later (Below.refl _ _).drew) rfl (by omega)).mono ?_; rintro e w2' ⟨rfl, hw2⟩; have hw2 := hw2.symm; subst hw2)
      | (go_at_call_of 69 (Value.int .i64 2); refine (uword_any b off len cap l 2 2 _ (hA1.later (Below.refl _ _).drew) rfl (by omega)).mono ?_; rintro e w2' ⟨rfl, hw2⟩; have hw2 := hw2.symm; subst hw2)
      | (go_at_call_of 69 (Value.int .i64 6); refine (uword_any b off len cap l 6 6 _ (hA1.later (Below.refl _ _).drew) rfl (by omega)).mono ?_; rintro e w2' ⟨rfl, hw2⟩; have hw2 := hw2.symm; subst hw2)
      | (go_at_call 58; refine (clone_part V1 b off len cap 8 (w2 l 4).toNat l _ ho1 (hA1.later (Below.refl _ _).drew) (by omega) (by omega) (by omega)).mono ?_; rintro e w3 ⟨v1, rfl, hv1, hb3'⟩; obtain ⟨a1, k1, rfl⟩ := Bts.shapeL (l := (udOf l).data) (hv1.bts (isBytes_part l HBL.out _ _)); have hb3 : Below w1.heap.size w1 w3 := below_trans (Below.refl _ _).drew hb3'; obtain ⟨⟨c0, c1, c2, c3⟩, hfz⟩ := zeroU_cells rfl (below_trans HW.out hb3)))
  have hbq : (w2 l 6 == 0) = decide (w2 l 6 = 0) := rfl
  rw [hbq]
  obtain ⟨W, hW⟩ : ∃ W, W = ((((w3.setCell ⟨w.heap.size, 0, none⟩ (.int .i64 (w2 l 0))).setCell ⟨w.heap.size, 1, none⟩ (.int .i64 (w2 l 2))).setCell ⟨w.heap.size, 2, none⟩ (.bool (decide (w2 l 6 = 0)))).setCell ⟨w.heap.size, 3, none⟩ (.slice a1 (udOf l).data.length k1)) := ⟨_, rfl⟩
  have hlt : w.heap.size < w1.drew.heap.size := by show w.heap.size < w1.heap.size; omega
  have B1 : Owns W w1.drew.heap.size (.slice a1 (udOf l).data.length k1) (udOf l).data := by
    rw [hW]
    exact ((((hv1.store hlt _).store hlt _).store hlt _).store hlt _)
  have bel : Below w.heap.size w W := by
    rw [hW]
    have hle : w.heap.size ≤ w.heap.size := Nat.le_refl _
    exact (((((below_trans hb0 hb3).setCell hle _).setCell hle _).setCell hle _).setCell hle _)
  have r0 : W.cell? ⟨w.heap.size, 0, none⟩ = some (.int .i64 (w2 l 0)) := by rw [hW]; simp [go_sem, c0]
  have r1 : W.cell? ⟨w.heap.size, 1, none⟩ = some (.int .i64 (w2 l 2)) := by rw [hW]; simp [go_sem, c1]
  have r2 : W.cell? ⟨w.heap.size, 2, none⟩ = some (.bool (decide (w2 l 6 = 0))) := by rw [hW]; simp [go_sem, c2]
  have r3 : W.cell? ⟨w.heap.size, 3, none⟩ = some (.slice a1 (udOf l).data.length k1) := by rw [hW]; simp [go_sem, c3]
  rw [← hW]
  clear hW c0 c1 c2 c3 hfz hv1 hb3 hb3' hb0 hA hA1 hsl1 ho1 HW hbq
  go_wp2
  refine bodyPost_ret (v := .tuple #[udV (udOf l) (.slice a1 (udOf l).data.length k1), .int .i64 0]) ?_ rfl ?_
  · simp [results, Try.results59, go_sem, r0, r1, r2, r3, udOf]
  exact ⟨_, _, rfl, B1.low (Nat.le_of_lt hlt), bel⟩

theorem uparse_ok (s d : Int) (b off len cap : Nat) (l : List Int) (w : World) (s0 : 0 ≤ s) (s1 : s < 4294967296) (t0 : 0 ≤ d) (t1 : d < 4294967296) (hA : At w b off len cap l) (hl : len ≤ 70000) (g : UGood s d l) :
    Calls Try.prog 59 #[.int .u32 s, .int .u32 d, .slice (some ⟨b, off, none⟩) len cap] w fun e w' =>
      ∃ a1 k1, e = .returned (.tuple #[udV (udOf l) (.slice a1 (udOf l).data.length k1), .int .i64 0]) ∧ Bts w' (.slice a1 (udOf l).data.length k1) (udOf l).data ∧ Below w.heap.size w w' := by
  refine (uparse_own s d b off len cap l w s0 s1 t0 t1 hA hl g).mono ?_
  rintro e w' ⟨a1, k1, rfl, ho, hb⟩
  exact ⟨a1, k1, rfl, ho.bts (isBytes_part l hA.bytes _ _), hb⟩
end Go.Proofs.Ytdejjokgchbgnaa
