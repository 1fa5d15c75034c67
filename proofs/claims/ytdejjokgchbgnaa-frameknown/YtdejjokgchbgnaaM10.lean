/- The contract of Datagram, the document's own answer. -/
import Derived.Test.YtdejjokgchbgnaaM8
import Derived.Test.YtdejjokgchbgnaaM9
set_option maxRecDepth 100000
namespace Go.Proofs.Ytdejjokgchbgnaa
open Go.RowKit
attribute [local go_sem ↓] Go.wp_at_zero Go.wp_at_succ

theorem rslice_upto (b off len cap q : Nat) (hq : q ≤ cap) (W : World) :
    (Instr.slice 23 (.slice (some ⟨b, off, none⟩) len cap) none (some (.int .i64 (q : Int))) none).run Try.prog W = .ok (.slice (some ⟨b, off, none⟩) q cap) W := by
  have ht' : Try.prog.underlying 23 = some (.slice (Try.prog.elem 23)) := by simp [Program.elem, Try.underlying23]
  have he : Try.prog.elem 23 = 5 := by simp [Program.elem, Try.underlying23]
  rw [run_slice_h W 23 _ _ _ ht' .i64 _ (by omega) (by omega), he, Try.sizeOf5]
  by_cases hc : cap = 0
  · simp [Result.andThen, sliced, hc]
  · simp [Result.andThen, sliced, hc, add_at]

theorem rword_bel (b off len cap : Nat) (l : List Int) (q : Int) (k : Nat) (w : World) (hA : At w b off len cap l) (hq : q = (k : Int)) (hk : k + 2 ≤ len) (hl : len ≤ 140737488351232) :
    Calls Try.prog 47 #[.slice (some ⟨b, off, none⟩) len cap, .int .i64 q] w fun e w' => e = .returned (.int .i64 (w2 l k)) ∧ Below w.heap.size w w' := by
  refine (rword_any b off len cap l q k w hA hq hk hl).mono ?_
  rintro e w' ⟨rfl, nq, rfl⟩
  exact ⟨rfl, below_drewN (Below.refl _ _) _⟩

@[reducible] def zeroW (w : World) (n : Nat) : World := (((w.setCell ⟨n, 0, none⟩ (.int .i64 0)).setCell ⟨n, 1, none⟩ (.int .i64 0)).setCell ⟨n, 2, none⟩ (.bool false)).setCell ⟨n, 3, none⟩ (.slice none 0 0)

theorem zeroW_below {w w' : World} {n : Nat} (h : Below n w w') : Below n w (zeroW w' n) := by
  have hle : n ≤ n := Nat.le_refl _
  exact ((((h.setCell hle _).setCell hle _).setCell hle _).setCell hle _)

set_option maxHeartbeats 1000000 in
theorem urparse_short (s d : Int) (a : Option Addr) (len cap : Nat) (w : World) (h : len < 8) :
    Calls Try.prog 30 #[.int .u32 s, .int .u32 d, .slice a len cap] w fun e w' => e = .returned (.tuple #[udV Ud.zero (.slice none 0 0), .int .i64 2]) ∧ Below w.heap.size w w' := by
  have h' : (len : Int) < 8 := by omega
  go_enter Try.func30, Try.ntmps30
  go_wp2
  refine bodyPost_ret (v := .tuple #[udV Ud.zero (.slice none 0 0), .int .i64 2]) ?_ rfl ?_
  · simp [results, Try.results30, go_sem, Ud.zero]
  exact ⟨rfl, below_alloc _ _⟩

set_option maxHeartbeats 1000000 in
theorem urparse_form (s d : Int) (b off len cap : Nat) (l : List Int) (w : World) (hA : At w b off len cap l) (hl : len ≤ 70000) (g1 : 8 ≤ len) (h : w2 l 4 < 8) :
    Calls Try.prog 30 #[.int .u32 s, .int .u32 d, .slice (some ⟨b, off, none⟩) len cap] w fun e w' => e = .returned (.tuple #[udV Ud.zero (.slice none 0 0), .int .i64 4]) ∧ Below w.heap.size w w' := by
  have h' : ¬ (len : Int) < 8 := by omega
  go_enter Try.func30, Try.ntmps30
  go_wp2_with fail
  refine (rword_bel b off len cap l 4 4 _ (hA.later (below_alloc _ _)) rfl (by omega) (by omega)).mono ?_
  rintro e w1 ⟨rfl, hb1⟩
  obtain ⟨⟨c0, c1, c2, c3⟩, hfz⟩ := zeroU_cells rfl hb1
  have bel := zeroW_below (below_trans (below_alloc _ _) hb1)
  clear hb1
  go_wp2
  refine bodyPost_ret (v := .tuple #[udV Ud.zero (.slice none 0 0), .int .i64 4]) ?_ rfl ?_
  · simp [results, Try.results30, go_sem, c0, c1, c2, c3, Ud.zero]
  exact ⟨rfl, bel⟩

set_option maxHeartbeats 1000000 in
theorem urparse_long (s d : Int) (b off len cap : Nat) (l : List Int) (w : World) (hA : At w b off len cap l) (hl : len ≤ 70000) (g1 : 8 ≤ len) (g2 : 8 ≤ w2 l 4) (h : (len : Int) < w2 l 4) :
    Calls Try.prog 30 #[.int .u32 s, .int .u32 d, .slice (some ⟨b, off, none⟩) len cap] w fun e w' => e = .returned (.tuple #[udV Ud.zero (.slice none 0 0), .int .i64 2]) ∧ Below w.heap.size w w' := by
  have h' : ¬ (len : Int) < 8 := by omega
  have g2' : ¬ w2 l 4 < 8 := by omega
  go_enter Try.func30, Try.ntmps30
  go_wp2_with fail
  refine (rword_bel b off len cap l 4 4 _ (hA.later (below_alloc _ _)) rfl (by omega) (by omega)).mono ?_
  rintro e w1 ⟨rfl, hb1⟩
  obtain ⟨⟨c0, c1, c2, c3⟩, hfz⟩ := zeroU_cells rfl hb1
  have bel := zeroW_below (below_trans (below_alloc _ _) hb1)
  clear hb1
  go_wp2
  refine bodyPost_ret (v := .tuple #[udV Ud.zero (.slice none 0 0), .int .i64 2]) ?_ rfl ?_
  · simp [results, Try.results30, go_sem, c0, c1, c2, c3, Ud.zero]
  exact ⟨rfl, bel⟩

set_option maxHeartbeats 4000000 in
theorem urparse_sum (s d : Int) (b off len cap q : Nat) (l : List Int) (w : World) (s0 : 0 ≤ s) (s1 : s < 4294967296) (t0 : 0 ≤ d) (t1 : d < 4294967296) (hA : At w b off len cap l) (hq : w2 l 4 = (q : Int)) (hl : len ≤ 70000) (g1 : 8 ≤ len) (g2 : 8 ≤ q) (g3 : q ≤ len) (g4 : w2 l 6 ≠ 0) (h : fold16 (ws (pseudoB s d 17 q ++ l.take q)) ≠ 65535) :
    Calls Try.prog 30 #[.int .u32 s, .int .u32 d, .slice (some ⟨b, off, none⟩) len cap] w fun e w' => e = .returned (.tuple #[udV Ud.zero (.slice none 0 0), .int .i64 5]) ∧ Below w.heap.size w w' := by
  have h' : ¬ (len : Int) < 8 := by omega
  have g2' : ¬ (q : Int) < 8 := by omega
  have g3' : ¬ (len : Int) < (q : Int) := by omega
  have hc := hA.cap1
  have hsl := rslice_upto b off len cap q (by omega)
  have HQ : Hid (w2 l 4 = (q : Int)) := hq
  have hne : (w2 l 6 == 0) = false := by rw [beq_eq_false_iff_ne]; exact g4
  have hs : (fold16 (ws (pseudoB s d 17 q ++ l.take q)) != 65535) = true := by rw [bne_iff_ne]; exact h
  have HTL : Hid ((l.take q).length = q) := by show _ = _; rw [List.length_take, hA.len]; omega
  clear hq g4 h
  go_enter Try.func30, Try.ntmps30
  go_wp2_with fail
  refine (rword_bel b off len cap l 4 4 _ (hA.later (below_alloc _ _)) rfl (by omega) (by omega)).mono ?_
  rintro e w1 ⟨rfl, hb1⟩
  rw [HQ.out]
  go_wp2_with fail
  refine (rword_bel b off len cap l 6 6 _ (hA.later (below_trans (below_alloc _ _) hb1)) rfl (by omega) (by omega)).mono ?_
  rintro e w2' ⟨rfl, hb2⟩
  have hx2 := below_trans hb1 hb2
  have hA2 := hA.later (below_trans (below_alloc _ _) hx2)
  clear hb1 hb2
  go_wp2_with fail
  go_region_held3 (fun w' => True) (first | trivial | go_keep)
    (first
      | (go_at_call 39; refine (rpseudo_any s d 17 (q : Int) _ s0 s1 t0 t1).mono ?_; rintro e w4 ⟨v4, rfl, hP, hb4'⟩; obtain ⟨a4, n4, k4, rfl⟩ := hP.shape; have hb4 : Below w2'.heap.size w2' w4 := below_trans (below_drewN (Below.refl _ _) 1) hb4')
      | (go_at_call 38; refine (rsum2 w4 _ _ _ _ _ 23 rfl hP (bts_take (hA2.later hb4) q g3) (by rw [pseudo_length, HTL.out]; omega)).mono ?_; rintro e w5 ⟨rfl, rfl⟩))
  have hx5 := below_trans hx2 (below_trans hb4 (below_alloc w4 (.cells #[.slice a4 n4 k4, .slice (some ⟨b, off, none⟩) q cap] 23)))
  obtain ⟨⟨c0, c1, c2, c3⟩, hfz⟩ := zeroU_cells rfl hx5
  have bel := zeroW_below (below_trans (below_alloc _ _) hx5)
  generalize (w4.alloc (.cells #[.slice a4 n4 k4, .slice (some ⟨b, off, none⟩) q cap] 23)) = W5 at *
  clear hx5 hx2 hP hb4 hb4' hA2
  go_wp2
  refine bodyPost_ret (v := .tuple #[udV Ud.zero (.slice none 0 0), .int .i64 5]) ?_ rfl ?_
  · simp [results, Try.results30, go_sem, c0, c1, c2, c3, Ud.zero]
  exact ⟨rfl, bel⟩

theorem urparse_no (s d : Int) (a : Option Addr) (b off len cap : Nat) (l : List Int) (w : World) (s0 : 0 ≤ s) (s1 : s < 4294967296) (t0 : 0 ≤ d) (t1 : d < 4294967296) (ha : a = some ⟨b, off, none⟩ ∨ l = []) (hA : At w b off len cap l) (hl : len ≤ 70000) (h : ¬ parseU s d l = 0) :
    Calls Try.prog 30 #[.int .u32 s, .int .u32 d, .slice a len cap] w fun e w' => e = .returned (.tuple #[udV Ud.zero (.slice none 0 0), .int .i64 (parseU s d l)]) ∧ Below w.heap.size w w' := by
  have hL := hA.len
  obtain ⟨E, hE⟩ : ∃ E, parseU s d l = E := ⟨_, rfl⟩
  rw [hE] at h ⊢
  unfold parseU at hE
  by_cases g1 : l.length < 8
  · rw [if_pos g1] at hE; subst hE; exact urparse_short s d a len cap w (by omega)
  rw [if_neg g1] at hE
  rcases ha with rfl | rfl
  case inr => simp at g1
  by_cases g2 : w2 l 4 < 8
  · rw [if_pos g2] at hE; subst hE; exact urparse_form s d b off len cap l w hA hl (by omega) g2
  rw [if_neg g2] at hE
  by_cases g3 : (l.length : Int) < w2 l 4
  · rw [if_pos g3] at hE; subst hE; exact urparse_long s d b off len cap l w hA hl (by omega) (by omega) (by omega)
  rw [if_neg g3] at hE
  obtain ⟨q, hq⟩ := Int.eq_ofNat_of_zero_le (show 0 ≤ w2 l 4 by omega)
  rw [hq, Int.toNat_natCast] at hE
  by_cases g4 : w2 l 6 ≠ 0 ∧ fold16 (ws (pseudoB s d 17 (q : Int) ++ l.take q)) ≠ 65535
  · rw [if_pos g4] at hE; subst hE; exact urparse_sum s d b off len cap q l w s0 s1 t0 t1 hA hq hl (by omega) (by omega) (by omega) g4.1 g4.2
  rw [if_neg g4] at hE
  exact absurd hE.symm h

/-- Behind all tests: what stands there is laid. -/
theorem urparse_end {w w5 : World} {l : List Int} {v : Value} {t : TypeId} (hx5 : Below (w.alloc (.cells zeroUC t)).heap.size (w.alloc (.cells zeroUC t)) w5) (hv : Owns w5 (w.heap.size + 1) v (udOf l).data) (bb : Bool) :
    let W := (((w5.setCell ⟨w.heap.size, 0, none⟩ (.int .i64 (w2 l 0))).setCell ⟨w.heap.size, 1, none⟩ (.int .i64 (w2 l 2))).setCell ⟨w.heap.size, 2, none⟩ (.bool bb)).setCell ⟨w.heap.size, 3, none⟩ v
    Owns W (w.heap.size + 1) v (udOf l).data ∧ Below w.heap.size w W ∧ W.cell? ⟨w.heap.size, 0, none⟩ = some (.int .i64 (w2 l 0)) ∧ W.cell? ⟨w.heap.size, 1, none⟩ = some (.int .i64 (w2 l 2)) ∧ W.cell? ⟨w.heap.size, 2, none⟩ = some (.bool bb) ∧ W.cell? ⟨w.heap.size, 3, none⟩ = some v := by
  obtain ⟨⟨c0, c1, c2, c3⟩, -⟩ := zeroU_cells rfl hx5
  have hlt : w.heap.size < w.heap.size + 1 := Nat.lt_succ_self _
  have hle : w.heap.size ≤ w.heap.size := Nat.le_refl _
  refine ⟨((((hv.store hlt _).store hlt _).store hlt _).store hlt _), (((((below_trans (below_alloc _ _) hx5).setCell hle _).setCell hle _).setCell hle _).setCell hle _), ?_, ?_, ?_, ?_⟩
  · simp [go_sem, c0]
  · simp [go_sem, c1]
  · simp [go_sem, c2]
  · simp [go_sem, c3]

set_option maxHeartbeats 4000000 in
theorem urparse_bare (s d : Int) (b off len cap q : Nat) (l : List Int) (w : World) (hA : At w b off len cap l) (hq : w2 l 4 = (q : Int)) (hl : len ≤ 70000) (g1 : 8 ≤ len) (g2 : 8 ≤ q) (g3 : q ≤ len) (g4 : w2 l 6 = 0) :
    Calls Try.prog 30 #[.int .u32 s, .int .u32 d, .slice (some ⟨b, off, none⟩) len cap] w fun e w' =>
      ∃ a1 k1, e = .returned (.tuple #[udV (udOf l) (.slice a1 (udOf l).data.length k1), .int .i64 0]) ∧ Bts w' (.slice a1 (udOf l).data.length k1) (udOf l).data ∧ Below w.heap.size w w' := by
  have h' : ¬ (len : Int) < 8 := by omega
  have g2' : ¬ (q : Int) < 8 := by omega
  have g3' : ¬ (len : Int) < (q : Int) := by omega
  have hc := hA.cap1
  have HQ : Hid (w2 l 4 = (q : Int)) := hq
  have H6 : Hid (w2 l 6 = 0) := g4
  have HBL : Hid (isBytes l) := hA.bytes
  have HD : Hid ((udOf l).data = (l.drop 8).take (q - 8)) := by show (l.drop 8).take ((w2 l 4).toNat - 8) = _; rw [hq, Int.toNat_natCast]
  clear hq g4
  go_enter Try.func30, Try.ntmps30
  go_wp2_with fail
  refine (rword_bel b off len cap l 4 4 _ (hA.later (below_alloc _ _)) rfl (by omega) (by omega)).mono ?_
  rintro e w1 ⟨rfl, hb1⟩
  rw [HQ.out]
  go_wp2_with fail
  refine (rword_bel b off len cap l 6 6 _ (hA.later (below_trans (below_alloc _ _) hb1)) rfl (by omega) (by omega)).mono ?_
  rintro e w2' ⟨rfl, hb2⟩
  rw [H6.out]
  have hx2 := below_trans hb1 hb2
  clear hb1 hb2
  go_wp2
  go_quiet (fail)
  have hx3 := below_drewN hx2 nq
  go_wp2_with fail
  refine (rword_bel b off len cap l 0 0 _ (hA.later (below_trans (below_alloc _ _) hx3)) rfl (by omega) (by omega)).mono ?_
  rintro e w4 ⟨rfl, hb4⟩
  have hx4 := below_trans hx3 hb4
  clear hx2 hx3 hb4
  go_wp2_with fail
  refine (rword_bel b off len cap l 2 2 _ (hA.later (below_trans (below_alloc _ _) hx4)) rfl (by omega) (by omega)).mono ?_
  rintro e w5 ⟨rfl, hb5⟩
  have hx5 := below_trans hx4 hb5
  clear hx4 hb5
  go_wp2_with fail
  refine (part_any b off len cap l 8 (q : Int) 8 q _ (hA.later (below_trans (below_alloc _ _) hx5)) rfl rfl (by omega) (by omega) (by omega)).mono ?_
  rintro e w6 ⟨v6, rfl, hv6, hb6⟩
  rw [← HD.out] at hv6
  have hx6 := below_trans hx5 hb6
  have hv : Owns w6 (w.heap.size + 1) v6 (udOf l).data := hv6.low (by have := hx5.size; simp only [World.size_alloc] at this; omega)
  obtain ⟨a1, k1, rfl⟩ := Bts.shapeL (hv.bts (isBytes_part l HBL.out _ _))
  obtain ⟨⟨c0, c1, c2, c3⟩, hfz⟩ := zeroU_cells rfl hx6
  obtain ⟨B1, bel, r0, r1, r2, r3⟩ := urparse_end hx6 hv true
  clear hx5 hb6 hv6
  go_wp2
  generalize ((((w6.setCell ⟨w.heap.size, 0, none⟩ (.int .i64 (w2 l 0))).setCell ⟨w.heap.size, 1, none⟩ (.int .i64 (w2 l 2))).setCell ⟨w.heap.size, 2, none⟩ (.bool true)).setCell ⟨w.heap.size, 3, none⟩ (.slice a1 (udOf l).data.length k1)) = W at *
  refine bodyPost_ret (v := .tuple #[udV (udOf l) (.slice a1 (udOf l).data.length k1), .int .i64 0]) ?_ rfl ?_
  · simp [results, Try.results30, go_sem, r0, r1, r2, r3, udOf, H6.out]
  exact ⟨_, _, rfl, B1.bts (isBytes_part l HBL.out _ _), bel⟩

set_option maxHeartbeats 4000000 in
theorem urparse_check (s d : Int) (b off len cap q : Nat) (l : List Int) (w : World) (s0 : 0 ≤ s) (s1 : s < 4294967296) (t0 : 0 ≤ d) (t1 : d < 4294967296) (hA : At w b off len cap l) (hq : w2 l 4 = (q : Int)) (hl : len ≤ 70000) (g1 : 8 ≤ len) (g2 : 8 ≤ q) (g3 : q ≤ len) (g4 : w2 l 6 ≠ 0) (h : fold16 (ws (pseudoB s d 17 q ++ l.take q)) = 65535) :
    Calls Try.prog 30 #[.int .u32 s, .int .u32 d, .slice (some ⟨b, off, none⟩) len cap] w fun e w' =>
      ∃ a1 k1, e = .returned (.tuple #[udV (udOf l) (.slice a1 (udOf l).data.length k1), .int .i64 0]) ∧ Bts w' (.slice a1 (udOf l).data.length k1) (udOf l).data ∧ Below w.heap.size w w' := by
  have h' : ¬ (len : Int) < 8 := by omega
  have g2' : ¬ (q : Int) < 8 := by omega
  have g3' : ¬ (len : Int) < (q : Int) := by omega
  have hc := hA.cap1
  have hsl := rslice_upto b off len cap q (by omega)
  have HQ : Hid (w2 l 4 = (q : Int)) := hq
  have H6 : Hid (¬ w2 l 6 = 0) := g4
  have hne : (w2 l 6 == 0) = false := by rw [beq_eq_false_iff_ne]; exact g4
  have hs : (fold16 (ws (pseudoB s d 17 q ++ l.take q)) != 65535) = false := by rw [h]; rfl
  have HTL : Hid ((l.take q).length = q) := by show _ = _; rw [List.length_take, hA.len]; omega
  have HBL : Hid (isBytes l) := hA.bytes
  have HD : Hid ((udOf l).data = (l.drop 8).take (q - 8)) := by show (l.drop 8).take ((w2 l 4).toNat - 8) = _; rw [hq, Int.toNat_natCast]
  clear hq g4 h
  go_enter Try.func30, Try.ntmps30
  go_wp2_with fail
  refine (rword_bel b off len cap l 4 4 _ (hA.later (below_alloc _ _)) rfl (by omega) (by omega)).mono ?_
  rintro e w1 ⟨rfl, hb1⟩
  rw [HQ.out]
  go_wp2_with fail
  refine (rword_bel b off len cap l 6 6 _ (hA.later (below_trans (below_alloc _ _) hb1)) rfl (by omega) (by omega)).mono ?_
  rintro e w2' ⟨rfl, hb2⟩
  have hx2 := below_trans hb1 hb2
  have hA2 := hA.later (below_trans (below_alloc _ _) hx2)
  clear hb1 hb2
  go_wp2_with fail
  go_region_held3 (fun w' => True) (first | trivial | go_keep)
    (first
      | (go_at_call 39; refine (rpseudo_any s d 17 (q : Int) _ s0 s1 t0 t1).mono ?_; rintro e w4 ⟨v4, rfl, hP, hb4'⟩; obtain ⟨a4, n4, k4, rfl⟩ := hP.shape; have hb4 : Below w2'.heap.size w2' w4 := below_trans (below_drewN (Below.refl _ _) 1) hb4')
      | (go_at_call 38; refine (rsum2 w4 _ _ _ _ _ 23 rfl hP (bts_take (hA2.later hb4) q g3) (by rw [pseudo_length, HTL.out]; omega)).mono ?_; rintro e w5 ⟨rfl, rfl⟩))
  have hx3 := below_trans hx2 (below_trans hb4 (below_alloc w4 (.cells #[.slice a4 n4 k4, .slice (some ⟨b, off, none⟩) q cap] 23)))
  generalize (w4.alloc (.cells #[.slice a4 n4 k4, .slice (some ⟨b, off, none⟩) q cap] 23)) = W3 at *
  clear hx2 hP hb4 hb4' hA2 hsl
  go_wp2_with fail
  refine (rword_bel b off len cap l 0 0 _ (hA.later (below_trans (below_alloc _ _) hx3)) rfl (by omega) (by omega)).mono ?_
  rintro e w4 ⟨rfl, hb4⟩
  have hx4 := below_trans hx3 hb4
  clear hx3 hb4
  go_wp2_with fail
  refine (rword_bel b off len cap l 2 2 _ (hA.later (below_trans (below_alloc _ _) hx4)) rfl (by omega) (by omega)).mono ?_
  rintro e w5 ⟨rfl, hb5⟩
  have hx5 := below_trans hx4 hb5
  clear hx4 hb5
  go_wp2_with fail
  refine (part_any b off len cap l 8 (q : Int) 8 q _ (hA.later (below_trans (below_alloc _ _) hx5)) rfl rfl (by omega) (by omega) (by omega)).mono ?_
  rintro e w6 ⟨v6, rfl, hv6, hb6⟩
  rw [← HD.out] at hv6
  have hx6 := below_trans hx5 hb6
  have hv : Owns w6 (w.heap.size + 1) v6 (udOf l).data := hv6.low (by have := hx5.size; simp only [World.size_alloc] at this; omega)
  obtain ⟨a1, k1, rfl⟩ := Bts.shapeL (hv.bts (isBytes_part l HBL.out _ _))
  obtain ⟨⟨c0, c1, c2, c3⟩, hfz⟩ := zeroU_cells rfl hx6
  obtain ⟨B1, bel, r0, r1, r2, r3⟩ := urparse_end hx6 hv false
  clear hx5 hb6 hv6
  go_wp2
  generalize ((((w6.setCell ⟨w.heap.size, 0, none⟩ (.int .i64 (w2 l 0))).setCell ⟨w.heap.size, 1, none⟩ (.int .i64 (w2 l 2))).setCell ⟨w.heap.size, 2, none⟩ (.bool false)).setCell ⟨w.heap.size, 3, none⟩ (.slice a1 (udOf l).data.length k1)) = W at *
  refine bodyPost_ret (v := .tuple #[udV (udOf l) (.slice a1 (udOf l).data.length k1), .int .i64 0]) ?_ rfl ?_
  · simp [results, Try.results30, go_sem, r0, r1, r2, r3, udOf, H6.out]
  exact ⟨_, _, rfl, B1.bts (isBytes_part l HBL.out _ _), bel⟩

theorem urparse_ok (s d : Int) (b off len cap : Nat) (l : List Int) (w : World) (s0 : 0 ≤ s) (s1 : s < 4294967296) (t0 : 0 ≤ d) (t1 : d < 4294967296) (hA : At w b off len cap l) (hl : len ≤ 70000) (g : UGood s d l) :
    Calls Try.prog 30 #[.int .u32 s, .int .u32 d, .slice (some ⟨b, off, none⟩) len cap] w fun e w' =>
      ∃ a1 k1, e = .returned (.tuple #[udV (udOf l) (.slice a1 (udOf l).data.length k1), .int .i64 0]) ∧ Bts w' (.slice a1 (udOf l).data.length k1) (udOf l).data ∧ Below w.heap.size w w' := by
  have hL := hA.len
  obtain ⟨g1, g2, g3, g4⟩ := g
  obtain ⟨q, hq⟩ := Int.eq_ofNat_of_zero_le (show 0 ≤ w2 l 4 by omega)
  by_cases h6 : w2 l 6 = 0
  · exact urparse_bare s d b off len cap q l w hA hq hl (by omega) (by omega) (by omega) h6
  rcases g4 with g4 | g4
  · exact absurd g4 h6
  rw [hq, Int.toNat_natCast] at g4
  exact urparse_check s d b off len cap q l w s0 s1 t0 t1 hA hq hl (by omega) (by omega) (by omega) h6 g4
end Go.Proofs.Ytdejjokgchbgnaa

namespace Go.Proofs.Ytdejjokgchbgnaa
open Go.RowKit
attribute [local go_sem ↓] Go.wp_at_zero Go.wp_at_succ

/-- The making of a frame's variable and the store of a whole frame into it, as one step of the walk. -/
theorem alloc_store {ops : Array Oper} {rest : List Oper} {op op2 : Oper} {a : Act} {w : World} {Q : Exit → Act → World → Prop} (g1 : op.guard = none) (h1 : op.op = .alloc 37) (g2 : op2.guard = none) (x y : Operand) (h2 : op2.op = .store 37 x y) (C : Array Value)
    (hx : (a.put op.dst (.pointer (some ⟨w.heap.size, 0, none⟩))).eval x = .pointer (some ⟨w.heap.size, 0, none⟩)) (hy : (a.put op.dst (.pointer (some ⟨w.heap.size, 0, none⟩))).eval y = .agg C) (hC : C.size = 22) (hone : C.all (·.oneCell') = true)
    (W5 : World) (hW : (w.alloc (.cells zeroFC 37)).setCells w.heap.size 0 C.toList = W5)
    (h : wpList Try.prog ops Q rest ((a.put op.dst (.pointer (some ⟨w.heap.size, 0, none⟩))).put op2.dst undef) W5) : wpList Try.prog ops Q (op :: op2 :: rest) a w := by
  refine alloc_fr g1 h1 (store_fr g2 x y h2 w.heap.size C hx hy ((fc_new (w := w) rfl (Below.refl _ _)).there rfl) hC hone ?_)
  rw [hW]
  exact h

theorem good_parts (l : List Int) (g : Good l) (len : Nat) (hl : l.length = len) : len ≤ 2048 ∧ 20 ≤ len ∧ b1 l 0 / 16 = 4 ∧ 20 ≤ hdOf l ∧ hdOf l ≤ len ∧ hdOf l ≤ w2 l 2 ∧ w2 l 6 < 32768 ∧ w2 l 2 ≤ len ∧ fold16 (ws (l.take (hdOf l).toNat)) = 65535 := by
  subst hl
  exact ⟨g.a, g.b, g.c, g.d, g.e, g.f, g.g, g.h, g.i⟩

theorem rparse_good (b off len cap : Nat) (l : List Int) (w : World) (hA : At w b off len cap l) (g : Good l) :
    Calls Try.prog 10 #[.slice (some ⟨b, off, none⟩) len cap] w fun e w' =>
      ∃ a1 k1 a2 k2, e = .returned (.tuple #[ipV (dgOf l) (.slice a1 (dgOf l).opts.length k1) (.slice a2 (dgOf l).body.length k2), .int .i64 0]) ∧ Owns w' w.heap.size (.slice a1 (dgOf l).opts.length k1) (dgOf l).opts ∧ Owns w' w.heap.size (.slice a2 (dgOf l).body.length k2) (dgOf l).body ∧ Below w.heap.size w w' := by
  obtain ⟨g1, g2, g3, g4, g5, g6, g7, g8, g9⟩ := good_parts l g len hA.len
  exact rparse_own b off len cap l w hA g1 g2 g3 g4 g5 g6 g7 g8 g9

set_option maxHeartbeats 4000000 in
theorem rread_err (a : Option Addr) (b off len cap : Nat) (l : List Int) (w : World) (ha : a = some ⟨b, off, none⟩ ∨ l = []) (hA : At w b off len cap l) (h : ¬ parseE l = 0) :
    Calls Try.prog 13 #[.slice a len cap] w fun e w' => e = .returned (.tuple #[.agg zeroFC, .int .i64 (whyI (parseE l))]) ∧ Below w.heap.size w w' := by
  have hb1 := below_alloc w (.cells zeroFC 37)
  have hu := rparse_no a b off len cap l _ ha (hA.later hb1) h
  have hne : (parseE l != 0) = true := by rw [bne_iff_ne]; exact h
  clear hA h
  go_enter Try.func13, Try.ntmps13
  go_wp2_with fail
  refine hu.mono ?_
  rintro e w3 ⟨rfl, hb3⟩
  have F3 := fc_new (n := w.heap.size) rfl hb3
  have hs3 := hb3.size
  simp only [World.size_alloc] at hs3
  have bel3 := below_trans hb1 hb3
  clear hu hb1 hb3
  go_wp2_with fail
  refine (rwhy_any _ _).mono ?_
  rintro e w4 ⟨rfl, rfl⟩
  have F4 := F3.later (by omega) (below_alloc w3 (.cells (ipC Dg.zero (.slice none 0 0) (.slice none 0 0)) 29))
  have bel4 := below_trans bel3 (below_alloc w3 (.cells (ipC Dg.zero (.slice none 0 0) (.slice none 0 0)) 29))
  go_wp2_with (refine store_fr rfl (.tmp 2) (.tmp 18) rfl w.heap.size zeroFC rfl rfl (F4.there rfl) rfl oneZ ?_)
  refine bodyPost_ret (results_fr2 rfl _ _ w.heap.size _ rfl (range_set zeroFC.toList rfl (F4.there rfl)) rfl) rfl ?_
  exact ⟨rfl, setCells_below _ _ _ _ _ (Nat.le_refl _) bel4⟩

set_option maxHeartbeats 4000000 in
theorem rread_part (b off len cap : Nat) (l : List Int) (w : World) (hA : At w b off len cap l) (g : Good l) (hp : partB (dgOf l) = true) :
    Calls Try.prog 13 #[.slice (some ⟨b, off, none⟩) len cap] w fun e w' => e = .returned (.tuple #[.agg zeroFC, .int .i64 3]) ∧ Below w.heap.size w w' := by
  have hb1 := below_alloc w (.cells zeroFC 37)
  have hpa := rparse_good b off len cap l _ (hA.later hb1) g
  rcases hpd : dgOf l with ⟨tos, id, df, mf, of, ttl, pr, src, dst, opts, body⟩
  rw [hpd] at hpa hp
  have hpp : mf = true ∨ (mf = false ∧ (of != 0) = true) := by
    unfold partB at hp
    simp only at hp
    cases mf
    · right; refine ⟨rfl, ?_⟩; simpa using hp
    · left; rfl
  clear hA g hpd hp
  rcases hpp with rfl | ⟨rfl, hof⟩
  all_goals
    go_enter Try.func13, Try.ntmps13
    go_wp2_with fail
    refine hpa.mono ?_
    rintro e w3 ⟨a1, k1, a2, k2, rfl, -, -, hb3⟩
    have F3 := fc_new (n := w.heap.size) rfl hb3
    have hs3 := hb3.size
    simp only [World.size_alloc] at hs3
    have bel3 := below_trans hb1 hb3
    clear hpa hb1 hb3
  · have F4 := F3.later (by omega) (below_alloc w3 (.cells (ipC ⟨tos, id, df, true, of, ttl, pr, src, dst, opts, body⟩ (.slice a1 opts.length k1) (.slice a2 body.length k2)) 29))
    have bel4 := below_trans bel3 (below_alloc w3 (.cells (ipC ⟨tos, id, df, true, of, ttl, pr, src, dst, opts, body⟩ (.slice a1 opts.length k1) (.slice a2 body.length k2)) 29))
    go_wp2_with (refine store_fr rfl (.tmp 2) (.tmp 28) rfl w.heap.size zeroFC rfl rfl (F4.there rfl) rfl oneZ ?_)
    refine bodyPost_ret (results_fr2 rfl _ _ w.heap.size _ rfl (range_set zeroFC.toList rfl (F4.there rfl)) rfl) rfl ?_
    exact ⟨rfl, setCells_below _ _ _ _ _ (Nat.le_refl _) bel4⟩
  · have F4 := F3.later (by omega) (below_alloc w3 (.cells (ipC ⟨tos, id, df, false, of, ttl, pr, src, dst, opts, body⟩ (.slice a1 opts.length k1) (.slice a2 body.length k2)) 29))
    have bel4 := below_trans bel3 (below_alloc w3 (.cells (ipC ⟨tos, id, df, false, of, ttl, pr, src, dst, opts, body⟩ (.slice a1 opts.length k1) (.slice a2 body.length k2)) 29))
    go_wp2_with (refine store_fr rfl (.tmp 2) (.tmp 28) rfl w.heap.size zeroFC rfl rfl (F4.there rfl) rfl oneZ ?_)
    refine bodyPost_ret (results_fr2 rfl _ _ w.heap.size _ rfl (range_set zeroFC.toList rfl (F4.there rfl)) rfl) rfl ?_
    exact ⟨rfl, setCells_below _ _ _ _ _ (Nat.le_refl _) bel4⟩
end Go.Proofs.Ytdejjokgchbgnaa
