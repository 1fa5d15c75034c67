/- The contract of Parse in the document's own answer, where nothing is wrong. -/
import Derived.Test.YtdejjokgchbgnaaRparse
import Derived.Deep.RegionHeld3
import Derived.Deep.DrawnRows
set_option maxRecDepth 100000
namespace Go.Proofs.Ytdejjokgchbgnaa
open Go.RowKit
attribute [local go_sem ↓] Go.wp_at_zero Go.wp_at_succ

set_option maxHeartbeats 2000000 in
theorem rparse_own (b off len cap : Nat) (l : List Int) (w : World) (hA : At w b off len cap l) (g1 : len ≤ 2048) (g2 : 20 ≤ len) (g3 : b1 l 0 / 16 = 4) (g4 : 20 ≤ hdOf l) (g5 : hdOf l ≤ len) (g6 : hdOf l ≤ w2 l 2) (g7 : w2 l 6 < 32768) (g8 : w2 l 2 ≤ len) (h : fold16 (ws (l.take (hdOf l).toNat)) = 65535) :
    Calls Try.prog 10 #[.slice (some ⟨b, off, none⟩) len cap] w fun e w' =>
      ∃ a1 k1 a2 k2, e = .returned (.tuple #[ipV (dgOf l) (.slice a1 (dgOf l).opts.length k1) (.slice a2 (dgOf l).body.length k2), .int .i64 0]) ∧ Owns w' w.heap.size (.slice a1 (dgOf l).opts.length k1) (dgOf l).opts ∧ Owns w' w.heap.size (.slice a2 (dgOf l).body.length k2) (dgOf l).body ∧ Below w.heap.size w w' := by
  have sd := set_drewN
  have H : Hid (fold16 (ws (l.take (hdOf l).toNat)) = 65535) := h
  have HH : Hid (hdOf l = b1 l 0 % 16 * 4) := rfl
  have p1 : w.cell? ⟨b, off + 1, none⟩ = some (.int .u8 (b1 l 1)) := hA.sees 1 (by rw [hA.len]; omega)
  have p8 : w.cell? ⟨b, off + 8, none⟩ = some (.int .u8 (b1 l 8)) := hA.sees 8 (by rw [hA.len]; omega)
  have p9 : w.cell? ⟨b, off + 9, none⟩ = some (.int .u8 (b1 l 9)) := hA.sees 9 (by rw [hA.len]; omega)
  have hbn : b < w.heap.size := World.block_lt_of_cell? _ _ p1
  have hn1 : ¬ (b = w.heap.size) := by omega
  have hn2 : ¬ (w.heap.size = b) := by omega
  have y1 := b1_bd l hA.bytes 1
  have y8 := b1_bd l hA.bytes 8
  have y9 := b1_bd l hA.bytes 9
  have n14 := bit14 (w2 l 6) (w2_bd l hA.bytes 6).1 (w2_bd l hA.bytes 6).2
  have n13 := bit13 (w2 l 6) (w2_bd l hA.bytes 6).1 (w2_bd l hA.bytes 6).2
  have nm := mask13 (w2 l 6) (w2_bd l hA.bytes 6).1 (w2_bd l hA.bytes 6).2
  have u1 : IntKind.i64.wrap (b1 l 1) = b1 l 1 := i64_id _ (by omega) (by omega)
  have u8' : IntKind.i64.wrap (b1 l 8) = b1 l 8 := i64_id _ (by omega) (by omega)
  have u9 : IntKind.i64.wrap (b1 l 9) = b1 l 9 := i64_id _ (by omega) (by omega)
  clear h
  have x0 := b1_bd l hA.bytes 0
  have x2 := w2_bd l hA.bytes 2
  have x6 := w2_bd l hA.bytes 6
  have HL := hA.len
  have c0 : w.cell? ⟨b, off, none⟩ = some (.int .u8 (b1 l 0)) := by have := hA.sees 0 (by omega); rwa [Nat.add_zero] at this
  have hA0 := hA.later (below_alloc w (.cells zeroC 29))
  have c0 := cell_later (below_alloc w (.cells zeroC 29)) c0
  have hm4 := mask4b (b1 l 0) x0.1 x0.2
  have hc := hA.cap1
  have i0 : (0 : Int) < (len : Int) := by omega
  unfold hdOf at *
  have k1 : ¬ (2048 : Int) < len := by omega
  have k2 : ¬ (len : Int) < 20 := by omega
  have k3 : (b1 l 0 / 16 != 4) = false := by simp [g3]
  have k4 : ¬ b1 l 0 % 16 * 4 < 20 := by omega
  have k5 : ¬ (len : Int) < b1 l 0 % 16 * 4 := by omega
  have k6 : ¬ w2 l 2 < b1 l 0 % 16 * 4 := by omega
  have hb15 : (bits .and .i64 (w2 l 6) 32768 != 0) = false := by rw [bit15 _ x6.1 x6.2]; simp; omega
  have k7 : ¬ (len : Int) < w2 l 2 := by omega
  clear HL
  go_enter Try.func10, Try.ntmps10
  go_wp2_with fail
  refine (word_any b off len cap l 2 2 _ (by exact hA0) rfl (by omega) (by omega)).mono ?_
  rintro e w' ⟨rfl, nq2, rfl⟩
  go_wp2_with fail
  refine (word_any b off len cap l 6 6 _ (by exact hA0.later (below_drewN (Below.refl _ _) _)) rfl (by omega) (by omega)).mono ?_
  rintro e w' ⟨rfl, nq6, rfl⟩
  go_wp2_with fail
  refine (one_any _ (l.take (b1 l 0 % 16 * 4).toNat) _ (head_part (hA0.later (below_drewN (Below.refl _ _) _)) (by omega) (by omega)) (by rw [List.length_take]; omega)).mono ?_
  rintro e w3 ⟨rfl, hb3⟩
  rw [show fold16 (ws (l.take (b1 l 0 % 16 * 4).toNat)) = 65535 from H.out]
  have hb3' := below_trans (below_drewN (Below.refl _ (w.alloc (.cells zeroC 29))) _) hb3
  have hA3 := hA0.later hb3'
  have hy3 := below_trans (below_alloc w (.cells zeroC 29)) hb3'
  have p1 := cell_later hy3 p1
  have p8 := cell_later hy3 p8
  have p9 := cell_later hy3 p9
  have i1 : (1 : Int) < (len : Int) := by omega
  have i8 : (8 : Int) < (len : Int) := by omega
  have i9 : (9 : Int) < (len : Int) := by omega
  clear hb3 c0 hA0
  go_wp2_with fail
  go_region_held3 (fun w' => w'.cell? ⟨b, off + 1, none⟩ = some (.int .u8 (b1 l 1)) ∧ w'.cell? ⟨b, off + 8, none⟩ = some (.int .u8 (b1 l 8)) ∧ w'.cell? ⟨b, off + 9, none⟩ = some (.int .u8 (b1 l 9))) (first | go_keep | (exact ⟨cell_later hb8 p1, cell_later hb8 p8, cell_later hb8 p9⟩) | (exact ⟨cell_later hb7 p1, cell_later hb7 p8, cell_later hb7 p9⟩))
    (first
      | (go_at_call 20; refine (word_any b off len cap l 4 4 _ (hA3.later (Below.refl _ _).drew) rfl (by omega) (by omega)).mono ?_; rintro e w4 ⟨rfl, n4, rfl⟩)
      | (go_at_call_of 22 (Value.int IntKind.i64 12); refine (long_any b off len cap l 12 12 _ (hA3.later (below_drewN (Below.refl _ _) _)) rfl (by omega) (by omega)).mono ?_; rintro e w5 ⟨rfl, n5, rfl⟩)
      | (go_at_call_of 22 (Value.int IntKind.i64 16); refine (long_any b off len cap l 16 16 _ (hA3.later (below_drewN (Below.refl _ _) _)) rfl (by omega) (by omega)).mono ?_; rintro e w6 ⟨rfl, n6, rfl⟩)
      | (go_at_call_of 23 (Value.int IntKind.i64 20); refine (part_any b off len cap l 20 (b1 l 0 % 16 * 4) 20 (b1 l 0 % 16 * 4).toNat _ (hA3.later (below_drewN (Below.refl _ _) _)) rfl (by omega) (by omega) (by omega) (by omega)).mono ?_; rintro e w7 ⟨v7, rfl, ho7, hb7'⟩; obtain ⟨a1, m1, k1', rfl⟩ := (ho7.bts (isBytes_part l hA.bytes _ _)).shape; have hb7 : Below w3.heap.size w3 w7 := below_trans (below_drewN (Below.refl _ _) _) hb7')
      | (go_at_call_of 23 (Value.int IntKind.i64 (w2 l 2)); refine (part_any b off len cap l (b1 l 0 % 16 * 4) (w2 l 2) (b1 l 0 % 16 * 4).toNat (w2 l 2).toNat _ (hA3.later hb7) (by omega) (by omega) (by omega) (by omega) (by omega)).mono ?_; rintro e w8 ⟨v8, rfl, ho8, hb8'⟩; obtain ⟨a2, m2, k2', rfl⟩ := (ho8.bts (isBytes_part l hA.bytes _ _)).shape; have hb8 := below_trans hb7 hb8'; obtain ⟨⟨z0, z1, z2, z3, z4, z5, z6, z7, z8, z9, z10⟩, hfz⟩ := zero_cells rfl (below_trans hb3' hb8)))
  have hs0 := hb3'.size
  have hs7 := hb7.size
  simp only [World.size_alloc] at hs0
  obtain ⟨W, hW⟩ : ∃ W, W = (((((((((((w8.setCell ⟨w.heap.size, 0, none⟩ (.int .i64 (b1 l 1))).setCell ⟨w.heap.size, 1, none⟩ (.int .i64 (w2 l 4))).setCell ⟨w.heap.size, 2, none⟩ (.bool (bit (w2 l 6) 16384))).setCell ⟨w.heap.size, 3, none⟩ (.bool (bit (w2 l 6) 8192))).setCell ⟨w.heap.size, 4, none⟩ (.int .i64 (w2 l 6 % 8192))).setCell ⟨w.heap.size, 5, none⟩ (.int .i64 (b1 l 8))).setCell ⟨w.heap.size, 6, none⟩ (.int .i64 (b1 l 9))).setCell ⟨w.heap.size, 7, none⟩ (.int .u32 (w4 l 12))).setCell ⟨w.heap.size, 8, none⟩ (.int .u32 (w4 l 16))).setCell ⟨w.heap.size, 9, none⟩ (.slice a1 m1 k1')).setCell ⟨w.heap.size, 10, none⟩ (.slice a2 m2 k2')) := ⟨_, rfl⟩
  have hlt1 : w.heap.size < w3.heap.size := by omega
  have hlt2 : w.heap.size < w7.heap.size := by omega
  have hb8'' := hb8'
  have ho7 := ho7.low (show w3.heap.size ≤ _ from Nat.le_refl _)
  have B1 : Owns W w3.heap.size (.slice a1 m1 k1') ((l.drop 20).take ((b1 l 0 % 16 * 4).toNat - 20)) := by
    rw [hW]; exact ((((((((((((ho7.later hb8').store hlt1 _).store hlt1 _).store hlt1 _).store hlt1 _).store hlt1 _).store hlt1 _).store hlt1 _).store hlt1 _).store hlt1 _).store hlt1 _).store hlt1 _)
  have B2 : Owns W w7.heap.size (.slice a2 m2 k2') ((l.drop (b1 l 0 % 16 * 4).toNat).take ((w2 l 2).toNat - (b1 l 0 % 16 * 4).toNat)) := by
    rw [hW]; exact (((((((((((ho8.store hlt2 _).store hlt2 _).store hlt2 _).store hlt2 _).store hlt2 _).store hlt2 _).store hlt2 _).store hlt2 _).store hlt2 _).store hlt2 _).store hlt2 _)
  have bel : Below w.heap.size w W := by
    rw [hW]
    have hle : w.heap.size ≤ w.heap.size := Nat.le_refl _
    exact ((((((((((((below_trans hy3 hb8).setCell hle _).setCell hle _).setCell hle _).setCell hle _).setCell hle _).setCell hle _).setCell hle _).setCell hle _).setCell hle _).setCell hle _).setCell hle _)
  have r0 : W.cell? ⟨w.heap.size, 0, none⟩ = some (.int .i64 (b1 l 1)) := by rw [hW]; simp [go_sem, z0]
  have r1 : W.cell? ⟨w.heap.size, 1, none⟩ = some (.int .i64 (w2 l 4)) := by rw [hW]; simp [go_sem, z1]
  have r2 : W.cell? ⟨w.heap.size, 2, none⟩ = some (.bool (bit (w2 l 6) 16384)) := by rw [hW]; simp [go_sem, z2]
  have r3 : W.cell? ⟨w.heap.size, 3, none⟩ = some (.bool (bit (w2 l 6) 8192)) := by rw [hW]; simp [go_sem, z3]
  have r4 : W.cell? ⟨w.heap.size, 4, none⟩ = some (.int .i64 (w2 l 6 % 8192)) := by rw [hW]; simp [go_sem, z4]
  have r5 : W.cell? ⟨w.heap.size, 5, none⟩ = some (.int .i64 (b1 l 8)) := by rw [hW]; simp [go_sem, z5]
  have r6 : W.cell? ⟨w.heap.size, 6, none⟩ = some (.int .i64 (b1 l 9)) := by rw [hW]; simp [go_sem, z6]
  have r7 : W.cell? ⟨w.heap.size, 7, none⟩ = some (.int .u32 (w4 l 12)) := by rw [hW]; simp [go_sem, z7]
  have r8 : W.cell? ⟨w.heap.size, 8, none⟩ = some (.int .u32 (w4 l 16)) := by rw [hW]; simp [go_sem, z8]
  have r9 : W.cell? ⟨w.heap.size, 9, none⟩ = some (.slice a1 m1 k1') := by rw [hW]; simp [go_sem, z9]
  have r10 : W.cell? ⟨w.heap.size, 10, none⟩ = some (.slice a2 m2 k2') := by rw [hW]; simp [go_sem, z10]
  rw [← hW]
  have HBL : Hid (isBytes l) := hA.bytes
  clear hW z0 z1 z2 z3 z4 z5 z6 z7 z8 z9 z10 hfz ho7 ho8 hb7 hb8 hb7' hb8' hb8'' hb3' hA3 hA p1 p8 p9
  have hB1 := B1.bts (isBytes_part l HBL.out _ _)
  have hB2 := B2.bts (isBytes_part l HBL.out _ _)
  have hm1 : m1 = (dgOf l).opts.length := by obtain ⟨_, _, _, _, e, _⟩ := hB1; simp only [Value.slice.injEq] at e; exact e.2.1
  have hm2 : m2 = (dgOf l).body.length := by obtain ⟨_, _, _, _, e, _⟩ := hB2; simp only [Value.slice.injEq] at e; exact e.2.1
  subst hm1 hm2
  go_wp2
  refine bodyPost_ret (v := .tuple #[ipV (dgOf l) (.slice a1 (dgOf l).opts.length k1') (.slice a2 (dgOf l).body.length k2'), .int .i64 0]) ?_ rfl ?_
  · simp [results, Try.results10, go_sem, r0, r1, r2, r3, r4, r5, r6, r7, r8, r9, r10]
    exact ⟨rfl, rfl, rfl, rfl, rfl, rfl, rfl, rfl, rfl⟩
  exact ⟨a1, k1', a2, k2', rfl, B1.low (Nat.le_of_lt hlt1), B2.low (Nat.le_of_lt hlt2), bel⟩

theorem rparse_ok (b off len cap : Nat) (l : List Int) (w : World) (hA : At w b off len cap l) (g1 : len ≤ 2048) (g2 : 20 ≤ len) (g3 : b1 l 0 / 16 = 4) (g4 : 20 ≤ hdOf l) (g5 : hdOf l ≤ len) (g6 : hdOf l ≤ w2 l 2) (g7 : w2 l 6 < 32768) (g8 : w2 l 2 ≤ len) (h : fold16 (ws (l.take (hdOf l).toNat)) = 65535) :
    Calls Try.prog 10 #[.slice (some ⟨b, off, none⟩) len cap] w fun e w' =>
      ∃ a1 k1 a2 k2, e = .returned (.tuple #[ipV (dgOf l) (.slice a1 (dgOf l).opts.length k1) (.slice a2 (dgOf l).body.length k2), .int .i64 0]) ∧ Bts w' (.slice a1 (dgOf l).opts.length k1) (dgOf l).opts ∧ Bts w' (.slice a2 (dgOf l).body.length k2) (dgOf l).body ∧ Below w.heap.size w w' := by
  refine (rparse_own b off len cap l w hA g1 g2 g3 g4 g5 g6 g7 g8 h).mono ?_
  rintro e w' ⟨a1, k1, a2, k2, rfl, h1, h2, hb⟩
  exact ⟨a1, k1, a2, k2, rfl, h1.bts (isBytes_part l hA.bytes _ _), h2.bts (isBytes_part l hA.bytes _ _), hb⟩

theorem rparse_no (a : Option Addr) (b off len cap : Nat) (l : List Int) (w : World) (ha : a = some ⟨b, off, none⟩ ∨ l = []) (hA : At w b off len cap l) (h : ¬ parseE l = 0) :
    Calls Try.prog 10 #[.slice a len cap] w fun e w' => e = .returned (.tuple #[ipV Dg.zero (.slice none 0 0) (.slice none 0 0), .int .i64 (parseE l)]) ∧ Below w.heap.size w w' := by
  have hl := hA.len
  obtain ⟨E, hE⟩ : ∃ E, E = parseE l := ⟨_, rfl⟩
  rw [← hE] at h ⊢
  unfold parseE at hE
  rw [hl] at hE
  by_cases h1 : 2048 < len
  · rw [if_pos h1] at hE; subst hE; exact rparse_long a len cap w h1
  rw [if_neg h1] at hE
  by_cases h2 : len < 20
  · rw [if_pos h2] at hE; subst hE; exact rparse_short a len cap w h2
  rw [if_neg h2] at hE
  rcases ha with rfl | hnil
  case inr => rw [hnil] at hl; simp at hl; omega
  by_cases h3 : b1 l 0 / 16 ≠ 4 ∨ hdOf l < 20
  · rw [if_pos h3] at hE; subst hE
    by_cases h3' : b1 l 0 / 16 = 4
    · exact rparse_few b off len cap l w hA (by omega) (by omega) h3' (by omega)
    · exact rparse_ver b off len cap l w hA (by omega) (by omega) h3'
  rw [if_neg h3] at hE
  by_cases h4 : (len : Int) < hdOf l
  · rw [if_pos h4] at hE; subst hE; exact rparse_head b off len cap l w hA (by omega) (by omega) (by omega) (by omega) h4
  rw [if_neg h4] at hE
  by_cases h5 : w2 l 2 < hdOf l ∨ 32768 ≤ w2 l 6
  · rw [if_pos h5] at hE; subst hE
    by_cases h6 : w2 l 2 < hdOf l
    · exact rparse_less b off len cap l w hA (by omega) (by omega) (by omega) (by omega) (by omega) h6
    · exact rparse_flag b off len cap l w hA (by omega) (by omega) (by omega) (by omega) (by omega) (by omega) (by omega)
  rw [if_neg h5] at hE
  by_cases h6 : (len : Int) < w2 l 2
  · rw [if_pos h6] at hE; subst hE; exact rparse_total b off len cap l w hA (by omega) (by omega) (by omega) (by omega) (by omega) (by omega) (by omega) h6
  rw [if_neg h6] at hE
  by_cases h7 : fold16 (ws (l.take (hdOf l).toNat)) ≠ 65535
  · rw [if_pos h7] at hE; subst hE; exact rparse_sum b off len cap l w hA (by omega) (by omega) (by omega) (by omega) (by omega) (by omega) (by omega) (by omega) h7
  rw [if_neg h7] at hE
  exact absurd hE h
end Go.Proofs.Ytdejjokgchbgnaa
