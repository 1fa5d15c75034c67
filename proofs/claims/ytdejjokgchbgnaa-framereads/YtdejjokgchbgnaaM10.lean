/- The contract of Parse in the document's own answer, where nothing is wrong. -/
import Derived.Test.YtdejjokgchbgnaaM9
import Derived.Deep.RegionHeld3
import Derived.Deep.DrawnRows
import Derived.Test.YtdejjokgchbgnaaM8
set_option maxRecDepth 100000
namespace Go.Proofs.Ytdejjokgchbgnaa
open Go.RowKit
attribute [local go_sem ↓] Go.wp_at_zero Go.wp_at_succ

set_option maxHeartbeats 2000000 in
theorem rparse_own (b off len cap : Nat) (l : List Int) (w : World) (hA : At w b off len cap l) (g1 : len ≤ 2048) (g2 : 20 ≤ len) (g3 : b1 l 0 / 16 = 4) (g4 : 20 ≤ hdOf l) (g5 : hdOf l ≤ len) (g6 : hdOf l ≤ w2 l 2) (g7 : w2 l 6 < 32768) (g8 : w2 l 2 ≤ len) (h : fold16 (ws (l.take (hdOf l).toNat)) = 65535) :
    Calls Try.prog 10 #[.slice (some ⟨b, off, none⟩) len cap] w fun e w' =>
      ∃ a1 k1 a2 k2, e = .returned (.tuple #[ipV (dgOf l) (.slice a1 (dgOf l).opts.length k1) (.slice a2 (dgOf l).body.length k2), .int .i64 0]) ∧ Owns w' w.heap.size (.slice a1 (dgOf l).opts.length k1) (dgOf l).opts ∧ Owns w' w.heap.size (.slice a2 (dgOf l).body.length k2) (dgOf l).body ∧ Below w.heap.size w w' := by
  have sd := set_drewN
  have H : Hid (fold16 (ws (l.take (hdOf l).toNat)) = 65535) := h
  have HH : Hid (hdOf l = b1 l 0 % 16 * 4) := rfl
  have p1 : w.cell? ⟨b, off + 1, none⟩ = some (.int .u8 (b1 l 1)) := hA.sees 1 (by rw [hA.len]; omega)
  have p8 : w.cell? ⟨b, off + 8, none⟩ = some (.int .u8 (b1 l 8)) := hA.sees 8 (by rw [hA.len]; omega)
  have p9 : w.cell? ⟨b, off + 9, none⟩ = some (.int .u8 (b1 l 9)) := hA.sees 9 (by rw [hA.len]; omega)
  have hbn : b < w.heap.size := World.block_lt_of_cell? _ _ p1
  have hn1 : ¬ (b = w.heap.size) := by omega
  have hn2 : ¬ (w.heap.size = b) := by omega
  have y1 := b1_bd l hA.bytes 1
  have y8 := b1_bd l hA.bytes 8
  have y9 := b1_bd l hA.bytes 9
  have n14 := bit14 (w2 l 6) (w2_bd l hA.bytes 6).1 (w2_bd l hA.bytes 6).2
  have n13 := bit13 (w2 l 6) (w2_bd l hA.bytes 6).1 (w2_bd l hA.bytes 6).2
  have nm := mask13 (w2 l 6) (w2_bd l hA.bytes 6).1 (w2_bd l hA.bytes 6).2
  have u1 : IntKind.i64.wrap (b1 l 1) = b1 l 1 := i64_id _ (by omega) (by omega)
  have u8' : IntKind.i64.wrap (b1 l 8) = b1 l 8 := i64_id _ (by omega) (by omega)
  have u9 : IntKind.i64.wrap (b1 l 9) = b1 l 9 := i64_id _ (by omega) (by omega)
  clear h
  have x0 := b1_bd l hA.bytes 0
  have x2 := w2_bd l hA.bytes 2
  have x6 := w2_bd l hA.bytes 6
  have HL := hA.len
  have c0 : w.cell? ⟨b, off, none⟩ = some (.int .u8 (b1 l 0)) := by have := hA.sees 0 (by omega); rwa [Nat.add_zero] at this
  have hA0 := hA.later (below_alloc w (.cells zeroC 29))
  have c0 := cell_later (below_alloc w (.cells zeroC 29)) c0
  have hm4 := mask4b (b1 l 0) x0.1 x0.2
  have hc := hA.cap1
  have i0 : (0 : Int) < (len : Int) := by omega
  unfold hdOf at *
  have k1 : ¬ (2048 : Int) < len := by omega
  have k2 : ¬ (len : Int) < 20 := by omega
  have k3 : (b1 l 0 / 16 != 4) = false := by simp [g3]
  have k4 : ¬ b1 l 0 % 16 * 4 < 20 := by omega
  have k5 : ¬ (len : Int) < b1 l 0 % 16 * 4 := by omega
  have k6 : ¬ w2 l 2 < b1 l 0 % 16 * 4 := by omega
  have hb15 : (bits .and .i64 (w2 l 6) 32768 != 0) = false := by rw [bit15 _ x6.1 x6.2]; simp; omega
  have k7 : ¬ (len : Int) < w2 l 2 := by omega
  clear HL
  go_enter Try.func10, Try.ntmps10
  go_wp2_with fail
  refine (word_any b off len cap l 2 2 _ (by exact hA0) rfl (by omega) (by omega)).mono ?_
  rintro e w' ⟨rfl, nq2, rfl⟩
  go_wp2_with fail
  refine (word_any b off len cap l 6 6 _ (by exact hA0.later (below_drewN (Below.refl _ _) _)) rfl (by omega) (by omega)).mono ?_
  rintro e w' ⟨rfl, nq6, rfl⟩
  go_wp2_with fail
  refine (one_any _ (l.take (b1 l 0 % 16 * 4).toNat) _ (head_part (hA0.later (below_drewN (Below.refl _ _) _)) (by omega) (by omega)) (by rw [List.length_take]; omega)).mono ?_
  rintro e w3 ⟨rfl, hb3⟩
  rw [show fold16 (ws (l.take (b1 l 0 % 16 * 4).toNat)) = 65535 from H.out]
  have hb3' := below_trans (below_drewN (Below.refl _ (w.alloc (.cells zeroC 29))) _) hb3
  have hA3 := hA0.later hb3'
  have hy3 := below_trans (below_alloc w (.cells zeroC 29)) hb3'
  have p1 := cell_later hy3 p1
  have p8 := cell_later hy3 p8
  have p9 := cell_later hy3 p9
  have i1 : (1 : Int) < (len : Int) := by omega
  have i8 : (8 : Int) < (len : Int) := by omega
  have i9 : (9 : Int) < (len : Int) := by omega
  clear hb3 c0 hA0
  go_wp2_with fail
  go_region_held3 (fun w' => w'.cell? ⟨b, off + 1, none⟩ = some (.int .u8 (b1 l 1)) ∧ w'.cell? ⟨b, off + 8, none⟩ = some (.int .u8 (b1 l 8)) ∧ w'.cell? ⟨b, off + 9, none⟩ = some (.int .u8 (b1 l 9))) (first | go_keep | (exact ⟨cell_later hb8 p1, cell_later hb8 p8, cell_later hb8 p9⟩) | (exact ⟨cell_later hb7 p1, cell_later hb7 p8, cell_later hb7 p9⟩))
    (first
      | (go_at_call 20; refine (word_any b off len cap l 4 4 _ (hA3.later (Below.refl _ _).drew) rfl (by omega) (by omega)).mono ?_; rintro e w4 ⟨rfl, n4, rfl⟩)
      | (go_at_call_of 22 (Value.int IntKind.i64 12); refine (long_any b off len cap l 12 12 _ (hA3.later (below_drewN (Below.refl _ _) _)) rfl (by omega) (by omega)).mono ?_; rintro e w5 ⟨rfl, n5, rfl⟩)
      | (go_at_call_of 22 (Value.int IntKind.i64 16); refine (long_any b off len cap l 16 16 _ (hA3.later (below_drewN (Below.refl _ _) _)) rfl (by omega) (by omega)).mono ?_; rintro e w6 ⟨rfl, n6, rfl⟩)
      | (go_at_call_of 23 (Value.int IntKind.i64 20); refine (part_any b off len cap l 20 (b1 l 0 % 16 * 4) 20 (b1 l 0 % 16 * 4).toNat _ (hA3.later (below_drewN (Below.refl _ _) _)) rfl (by omega) (by omega) (by omega) (by omega)).mono ?_; rintro e w7 ⟨v7, rfl, ho7, hb7'⟩; obtain ⟨a1, m1, k1', rfl⟩ := (ho7.bts (isBytes_part l hA.bytes _ _)).shape; have hb7 : Below w3.heap.size w3 w7 := below_trans (below_drewN (Below.refl _ _) _) hb7')
      | (go_at_call_of 23 (Value.int IntKind.i64 (w2 l 2)); refine (part_any b off len cap l (b1 l 0 % 16 * 4) (w2 l 2) (b1 l 0 % 16 * 4).toNat (w2 l 2).toNat _ (hA3.later hb7) (by omega) (by omega) (by omega) (by omega) (by omega)).mono ?_; rintro e w8 ⟨v8, rfl, ho8, hb8'⟩; obtain ⟨a2, m2, k2', rfl⟩ := (ho8.bts (isBytes_part l hA.bytes _ _)).shape; have hb8 := below_trans hb7 hb8'; obtain ⟨⟨z0, z1, z2, z3, z4, z5, z6, z7, z8, z9, z10⟩, hfz⟩ := zero_cells rfl (below_trans hb3' hb8)))
  have hs0 := hb3'.size
  have hs7 := hb7.size
  simp only [World.size_alloc] at hs0
  obtain ⟨W, hW⟩ : ∃ W, W = (((((((((((w8.setCell ⟨w.heap.size, 0, none⟩ (.int .i64 (b1 l 1))).setCell ⟨w.heap.size, 1, none⟩ (.int .i64 (w2 l 4))).setCell ⟨w.heap.size, 2, none⟩ (.bool (bit (w2 l 6) 16384))).setCell ⟨w.heap.size, 3, none⟩ (.bool (bit (w2 l 6) 8192))).setCell ⟨w.heap.size, 4, none⟩ (.int .i64 (w2 l 6 % 8192))).setCell ⟨w.heap.size, 5, none⟩ (.int .i64 (b1 l 8))).setCell ⟨w.heap.size, 6, none⟩ (.int .i64 (b1 l 9))).setCell ⟨w.heap.size, 7, none⟩ (.int .u32 (w4 l 12))).setCell ⟨w.heap.size, 8, none⟩ (.int .u32 (w4 l 16))).setCell ⟨w.heap.size, 9, none⟩ (.slice a1 m1 k1')).setCell ⟨w.heap.size, 10, none⟩ (.slice a2 m2 k2')) := ⟨_, rfl⟩
  have hlt1 : w.heap.size < w3.heap.size := by omega
  have hlt2 : w.heap.size < w7.heap.size := by omega
  have hb8'' := hb8'
  have ho7 := ho7.low (show w3.heap.size ≤ _ from Nat.le_refl _)
  have B1 : Owns W w3.heap.size (.slice a1 m1 k1') ((l.drop 20).take ((b1 l 0 % 16 * 4).toNat - 20)) := by
    rw [hW]; exact ((((((((((((ho7.later hb8').store hlt1 _).store hlt1 _).store hlt1 _).store hlt1 _).store hlt1 _).store hlt1 _).store hlt1 _).store hlt1 _).store hlt1 _).store hlt1 _).store hlt1 _)
  have B2 : Owns W w7.heap.size (.slice a2 m2 k2') ((l.drop (b1 l 0 % 16 * 4).toNat).take ((w2 l 2).toNat - (b1 l 0 % 16 * 4).toNat)) := by
    rw [hW]; exact (((((((((((ho8.store hlt2 _).store hlt2 _).store hlt2 _).store hlt2 _).store hlt2 _).store hlt2 _).store hlt2 _).store hlt2 _).store hlt2 _).store hlt2 _).store hlt2 _)
  have bel : Below w.heap.size w W := by
    rw [hW]
    have hle : w.heap.size ≤ w.heap.size := Nat.le_refl _
    exact ((((((((((((below_trans hy3 hb8).setCell hle _).setCell hle _).setCell hle _).setCell hle _).setCell hle _).setCell hle _).setCell hle _).setCell hle _).setCell hle _).setCell hle _).setCell hle _)
  have r0 : W.cell? ⟨w.heap.size, 0, none⟩ = some (.int .i64 (b1 l 1)) := by rw [hW]; simp [go_sem, z0]
  have r1 : W.cell? ⟨w.heap.size, 1, none⟩ = some (.int .i64 (w2 l 4)) := by rw [hW]; simp [go_sem, z1]
  have r2 : W.cell? ⟨w.heap.size, 2, none⟩ = some (.bool (bit (w2 l 6) 16384)) := by rw [hW]; simp [go_sem, z2]
  have r3 : W.cell? ⟨w.heap.size, 3, none⟩ = some (.bool (bit (w2 l 6) 8192)) := by rw [hW]; simp [go_sem, z3]
  have r4 : W.cell? ⟨w.heap.size, 4, none⟩ = some (.int .i64 (w2 l 6 % 8192)) := by rw [hW]; simp [go_sem, z4]
  have r5 : W.cell? ⟨w.heap.size, 5, none⟩ = some (.int .i64 (b1 l 8)) := by rw [hW]; simp [go_sem, z5]
  have r6 : W.cell? ⟨w.heap.size, 6, none⟩ = some (.int .i64 (b1 l 9)) := by rw [hW]; simp [go_sem, z6]
  have r7 : W.cell? ⟨w.heap.size, 7, none⟩ = some (.int .u32 (w4 l 12)) := by rw [hW]; simp [go_sem, z7]
  have r8 : W.cell? ⟨w.heap.size, 8, none⟩ = some (.int .u32 (w4 l 16)) := by rw [hW]; simp [go_sem, z8]
  have r9 : W.cell? ⟨w.heap.size, 9, none⟩ = some (.slice a1 m1 k1') := by rw [hW]; simp [go_sem, z9]
  have r10 : W.cell? ⟨w.heap.size, 10, none⟩ = some (.slice a2 m2 k2') := by rw [hW]; simp [go_sem, z10]
  rw [← hW]
  have HBL : Hid (isBytes l) := hA.bytes
  clear hW z0 z1 z2 z3 z4 z5 z6 z7 z8 z9 z10 hfz ho7 ho8 hb7 hb8 hb7' hb8' hb8'' hb3' hA3 hA p1 p8 p9
  have hB1 := B1.bts (isBytes_part l HBL.out _ _)
  have hB2 := B2.bts (isBytes_part l HBL.out _ _)
  have hm1 : m1 = (dgOf l).opts.length := by obtain ⟨_, _, _, _, e, _⟩ := hB1; simp only [Value.slice.injEq] at e; exact e.2.1
  have hm2 : m2 = (dgOf l).body.length := by obtain ⟨_, _, _, _, e, _⟩ := hB2; simp only [Value.slice.injEq] at e; exact e.2.1
  subst hm1 hm2
  go_wp2
  refine bodyPost_ret (v := .tuple #[ipV (dgOf l) (.slice a1 (dgOf l).opts.length k1') (.slice a2 (dgOf l).body.length k2'), .int .i64 0]) ?_ rfl ?_
  · simp [results, Try.results10, go_sem, r0, r1, r2, r3, r4, r5, r6, r7, r8, r9, r10]
    exact ⟨rfl, rfl, rfl, rfl, rfl, rfl, rfl, rfl, rfl⟩
  exact ⟨a1, k1', a2, k2', rfl, B1.low (Nat.le_of_lt hlt1), B2.low (Nat.le_of_lt hlt2), bel⟩

theorem rparse_ok (b off len cap : Nat) (l : List Int) (w : World) (hA : At w b off len cap l) (g1 : len ≤ 2048) (g2 : 20 ≤ len) (g3 : b1 l 0 / 16 = 4) (g4 : 20 ≤ hdOf l) (g5 : hdOf l ≤ len) (g6 : hdOf l ≤ w2 l 2) (g7 : w2 l 6 < 32768) (g8 : w2 l 2 ≤ len) (h : fold16 (ws (l.take (hdOf l).toNat)) = 65535) :
    Calls Try.prog 10 #[.slice (some ⟨b, off, none⟩) len cap] w fun e w' =>
      ∃ a1 k1 a2 k2, e = .returned (.tuple #[ipV (dgOf l) (.slice a1 (dgOf l).opts.length k1) (.slice a2 (dgOf l).body.length k2), .int .i64 0]) ∧ Bts w' (.slice a1 (dgOf l).opts.length k1) (dgOf l).opts ∧ Bts w' (.slice a2 (dgOf l).body.length k2) (dgOf l).body ∧ Below w.heap.size w w' := by
  refine (rparse_own b off len cap l w hA g1 g2 g3 g4 g5 g6 g7 g8 h).mono ?_
  rintro e w' ⟨a1, k1, a2, k2, rfl, h1, h2, hb⟩
  exact ⟨a1, k1, a2, k2, rfl, h1.bts (isBytes_part l hA.bytes _ _), h2.bts (isBytes_part l hA.bytes _ _), hb⟩

theorem rparse_no (a : Option Addr) (b off len cap : Nat) (l : List Int) (w : World) (ha : a = some ⟨b, off, none⟩ ∨ l = []) (hA : At w b off len cap l) (h : ¬ parseE l = 0) :
    Calls Try.prog 10 #[.slice a len cap] w fun e w' => e = .returned (.tuple #[ipV Dg.zero (.slice none 0 0) (.slice none 0 0), .int .i64 (parseE l)]) ∧ Below w.heap.size w w' := by
  have hl := hA.len
  obtain ⟨E, hE⟩ : ∃ E, E = parseE l := ⟨_, rfl⟩
  rw [← hE] at h ⊢
  unfold parseE at hE
  rw [hl] at hE
  by_cases h1 : 2048 < len
  · rw [if_pos h1] at hE; subst hE; exact rparse_long a len cap w h1
  rw [if_neg h1] at hE
  by_cases h2 : len < 20
  · rw [if_pos h2] at hE; subst hE; exact rparse_short a len cap w h2
  rw [if_neg h2] at hE
  rcases ha with rfl | hnil
  case inr => rw [hnil] at hl; simp at hl; omega
  by_cases h3 : b1 l 0 / 16 ≠ 4 ∨ hdOf l < 20
  · rw [if_pos h3] at hE; subst hE
    by_cases h3' : b1 l 0 / 16 = 4
    · exact rparse_few b off len cap l w hA (by omega) (by omega) h3' (by omega)
    · exact rparse_ver b off len cap l w hA (by omega) (by omega) h3'
  rw [if_neg h3] at hE
  by_cases h4 : (len : Int) < hdOf l
  · rw [if_pos h4] at hE; subst hE; exact rparse_head b off len cap l w hA (by omega) (by omega) (by omega) (by omega) h4
  rw [if_neg h4] at hE
  by_cases h5 : w2 l 2 < hdOf l ∨ 32768 ≤ w2 l 6
  · rw [if_pos h5] at hE; subst hE
    by_cases h6 : w2 l 2 < hdOf l
    · exact rparse_less b off len cap l w hA (by omega) (by omega) (by omega) (by omega) (by omega) h6
    · exact rparse_flag b off len cap l w hA (by omega) (by omega) (by omega) (by omega) (by omega) (by omega) (by omega)
  rw [if_neg h5] at hE
  by_cases h6 : (len : Int) < w2 l 2
  · rw [if_pos h6] at hE; subst hE; exact rparse_total b off len cap l w hA (by omega) (by omega) (by omega) (by omega) (by omega) (by omega) (by omega) h6
  rw [if_neg h6] at hE
  by_cases h7 : fold16 (ws (l.take (hdOf l).toNat)) ≠ 65535
  · rw [if_pos h7] at hE; subst hE; exact rparse_sum b off len cap l w hA (by omega) (by omega) (by omega) (by omega) (by omega) (by omega) (by omega) (by omega) h7
  rw [if_neg h7] at hE
  exact absurd hE h
end Go.Proofs.Ytdejjokgchbgnaa

namespace Go.Proofs.Ytdejjokgchbgnaa
open Go.RowKit
attribute [local go_sem ↓] Go.wp_at_zero Go.wp_at_succ

theorem rslice_upto (b off len cap q : Nat) (hq : q ≤ cap) (W : World) :
    (Instr.slice 23 (.slice (some ⟨b, off, none⟩) len cap) none (some (.int .i64 (q : Int))) none).run Try.prog W = .ok (.slice (some ⟨b, off, none⟩) q cap) W := by
  have ht' : Try.prog.underlying 23 = some (.slice (Try.prog.elem 23)) := by simp [Program.elem, Try.underlying23]
  have he : Try.prog.elem 23 = 5 := by simp [Program.elem, Try.underlying23]
  rw [run_slice_h W 23 _ _ _ ht' .i64 _ (by omega) (by omega), he, Try.sizeOf5]
  by_cases hc : cap = 0
  · simp [Result.andThen, sliced, hc]
  · simp [Result.andThen, sliced, hc, add_at]

theorem rword_bel (b off len cap : Nat) (l : List Int) (q : Int) (k : Nat) (w : World) (hA : At w b off len cap l) (hq : q = (k : Int)) (hk : k + 2 ≤ len) (hl : len ≤ 140737488351232) :
    Calls Try.prog 47 #[.slice (some ⟨b, off, none⟩) len cap, .int .i64 q] w fun e w' => e = .returned (.int .i64 (w2 l k)) ∧ Below w.heap.size w w' := by
  refine (rword_any b off len cap l q k w hA hq hk hl).mono ?_
  rintro e w' ⟨rfl, nq, rfl⟩
  exact ⟨rfl, below_drewN (Below.refl _ _) _⟩

@[reducible] def zeroW (w : World) (n : Nat) : World := (((w.setCell ⟨n, 0, none⟩ (.int .i64 0)).setCell ⟨n, 1, none⟩ (.int .i64 0)).setCell ⟨n, 2, none⟩ (.bool false)).setCell ⟨n, 3, none⟩ (.slice none 0 0)

theorem zeroW_below {w w' : World} {n : Nat} (h : Below n w w') : Below n w (zeroW w' n) := by
  have hle : n ≤ n := Nat.le_refl _
  exact ((((h.setCell hle _).setCell hle _).setCell hle _).setCell hle _)

set_option maxHeartbeats 1000000 in
theorem urparse_short (s d : Int) (a : Option Addr) (len cap : Nat) (w : World) (h : len < 8) :
    Calls Try.prog 30 #[.int .u32 s, .int .u32 d, .slice a len cap] w fun e w' => e = .returned (.tuple #[udV Ud.zero (.slice none 0 0), .int .i64 2]) ∧ Below w.heap.size w w' := by
  have h' : (len : Int) < 8 := by omega
  go_enter Try.func30, Try.ntmps30
  go_wp2
  refine bodyPost_ret (v := .tuple #[udV Ud.zero (.slice none 0 0), .int .i64 2]) ?_ rfl ?_
  · simp [results, Try.results30, go_sem, Ud.zero]
  exact ⟨rfl, below_alloc _ _⟩

set_option maxHeartbeats 1000000 in
theorem urparse_form (s d : Int) (b off len cap : Nat) (l : List Int) (w : World) (hA : At w b off len cap l) (hl : len ≤ 70000) (g1 : 8 ≤ len) (h : w2 l 4 < 8) :
    Calls Try.prog 30 #[.int .u32 s, .int .u32 d, .slice (some ⟨b, off, none⟩) len cap] w fun e w' => e = .returned (.tuple #[udV Ud.zero (.slice none 0 0), .int .i64 4]) ∧ Below w.heap.size w w' := by
  have h' : ¬ (len : Int) < 8 := by omega
  go_enter Try.func30, Try.ntmps30
  go_wp2_with fail
  refine (rword_bel b off len cap l 4 4 _ (hA.later (below_alloc _ _)) rfl (by omega) (by omega)).mono ?_
  rintro e w1 ⟨rfl, hb1⟩
  obtain ⟨⟨c0, c1, c2, c3⟩, hfz⟩ := zeroU_cells rfl hb1
  have bel := zeroW_below (below_trans (below_alloc _ _) hb1)
  clear hb1
  go_wp2
  refine bodyPost_ret (v := .tuple #[udV Ud.zero (.slice none 0 0), .int .i64 4]) ?_ rfl ?_
  · simp [results, Try.results30, go_sem, c0, c1, c2, c3, Ud.zero]
  exact ⟨rfl, bel⟩

set_option maxHeartbeats 1000000 in
theorem urparse_long (s d : Int) (b off len cap : Nat) (l : List Int) (w : World) (hA : At w b off len cap l) (hl : len ≤ 70000) (g1 : 8 ≤ len) (g2 : 8 ≤ w2 l 4) (h : (len : Int) < w2 l 4) :
    Calls Try.prog 30 #[.int .u32 s, .int .u32 d, .slice (some ⟨b, off, none⟩) len cap] w fun e w' => e = .returned (.tuple #[udV Ud.zero (.slice none 0 0), .int .i64 2]) ∧ Below w.heap.size w w' := by
  have h' : ¬ (len : Int) < 8 := by omega
  have g2' : ¬ w2 l 4 < 8 := by omega
  go_enter Try.func30, Try.ntmps30
  go_wp2_with fail
  refine (rword_bel b off len cap l 4 4 _ (hA.later (below_alloc _ _)) rfl (by omega) (by omega)).mono ?_
  rintro e w1 ⟨rfl, hb1⟩
  obtain ⟨⟨c0, c1, c2, c3⟩, hfz⟩ := zeroU_cells rfl hb1
  have bel := zeroW_below (below_trans (below_alloc _ _) hb1)
  clear hb1
  go_wp2
  refine bodyPost_ret (v := .tuple #[udV Ud.zero (.slice none 0 0), .int .i64 2]) ?_ rfl ?_
  · simp [results, Try.results30, go_sem, c0, c1, c2, c3, Ud.zero]
  exact ⟨rfl, bel⟩

set_option maxHeartbeats 4000000 in
theorem urparse_sum (s d : Int) (b off len cap q : Nat) (l : List Int) (w : World) (s0 : 0 ≤ s) (s1 : s < 4294967296) (t0 : 0 ≤ d) (t1 : d < 4294967296) (hA : At w b off len cap l) (hq : w2 l 4 = (q : Int)) (hl : len ≤ 70000) (g1 : 8 ≤ len) (g2 : 8 ≤ q) (g3 : q ≤ len) (g4 : w2 l 6 ≠ 0) (h : fold16 (ws (pseudoB s d 17 q ++ l.take q)) ≠ 65535) :
    Calls Try.prog 30 #[.int .u32 s, .int .u32 d, .slice (some ⟨b, off, none⟩) len cap] w fun e w' => e = .returned (.tuple #[udV Ud.zero (.slice none 0 0), .int .i64 5]) ∧ Below w.heap.size w w' := by
  have h' : ¬ (len : Int) < 8 := by omega
  have g2' : ¬ (q : Int) < 8 := by omega
  have g3' : ¬ (len : Int) < (q : Int) := by omega
  have hc := hA.cap1
  have hsl := rslice_upto b off len cap q (by omega)
  have HQ : Hid (w2 l 4 = (q : Int)) := hq
  have hne : (w2 l 6 == 0) = false := by rw [beq_eq_false_iff_ne]; exact g4
  have hs : (fold16 (ws (pseudoB s d 17 q ++ l.take q)) != 65535) = true := by rw [bne_iff_ne]; exact h
  have HTL : Hid ((l.take q).length = q) := by show _ = _; rw [List.length_take, hA.len]; omega
  clear hq g4 h
  go_enter Try.func30, Try.ntmps30
  go_wp2_with fail
  refine (rword_bel b off len cap l 4 4 _ (hA.later (below_alloc _ _)) rfl (by omega) (by omega)).mono ?_
  rintro e w1 ⟨rfl, hb1⟩
  rw [HQ.out]
  go_wp2_with fail
  refine (rword_bel b off len cap l 6 6 _ (hA.later (below_trans (below_alloc _ _) hb1)) rfl (by omega) (by omega)).mono ?_
  rintro e w2' ⟨rfl, hb2⟩
  have hx2 := below_trans hb1 hb2
  have hA2 := hA.later (below_trans (below_alloc _ _) hx2)
  clear hb1 hb2
  go_wp2_with fail
  go_region_held3 (fun w' => True) (first | trivial | go_keep)
    (first
      | (go_at_call 39; refine (rpseudo_any s d 17 (q : Int) _ s0 s1 t0 t1).mono ?_; rintro e w4 ⟨v4, rfl, hP, hb4'⟩; obtain ⟨a4, n4, k4, rfl⟩ := hP.shape; have hb4 : Below w2'.heap.size w2' w4 := below_trans (below_drewN (Below.refl _ _) 1) hb4')
      | (go_at_call 38; refine (rsum2 w4 _ _ _ _ _ 23 rfl hP (bts_take (hA2.later hb4) q g3) (by rw [pseudo_length, HTL.out]; omega)).mono ?_; rintro e w5 ⟨rfl, rfl⟩))
  have hx5 := below_trans hx2 (below_trans hb4 (below_alloc w4 (.cells #[.slice a4 n4 k4, .slice (some ⟨b, off, none⟩) q cap] 23)))
  obtain ⟨⟨c0, c1, c2, c3⟩, hfz⟩ := zeroU_cells rfl hx5
  have bel := zeroW_below (below_trans (below_alloc _ _) hx5)
  generalize (w4.alloc (.cells #[.slice a4 n4 k4, .slice (some ⟨b, off, none⟩) q cap] 23)) = W5 at *
  clear hx5 hx2 hP hb4 hb4' hA2
  go_wp2
  refine bodyPost_ret (v := .tuple #[udV Ud.zero (.slice none 0 0), .int .i64 5]) ?_ rfl ?_
  · simp [results, Try.results30, go_sem, c0, c1, c2, c3, Ud.zero]
  exact ⟨rfl, bel⟩

theorem urparse_no (s d : Int) (a : Option Addr) (b off len cap : Nat) (l : List Int) (w : World) (s0 : 0 ≤ s) (s1 : s < 4294967296) (t0 : 0 ≤ d) (t1 : d < 4294967296) (ha : a = some ⟨b, off, none⟩ ∨ l = []) (hA : At w b off len cap l) (hl : len ≤ 70000) (h : ¬ parseU s d l = 0) :
    Calls Try.prog 30 #[.int .u32 s, .int .u32 d, .slice a len cap] w fun e w' => e = .returned (.tuple #[udV Ud.zero (.slice none 0 0), .int .i64 (parseU s d l)]) ∧ Below w.heap.size w w' := by
  have hL := hA.len
  obtain ⟨E, hE⟩ : ∃ E, parseU s d l = E := ⟨_, rfl⟩
  rw [hE] at h ⊢
  unfold parseU at hE
  by_cases g1 : l.length < 8
  · rw [if_pos g1] at hE; subst hE; exact urparse_short s d a len cap w (by omega)
  rw [if_neg g1] at hE
  rcases ha with rfl | rfl
  case inr => simp at g1
  by_cases g2 : w2 l 4 < 8
  · rw [if_pos g2] at hE; subst hE; exact urparse_form s d b off len cap l w hA hl (by omega) g2
  rw [if_neg g2] at hE
  by_cases g3 : (l.length : Int) < w2 l 4
  · rw [if_pos g3] at hE; subst hE; exact urparse_long s d b off len cap l w hA hl (by omega) (by omega) (by omega)
  rw [if_neg g3] at hE
  obtain ⟨q, hq⟩ := Int.eq_ofNat_of_zero_le (show 0 ≤ w2 l 4 by omega)
  rw [hq, Int.toNat_natCast] at hE
  by_cases g4 : w2 l 6 ≠ 0 ∧ fold16 (ws (pseudoB s d 17 (q : Int) ++ l.take q)) ≠ 65535
  · rw [if_pos g4] at hE; subst hE; exact urparse_sum s d b off len cap q l w s0 s1 t0 t1 hA hq hl (by omega) (by omega) (by omega) g4.1 g4.2
  rw [if_neg g4] at hE
  exact absurd hE.symm h

/-- Behind all tests: what stands there is laid. -/
theorem urparse_end {w w5 : World} {l : List Int} {v : Value} {t : TypeId} (hx5 : Below (w.alloc (.cells zeroUC t)).heap.size (w.alloc (.cells zeroUC t)) w5) (hv : Owns w5 (w.heap.size + 1) v (udOf l).data) (bb : Bool) :
    let W := (((w5.setCell ⟨w.heap.size, 0, none⟩ (.int .i64 (w2 l 0))).setCell ⟨w.heap.size, 1, none⟩ (.int .i64 (w2 l 2))).setCell ⟨w.heap.size, 2, none⟩ (.bool bb)).setCell ⟨w.heap.size, 3, none⟩ v
    Owns W (w.heap.size + 1) v (udOf l).data ∧ Below w.heap.size w W ∧ W.cell? ⟨w.heap.size, 0, none⟩ = some (.int .i64 (w2 l 0)) ∧ W.cell? ⟨w.heap.size, 1, none⟩ = some (.int .i64 (w2 l 2)) ∧ W.cell? ⟨w.heap.size, 2, none⟩ = some (.bool bb) ∧ W.cell? ⟨w.heap.size, 3, none⟩ = some v := by
  obtain ⟨⟨c0, c1, c2, c3⟩, -⟩ := zeroU_cells rfl hx5
  have hlt : w.heap.size < w.heap.size + 1 := Nat.lt_succ_self _
  have hle : w.heap.size ≤ w.heap.size := Nat.le_refl _
  refine ⟨((((hv.store hlt _).store hlt _).store hlt _).store hlt _), (((((below_trans (below_alloc _ _) hx5).setCell hle _).setCell hle _).setCell hle _).setCell hle _), ?_, ?_, ?_, ?_⟩
  · simp [go_sem, c0]
  · simp [go_sem, c1]
  · simp [go_sem, c2]
  · simp [go_sem, c3]

set_option maxHeartbeats 4000000 in
theorem urparse_bare (s d : Int) (b off len cap q : Nat) (l : List Int) (w : World) (hA : At w b off len cap l) (hq : w2 l 4 = (q : Int)) (hl : len ≤ 70000) (g1 : 8 ≤ len) (g2 : 8 ≤ q) (g3 : q ≤ len) (g4 : w2 l 6 = 0) :
    Calls Try.prog 30 #[.int .u32 s, .int .u32 d, .slice (some ⟨b, off, none⟩) len cap] w fun e w' =>
      ∃ a1 k1, e = .returned (.tuple #[udV (udOf l) (.slice a1 (udOf l).data.length k1), .int .i64 0]) ∧ Bts w' (.slice a1 (udOf l).data.length k1) (udOf l).data ∧ Below w.heap.size w w' := by
  have h' : ¬ (len : Int) < 8 := by omega
  have g2' : ¬ (q : Int) < 8 := by omega
  have g3' : ¬ (len : Int) < (q : Int) := by omega
  have hc := hA.cap1
  have HQ : Hid (w2 l 4 = (q : Int)) := hq
  have H6 : Hid (w2 l 6 = 0) := g4
  have HBL : Hid (isBytes l) := hA.bytes
  have HD : Hid ((udOf l).data = (l.drop 8).take (q - 8)) := by show (l.drop 8).take ((w2 l 4).toNat - 8) = _; rw [hq, Int.toNat_natCast]
  clear hq g4
  go_enter Try.func30, Try.ntmps30
  go_wp2_with fail
  refine (rword_bel b off len cap l 4 4 _ (hA.later (below_alloc _ _)) rfl (by omega) (by omega)).mono ?_
  rintro e w1 ⟨rfl, hb1⟩
  rw [HQ.out]
  go_wp2_with fail
  refine (rword_bel b off len cap l 6 6 _ (hA.later (below_trans (below_alloc _ _) hb1)) rfl (by omega) (by omega)).mono ?_
  rintro e w2' ⟨rfl, hb2⟩
  rw [H6.out]
  have hx2 := below_trans hb1 hb2
  clear hb1 hb2
  go_wp2
  go_quiet (fail)
  have hx3 := below_drewN hx2 nq
  go_wp2_with fail
  refine (rword_bel b off len cap l 0 0 _ (hA.later (below_trans (below_alloc _ _) hx3)) rfl (by omega) (by omega)).mono ?_
  rintro e w4 ⟨rfl, hb4⟩
  have hx4 := below_trans hx3 hb4
  clear hx2 hx3 hb4
  go_wp2_with fail
  refine (rword_bel b off len cap l 2 2 _ (hA.later (below_trans (below_alloc _ _) hx4)) rfl (by omega) (by omega)).mono ?_
  rintro e w5 ⟨rfl, hb5⟩
  have hx5 := below_trans hx4 hb5
  clear hx4 hb5
  go_wp2_with fail
  refine (part_any b off len cap l 8 (q : Int) 8 q _ (hA.later (below_trans (below_alloc _ _) hx5)) rfl rfl (by omega) (by omega) (by omega)).mono ?_
  rintro e w6 ⟨v6, rfl, hv6, hb6⟩
  rw [← HD.out] at hv6
  have hx6 := below_trans hx5 hb6
  have hv : Owns w6 (w.heap.size + 1) v6 (udOf l).data := hv6.low (by have := hx5.size; simp only [World.size_alloc] at this; omega)
  obtain ⟨a1, k1, rfl⟩ := Bts.shapeL (hv.bts (isBytes_part l HBL.out _ _))
  obtain ⟨⟨c0, c1, c2, c3⟩, hfz⟩ := zeroU_cells rfl hx6
  obtain ⟨B1, bel, r0, r1, r2, r3⟩ := urparse_end hx6 hv true
  clear hx5 hb6 hv6
  go_wp2
  generalize ((((w6.setCell ⟨w.heap.size, 0, none⟩ (.int .i64 (w2 l 0))).setCell ⟨w.heap.size, 1, none⟩ (.int .i64 (w2 l 2))).setCell ⟨w.heap.size, 2, none⟩ (.bool true)).setCell ⟨w.heap.size, 3, none⟩ (.slice a1 (udOf l).data.length k1)) = W at *
  refine bodyPost_ret (v := .tuple #[udV (udOf l) (.slice a1 (udOf l).data.length k1), .int .i64 0]) ?_ rfl ?_
  · simp [results, Try.results30, go_sem, r0, r1, r2, r3, udOf, H6.out]
  exact ⟨_, _, rfl, B1.bts (isBytes_part l HBL.out _ _), bel⟩

set_option maxHeartbeats 4000000 in
theorem urparse_check (s d : Int) (b off len cap q : Nat) (l : List Int) (w : World) (s0 : 0 ≤ s) (s1 : s < 4294967296) (t0 : 0 ≤ d) (t1 : d < 4294967296) (hA : At w b off len cap l) (hq : w2 l 4 = (q : Int)) (hl : len ≤ 70000) (g1 : 8 ≤ len) (g2 : 8 ≤ q) (g3 : q ≤ len) (g4 : w2 l 6 ≠ 0) (h : fold16 (ws (pseudoB s d 17 q ++ l.take q)) = 65535) :
    Calls Try.prog 30 #[.int .u32 s, .int .u32 d, .slice (some ⟨b, off, none⟩) len cap] w fun e w' =>
      ∃ a1 k1, e = .returned (.tuple #[udV (udOf l) (.slice a1 (udOf l).data.length k1), .int .i64 0]) ∧ Bts w' (.slice a1 (udOf l).data.length k1) (udOf l).data ∧ Below w.heap.size w w' := by
  have h' : ¬ (len : Int) < 8 := by omega
  have g2' : ¬ (q : Int) < 8 := by omega
  have g3' : ¬ (len : Int) < (q : Int) := by omega
  have hc := hA.cap1
  have hsl := rslice_upto b off len cap q (by omega)
  have HQ : Hid (w2 l 4 = (q : Int)) := hq
  have H6 : Hid (¬ w2 l 6 = 0) := g4
  have hne : (w2 l 6 == 0) = false := by rw [beq_eq_false_iff_ne]; exact g4
  have hs : (fold16 (ws (pseudoB s d 17 q ++ l.take q)) != 65535) = false := by rw [h]; rfl
  have HTL : Hid ((l.take q).length = q) := by show _ = _; rw [List.length_take, hA.len]; omega
  have HBL : Hid (isBytes l) := hA.bytes
  have HD : Hid ((udOf l).data = (l.drop 8).take (q - 8)) := by show (l.drop 8).take ((w2 l 4).toNat - 8) = _; rw [hq, Int.toNat_natCast]
  clear hq g4 h
  go_enter Try.func30, Try.ntmps30
  go_wp2_with fail
  refine (rword_bel b off len cap l 4 4 _ (hA.later (below_alloc _ _)) rfl (by omega) (by omega)).mono ?_
  rintro e w1 ⟨rfl, hb1⟩
  rw [HQ.out]
  go_wp2_with fail
  refine (rword_bel b off len cap l 6 6 _ (hA.later (below_trans (below_alloc _ _) hb1)) rfl (by omega) (by omega)).mono ?_
  rintro e w2' ⟨rfl, hb2⟩
  have hx2 := below_trans hb1 hb2
  have hA2 := hA.later (below_trans (below_alloc _ _) hx2)
  clear hb1 hb2
  go_wp2_with fail
  go_region_held3 (fun w' => True) (first | trivial | go_keep)
    (first
      | (go_at_call 39; refine (rpseudo_any s d 17 (q : Int) _ s0 s1 t0 t1).mono ?_; rintro e w4 ⟨v4, rfl, hP, hb4'⟩; obtain ⟨a4, n4, k4, rfl⟩ := hP.shape; have hb4 : Below w2'.heap.size w2' w4 := below_trans (below_drewN (Below.refl _ _) 1) hb4')
      | (go_at_call 38; refine (rsum2 w4 _ _ _ _ _ 23 rfl hP (bts_take (hA2.later hb4) q g3) (by rw [pseudo_length, HTL.out]; omega)).mono ?_; rintro e w5 ⟨rfl, rfl⟩))
  have hx3 := below_trans hx2 (below_trans hb4 (below_alloc w4 (.cells #[.slice a4 n4 k4, .slice (some ⟨b, off, none⟩) q cap] 23)))
  generalize (w4.alloc (.cells #[.slice a4 n4 k4, .slice (some ⟨b, off, none⟩) q cap] 23)) = W3 at *
  clear hx2 hP hb4 hb4' hA2 hsl
  go_wp2_with fail
  refine (rword_bel b off len cap l 0 0 _ (hA.later (below_trans (below_alloc _ _) hx3)) rfl (by omega) (by omega)).mono ?_
  rintro e w4 ⟨rfl, hb4⟩
  have hx4 := below_trans hx3 hb4
  clear hx3 hb4
  go_wp2_with fail
  refine (rword_bel b off len cap l 2 2 _ (hA.later (below_trans (below_alloc _ _) hx4)) rfl (by omega) (by omega)).mono ?_
  rintro e w5 ⟨rfl, hb5⟩
  have hx5 := below_trans hx4 hb5
  clear hx4 hb5
  go_wp2_with fail
  refine (part_any b off len cap l 8 (q : Int) 8 q _ (hA.later (below_trans (below_alloc _ _) hx5)) rfl rfl (by omega) (by omega) (by omega)).mono ?_
  rintro e w6 ⟨v6, rfl, hv6, hb6⟩
  rw [← HD.out] at hv6
  have hx6 := below_trans hx5 hb6
  have hv : Owns w6 (w.heap.size + 1) v6 (udOf l).data := hv6.low (by have := hx5.size; simp only [World.size_alloc] at this; omega)
  obtain ⟨a1, k1, rfl⟩ := Bts.shapeL (hv.bts (isBytes_part l HBL.out _ _))
  obtain ⟨⟨c0, c1, c2, c3⟩, hfz⟩ := zeroU_cells rfl hx6
  obtain ⟨B1, bel, r0, r1, r2, r3⟩ := urparse_end hx6 hv false
  clear hx5 hb6 hv6
  go_wp2
  generalize ((((w6.setCell ⟨w.heap.size, 0, none⟩ (.int .i64 (w2 l 0))).setCell ⟨w.heap.size, 1, none⟩ (.int .i64 (w2 l 2))).setCell ⟨w.heap.size, 2, none⟩ (.bool false)).setCell ⟨w.heap.size, 3, none⟩ (.slice a1 (udOf l).data.length k1)) = W at *
  refine bodyPost_ret (v := .tuple #[udV (udOf l) (.slice a1 (udOf l).data.length k1), .int .i64 0]) ?_ rfl ?_
  · simp [results, Try.results30, go_sem, r0, r1, r2, r3, udOf, H6.out]
  exact ⟨_, _, rfl, B1.bts (isBytes_part l HBL.out _ _), bel⟩

theorem urparse_ok (s d : Int) (b off len cap : Nat) (l : List Int) (w : World) (s0 : 0 ≤ s) (s1 : s < 4294967296) (t0 : 0 ≤ d) (t1 : d < 4294967296) (hA : At w b off len cap l) (hl : len ≤ 70000) (g : UGood s d l) :
    Calls Try.prog 30 #[.int .u32 s, .int .u32 d, .slice (some ⟨b, off, none⟩) len cap] w fun e w' =>
      ∃ a1 k1, e = .returned (.tuple #[udV (udOf l) (.slice a1 (udOf l).data.length k1), .int .i64 0]) ∧ Bts w' (.slice a1 (udOf l).data.length k1) (udOf l).data ∧ Below w.heap.size w w' := by
  have hL := hA.len
  obtain ⟨g1, g2, g3, g4⟩ := g
  obtain ⟨q, hq⟩ := Int.eq_ofNat_of_zero_le (show 0 ≤ w2 l 4 by omega)
  by_cases h6 : w2 l 6 = 0
  · exact urparse_bare s d b off len cap q l w hA hq hl (by omega) (by omega) (by omega) h6
  rcases g4 with g4 | g4
  · exact absurd g4 h6
  rw [hq, Int.toNat_natCast] at g4
  exact urparse_check s d b off len cap q l w s0 s1 t0 t1 hA hq hl (by omega) (by omega) (by omega) h6 g4
end Go.Proofs.Ytdejjokgchbgnaa

namespace Go.Proofs.Ytdejjokgchbgnaa
open Go.RowKit
attribute [local go_sem ↓] Go.wp_at_zero Go.wp_at_succ

/-- The making of a frame's variable and the store of a whole frame into it, as one step of the walk. -/
theorem alloc_store {ops : Array Oper} {rest : List Oper} {op op2 : Oper} {a : Act} {w : World} {Q : Exit → Act → World → Prop} (g1 : op.guard = none) (h1 : op.op = .alloc 37) (g2 : op2.guard = none) (x y : Operand) (h2 : op2.op = .store 37 x y) (C : Array Value)
    (hx : (a.put op.dst (.pointer (some ⟨w.heap.size, 0, none⟩))).eval x = .pointer (some ⟨w.heap.size, 0, none⟩)) (hy : (a.put op.dst (.pointer (some ⟨w.heap.size, 0, none⟩))).eval y = .agg C) (hC : C.size = 22) (hone : C.all (·.oneCell') = true)
    (W5 : World) (hW : (w.alloc (.cells zeroFC 37)).setCells w.heap.size 0 C.toList = W5)
    (h : wpList Try.prog ops Q rest ((a.put op.dst (.pointer (some ⟨w.heap.size, 0, none⟩))).put op2.dst undef) W5) : wpList Try.prog ops Q (op :: op2 :: rest) a w := by
  refine alloc_fr g1 h1 (store_fr g2 x y h2 w.heap.size C hx hy ((fc_new (w := w) rfl (Below.refl _ _)).there rfl) hC hone ?_)
  rw [hW]
  exact h

theorem fr_at (w : World) (n : Nat) (hn : w.heap.size = n) (C : Array Value) (hC : C.size = 22) (W5 : World) (h : (w.alloc (.cells zeroFC 37)).setCells w.heap.size 0 C.toList = W5) : FC W5 n C := by
  subst hn
  rw [← h]
  exact FC.laid (C := zeroFC) (fc_new (w := w) (t := 37) rfl (Below.refl _ _)) rfl C hC

theorem good_parts (l : List Int) (g : Good l) (len : Nat) (hl : l.length = len) : len ≤ 2048 ∧ 20 ≤ len ∧ b1 l 0 / 16 = 4 ∧ 20 ≤ hdOf l ∧ hdOf l ≤ len ∧ hdOf l ≤ w2 l 2 ∧ w2 l 6 < 32768 ∧ w2 l 2 ≤ len ∧ fold16 (ws (l.take (hdOf l).toNat)) = 65535 := by
  subst hl
  exact ⟨g.a, g.b, g.c, g.d, g.e, g.f, g.g, g.h, g.i⟩

theorem rparse_good (b off len cap : Nat) (l : List Int) (w : World) (hA : At w b off len cap l) (g : Good l) :
    Calls Try.prog 10 #[.slice (some ⟨b, off, none⟩) len cap] w fun e w' =>
      ∃ a1 k1 a2 k2, e = .returned (.tuple #[ipV (dgOf l) (.slice a1 (dgOf l).opts.length k1) (.slice a2 (dgOf l).body.length k2), .int .i64 0]) ∧ Owns w' w.heap.size (.slice a1 (dgOf l).opts.length k1) (dgOf l).opts ∧ Owns w' w.heap.size (.slice a2 (dgOf l).body.length k2) (dgOf l).body ∧ Below w.heap.size w w' := by
  obtain ⟨g1, g2, g3, g4, g5, g6, g7, g8, g9⟩ := good_parts l g len hA.len
  exact rparse_own b off len cap l w hA g1 g2 g3 g4 g5 g6 g7 g8 g9

set_option maxHeartbeats 4000000 in
theorem rread_err (a : Option Addr) (b off len cap : Nat) (l : List Int) (w : World) (ha : a = some ⟨b, off, none⟩ ∨ l = []) (hA : At w b off len cap l) (h : ¬ parseE l = 0) :
    Calls Try.prog 13 #[.slice a len cap] w fun e w' => e = .returned (.tuple #[.agg zeroFC, .int .i64 (whyI (parseE l))]) ∧ Below w.heap.size w w' := by
  have hb1 := below_alloc w (.cells zeroFC 37)
  have hu := rparse_no a b off len cap l _ ha (hA.later hb1) h
  have hne : (parseE l != 0) = true := by rw [bne_iff_ne]; exact h
  clear hA h
  go_enter Try.func13, Try.ntmps13
  go_wp2_with fail
  refine hu.mono ?_
  rintro e w3 ⟨rfl, hb3⟩
  have F3 := fc_new (n := w.heap.size) rfl hb3
  have hs3 := hb3.size
  simp only [World.size_alloc] at hs3
  have bel3 := below_trans hb1 hb3
  clear hu hb1 hb3
  go_wp2_with fail
  refine (rwhy_any _ _).mono ?_
  rintro e w4 ⟨rfl, rfl⟩
  have F4 := F3.later (by omega) (below_alloc w3 (.cells (ipC Dg.zero (.slice none 0 0) (.slice none 0 0)) 29))
  have bel4 := below_trans bel3 (below_alloc w3 (.cells (ipC Dg.zero (.slice none 0 0) (.slice none 0 0)) 29))
  go_wp2_with (refine store_fr rfl (.tmp 2) (.tmp 18) rfl w.heap.size zeroFC rfl rfl (F4.there rfl) rfl oneZ ?_)
  refine bodyPost_ret (results_fr2 rfl _ _ w.heap.size _ rfl (range_set zeroFC.toList rfl (F4.there rfl)) rfl) rfl ?_
  exact ⟨rfl, setCells_below _ _ _ _ _ (Nat.le_refl _) bel4⟩

set_option maxHeartbeats 4000000 in
theorem rread_part (b off len cap : Nat) (l : List Int) (w : World) (hA : At w b off len cap l) (g : Good l) (hp : partB (dgOf l) = true) :
    Calls Try.prog 13 #[.slice (some ⟨b, off, none⟩) len cap] w fun e w' => e = .returned (.tuple #[.agg zeroFC, .int .i64 3]) ∧ Below w.heap.size w w' := by
  have hb1 := below_alloc w (.cells zeroFC 37)
  have hpa := rparse_good b off len cap l _ (hA.later hb1) g
  rcases hpd : dgOf l with ⟨tos, id, df, mf, of, ttl, pr, src, dst, opts, body⟩
  rw [hpd] at hpa hp
  have hpp : mf = true ∨ (mf = false ∧ (of != 0) = true) := by
    unfold partB at hp
    simp only at hp
    cases mf
    · right; refine ⟨rfl, ?_⟩; simpa using hp
    · left; rfl
  clear hA g hpd hp
  rcases hpp with rfl | ⟨rfl, hof⟩
  all_goals
    go_enter Try.func13, Try.ntmps13
    go_wp2_with fail
    refine hpa.mono ?_
    rintro e w3 ⟨a1, k1, a2, k2, rfl, -, -, hb3⟩
    have F3 := fc_new (n := w.heap.size) rfl hb3
    have hs3 := hb3.size
    simp only [World.size_alloc] at hs3
    have bel3 := below_trans hb1 hb3
    clear hpa hb1 hb3
  · have F4 := F3.later (by omega) (below_alloc w3 (.cells (ipC ⟨tos, id, df, true, of, ttl, pr, src, dst, opts, body⟩ (.slice a1 opts.length k1) (.slice a2 body.length k2)) 29))
    have bel4 := below_trans bel3 (below_alloc w3 (.cells (ipC ⟨tos, id, df, true, of, ttl, pr, src, dst, opts, body⟩ (.slice a1 opts.length k1) (.slice a2 body.length k2)) 29))
    go_wp2_with (refine store_fr rfl (.tmp 2) (.tmp 28) rfl w.heap.size zeroFC rfl rfl (F4.there rfl) rfl oneZ ?_)
    refine bodyPost_ret (results_fr2 rfl _ _ w.heap.size _ rfl (range_set zeroFC.toList rfl (F4.there rfl)) rfl) rfl ?_
    exact ⟨rfl, setCells_below _ _ _ _ _ (Nat.le_refl _) bel4⟩
  · have F4 := F3.later (by omega) (below_alloc w3 (.cells (ipC ⟨tos, id, df, false, of, ttl, pr, src, dst, opts, body⟩ (.slice a1 opts.length k1) (.slice a2 body.length k2)) 29))
    have bel4 := below_trans bel3 (below_alloc w3 (.cells (ipC ⟨tos, id, df, false, of, ttl, pr, src, dst, opts, body⟩ (.slice a1 opts.length k1) (.slice a2 body.length k2)) 29))
    go_wp2_with (refine store_fr rfl (.tmp 2) (.tmp 28) rfl w.heap.size zeroFC rfl rfl (F4.there rfl) rfl oneZ ?_)
    refine bodyPost_ret (results_fr2 rfl _ _ w.heap.size _ rfl (range_set zeroFC.toList rfl (F4.there rfl)) rfl) rfl ?_
    exact ⟨rfl, setCells_below _ _ _ _ _ (Nat.le_refl _) bel4⟩
end Go.Proofs.Ytdejjokgchbgnaa

namespace Go.Proofs.Ytdejjokgchbgnaa
open Go.RowKit
attribute [local go_sem ↓] Go.wp_at_zero Go.wp_at_succ

set_option maxHeartbeats 1000000 in
theorem rread_17_ok (b off len cap : Nat) (l : List Int) (w : World) (hA : At w b off len cap l) (g : Good l) (hp : partB (dgOf l) = false) (hpr : (dgOf l).proto = 17) (g1 : UGood (dgOf l).src (dgOf l).dst (dgOf l).body) :
    Calls Try.prog 13 #[.slice (some ⟨b, off, none⟩) len cap] w fun e w' =>
      ∃ a1 k1 a2 k2 C', e = .returned (.tuple #[.agg C', .int .i64 0]) ∧ Hid (C' = frC (dgOf l) (.slice a1 (dgOf l).opts.length k1) (.slice a2 (dgOf l).body.length k2) ⟨0, 1, w2 (dgOf l).body 0, w2 (dgOf l).body 2, 0, Inn.zero⟩) ∧ Bts w' (.slice a1 (dgOf l).opts.length k1) (dgOf l).opts ∧ Bts w' (.slice a2 (dgOf l).body.length k2) (dgOf l).body ∧ Below w.heap.size w w' := by
  obtain ⟨hmf, hoff⟩ := part_no _ hp
  have hB1 : Hid (isBytes (dgOf l).opts) := isBytes_part l hA.bytes _ _
  have hB2 : Hid (isBytes (dgOf l).body) := isBytes_part l hA.bytes _ _
  have hk := dg_ok l hA.bytes
  have hl := body_len l g
  have hpa := rparse_good b off len cap l _ (hA.later (below_alloc w (.cells zeroFC 37))) g
  rcases hpd : dgOf l with ⟨tos, id, df, mf, of, ttl, pr, src, dst, opts, body⟩
  rw [hpd] at hpa hmf hoff hB1 hB2 hk hl hpr g1
  simp only at hmf hoff hpr hl g1
  subst hmf hoff
  have z17 : (pr == 17) = true := by rw [hpr]; rfl
  clear hpr
  clear hA g hp hpd
  go_enter Try.func13, Try.ntmps13
  go_wp2_with fail
  refine hpa.mono ?_
  rintro e w1 ⟨a1, k1, a2, k2, rfl, ho1, ho2, hb1⟩
  have F1 := fc_new (n := w.heap.size) rfl hb1
  have hs1 := hb1.size
  simp only [World.size_alloc] at hs1 ho1 ho2
  have bel1 := below_trans (below_alloc _ _) hb1
  have hbp := below_alloc w1 (.cells (ipC ⟨tos, id, df, false, 0, ttl, pr, src, dst, opts, body⟩ (.slice a1 opts.length k1) (.slice a2 body.length k2)) 29)
  obtain ⟨W5, HW5⟩ : ∃ W5, Hid (((w1.alloc (.cells (ipC ⟨tos, id, df, false, 0, ttl, pr, src, dst, opts, body⟩ (.slice a1 opts.length k1) (.slice a2 body.length k2)) 29)).alloc (.cells zeroFC 37)).setCells (w1.alloc (.cells (ipC ⟨tos, id, df, false, 0, ttl, pr, src, dst, opts, body⟩ (.slice a1 opts.length k1) (.slice a2 body.length k2)) 29)).heap.size 0 (frC ⟨tos, id, df, false, 0, ttl, pr, src, dst, opts, body⟩ (.slice a1 opts.length k1) (.slice a2 body.length k2) ⟨0, 0, 0, 0, 0, Inn.zero⟩).toList = W5) := ⟨_, (rfl : _ = _)⟩
  have F5 : FC W5 (w1.heap.size + 1) (frC ⟨tos, id, df, false, 0, ttl, pr, src, dst, opts, body⟩ (.slice a1 opts.length k1) (.slice a2 body.length k2) ⟨0, 0, 0, 0, 0, Inn.zero⟩) := fr_at _ _ (by simp) (frC ⟨tos, id, df, false, 0, ttl, pr, src, dst, opts, body⟩ (.slice a1 opts.length k1) (.slice a2 body.length k2) ⟨0, 0, 0, 0, 0, Inn.zero⟩) rfl W5 HW5.out
  have hb5 : Below (w1.alloc (.cells (ipC ⟨tos, id, df, false, 0, ttl, pr, src, dst, opts, body⟩ (.slice a1 opts.length k1) (.slice a2 body.length k2)) 29)).heap.size (w1.alloc (.cells (ipC ⟨tos, id, df, false, 0, ttl, pr, src, dst, opts, body⟩ (.slice a1 opts.length k1) (.slice a2 body.length k2)) 29)) W5 := by rw [← HW5.out]; exact setCells_below _ _ _ _ _ (Nat.le_refl _) (below_alloc _ _)
  obtain ⟨c0, c1, c2, c3, c4, c5, c6, c7, c8, c9, c10⟩ := ip_box hb5
  have hb15 := below_trans hbp hb5
  have hs5 := hb15.size
  have hs5' := hb5.size
  simp only [World.size_alloc] at hs5'
  have hBb := (ho2.bts hB2.out).later hb15
  have HO : Hid (Owns w1 (w.heap.size + 1) (.slice a1 opts.length k1) opts ∧ Owns w1 (w.heap.size + 1) (.slice a2 body.length k2) body) := ⟨ho1, ho2⟩
  have HE : Hid (Below w.heap.size w w1) := bel1
  have HF : Hid (FC w1 w.heap.size zeroFC) := F1
  have H15 : Hid (Below w1.heap.size w1 W5) := hb15
  obtain ⟨-, b', off', ha', hA'⟩ := hBb.at_ne
  clear hpa hb1 hbp ho1 ho2 F1 bel1 hb5 hBb hb15
  have hs55 : w1.heap.size + 1 < W5.heap.size := World.block_lt_of_cell? W5 _ (F5.c 0 _ rfl)
  have ha'' : a2 = some ⟨b', off', none⟩ := by
    rcases ha' with h | h
    · exact h
    · have := g1.a; rw [h] at this; simp at this
  have hu := urparse_ok src dst b' off' body.length k2 body W5 hk.src0 hk.src1 hk.dst0 hk.dst1 hA' hl g1
  rw [← ha''] at hu
  clear ha' ha'' hA' g1
  go_wp2_with (refine alloc_store rfl rfl rfl (.tmp 6) (.tmp 36) rfl (frC ⟨tos, id, df, false, 0, ttl, pr, src, dst, opts, body⟩ (.slice a1 opts.length k1) (.slice a2 body.length k2) ⟨0, 0, 0, 0, 0, Inn.zero⟩) rfl rfl rfl (oneFr _ _ _ _ _ _ _ _) _ rfl ?_; rw [HW5.out])
  refine hu.mono ?_
  rintro e w6 ⟨a3, k3, rfl, -, hb6⟩
  have hs6 := hb6.size
  have F6 := F5.later (by omega) hb6
  have fz := F6.f
  have e11 : w6.cell? ⟨w1.heap.size + 1, 11, none⟩ = some (.int .i64 0) := F6.c 11 _ rfl
  have e13 : w6.cell? ⟨w1.heap.size + 1, 13, none⟩ = some (.int .i64 0) := F6.c 13 _ rfl
  have e15 : w6.cell? ⟨w1.heap.size + 1, 15, none⟩ = some (.int .i64 0) := F6.c 15 _ rfl
  have hb17 := below_trans H15.out hb6
  have q1 : w1.heap.size + 1 < w6.heap.size := by omega
  have q2 : ¬ (w1.heap.size + 1 = w6.heap.size) := by omega
  have T7 := HF.out.later (by omega) hb17
  have hnq : ¬ w1.heap.size + 1 = w.heap.size := by omega
  have hle : w.heap.size ≤ w1.heap.size + 1 := by omega
  have hle1 : w1.heap.size ≤ w1.heap.size + 1 := by omega
  have bel7 := below_trans HE.out hb17
  have S0 := F6.set 11 (by first | (show 11 < 22; decide) | (simp only [Array.size_set]; decide)) (.int .i64 1)
  have S1 := S0.set 13 (by first | (show 13 < 22; decide) | (simp only [Array.size_set]; decide)) (.int .i64 (udOf body).src)
  have S2 := S1.set 15 (by first | (show 15 < 22; decide) | (simp only [Array.size_set]; decide)) (.int .i64 (udOf body).dst)
  have SZ := S2.later (by simp only [World.size_setCell]; omega) (below_alloc _ (.cells (udC (udOf body) (.slice a3 (udOf body).data.length k3)) 49))
  have T8 := T7.far (m := w1.heap.size + 1) (i := 11) (v := .int .i64 1) hnq
  have T9 := T8.far (m := w1.heap.size + 1) (i := 13) (v := .int .i64 (udOf body).src) hnq
  have T10 := T9.far (m := w1.heap.size + 1) (i := 15) (v := .int .i64 (udOf body).dst) hnq
  have TZ := T10.later (by simp only [World.size_setCell]; omega) (below_alloc _ (.cells (udC (udOf body) (.slice a3 (udOf body).data.length k3)) 49))
  have bb0 := bel7.setCell (p := ⟨w1.heap.size + 1, 11, none⟩) hle (.int .i64 1)
  have bb1 := bb0.setCell (p := ⟨w1.heap.size + 1, 13, none⟩) hle (.int .i64 (udOf body).src)
  have bb2 := bb1.setCell (p := ⟨w1.heap.size + 1, 15, none⟩) hle (.int .i64 (udOf body).dst)
  have bbZ := below_trans bb2 (below_alloc _ (.cells (udC (udOf body) (.slice a3 (udOf body).data.length k3)) 49))
  have bc0 := hb17.setCell (p := ⟨w1.heap.size + 1, 11, none⟩) hle1 (.int .i64 1)
  have bc1 := bc0.setCell (p := ⟨w1.heap.size + 1, 13, none⟩) hle1 (.int .i64 (udOf body).src)
  have bc2 := bc1.setCell (p := ⟨w1.heap.size + 1, 15, none⟩) hle1 (.int .i64 (udOf body).dst)
  have bcZ := below_trans bc2 (below_alloc _ (.cells (udC (udOf body) (.slice a3 (udOf body).data.length k3)) 49))
  obtain ⟨W8, HW8⟩ : ∃ W8, Hid (((((w6.setCell ⟨w1.heap.size + 1, 11, none⟩ (.int .i64 1)).setCell ⟨w1.heap.size + 1, 13, none⟩ (.int .i64 (udOf body).src)).setCell ⟨w1.heap.size + 1, 15, none⟩ (.int .i64 (udOf body).dst)).alloc (.cells (udC (udOf body) (.slice a3 (udOf body).data.length k3)) 49)) = W8) := ⟨_, (rfl : _ = _)⟩
  rw [HW8.out] at SZ TZ bbZ bcZ
  obtain ⟨C', HC', G8⟩ : ∃ C', Hid (C' = frC ⟨tos, id, df, false, 0, ttl, pr, src, dst, opts, body⟩ (.slice a1 opts.length k1) (.slice a2 body.length k2) ⟨0, 1, w2 body 0, w2 body 2, 0, Inn.zero⟩) ∧ FC W8 (w1.heap.size + 1) C' := ⟨_, (by show _ = _; apply Array.ext'; simp only [Array.toList_set]; rfl), SZ⟩
  have hC22 : C'.size = 22 := congrArg Array.size HC'.out
  have hst := run_store_fr C' (TZ.there rfl) hC22 (by rw [HC'.out]; exact oneFr _ _ _ _ _ _ _ _)
  have hr := range_set C'.toList (by simpa using hC22) (TZ.there rfl)
  have bel8 := setCells_below w.heap.size C'.toList 0 _ w.heap.size (Nat.le_refl _) bbZ
  have hO1 := (setCells_owns w.heap.size (w.heap.size + 1) _ _ (Nat.lt_succ_self _) C'.toList 0 _ (HO.out.1.later bcZ)).bts hB1.out
  have hO2 := (setCells_owns w.heap.size (w.heap.size + 1) _ _ (Nat.lt_succ_self _) C'.toList 0 _ (HO.out.2.later bcZ)).bts hB2.out
  clear S0 S1 S2 T8 T9 T10 bb0 bb1 bb2 bc0 bc1 bc2 SZ TZ bbZ bcZ F5 F6 T7 hb17 hb6 bel7 hs1 hs5 hs5' hs55 hs6 hle hle1 hnq hu hl hk
  go_wp2_with (rw [HW8.out]; refine load_let rfl (.tmp 6) rfl (w1.heap.size + 1) rfl C' G8 hC22 ?_)
  refine bodyPost_ret (results_let rfl _ _ w.heap.size C' rfl hr hC22) rfl ?_
  exact ⟨a1, k1, a2, k2, C', rfl, HC', hO1, hO2, bel8⟩
end Go.Proofs.Ytdejjokgchbgnaa

namespace Go.Proofs.Ytdejjokgchbgnaa
open Go.RowKit

set_option maxHeartbeats 1000000 in
theorem rlong_any (b off len cap : Nat) (l : List Int) (q : Int) (k : Nat) (w : World) (hA : At w b off len cap l) (hq : q = (k : Int)) (hk : k + 4 ≤ len) (hl : len ≤ 140737488351232) :
    Calls Try.prog 48 #[.slice (some ⟨b, off, none⟩) len cap, .int .i64 q] w fun e w' => e = .returned (.int .u32 (w4 l k)) ∧ ∃ nq, w' = w.drewN nq := by
  subst hq
  have hL := hA.len
  have c0 := hA.sees k (by omega)
  obtain ⟨k1, hk1⟩ : ∃ k1, k + 1 = k1 := ⟨_, rfl⟩
  obtain ⟨k2, hk2⟩ : ∃ k2, k + 2 = k2 := ⟨_, rfl⟩
  obtain ⟨k3, hk3⟩ : ∃ k3, k + 3 = k3 := ⟨_, rfl⟩
  have c1 := hA.sees k1 (by omega)
  have c2 := hA.sees k2 (by omega)
  have c3 := hA.sees k3 (by omega)
  have b0 := getD_byte l hA.bytes k
  have b1 := getD_byte l hA.bytes k1
  have b2 := getD_byte l hA.bytes k2
  have b3 := getD_byte l hA.bytes k3
  have HW : Hid (w4 l k = ((l.getD k 0 * 256 + l.getD k1 0) * 256 + l.getD k2 0) * 256 + l.getD k3 0) := by show _ = _; rw [← hk1, ← hk2, ← hk3]; rfl
  generalize l.getD k 0 = x at *
  generalize l.getD k1 0 = y at *
  generalize l.getD k2 0 = z at *
  generalize l.getD k3 0 = t at *
  obtain ⟨x0, x1⟩ := b0
  obtain ⟨y0, y1⟩ := b1
  obtain ⟨z0, z1⟩ := b2
  obtain ⟨t0, t1⟩ := b3
  have hor1 : bits .or .u32 (x * 16777216) (y * 65536) = x * 16777216 + y * 65536 := or_u32 24 _ _ (by omega) (by omega) (by omega) (by omega) (by omega) (by omega)
  have hor2 : bits .or .u32 (x * 16777216 + y * 65536) (z * 256) = x * 16777216 + y * 65536 + z * 256 := or_u32 16 _ _ (by omega) (by omega) (by omega) (by omega) (by omega) (by omega)
  have hor3 : bits .or .u32 (x * 16777216 + y * 65536 + z * 256) t = x * 16777216 + y * 65536 + z * 256 + t := or_u32 8 _ _ (by omega) (by omega) (by omega) (by omega) (by omega) (by omega)
  have i0 : (k : Int) < (len : Int) := by omega
  have i1 : (k1 : Int) < (len : Int) := by omega
  have i2 : (k2 : Int) < (len : Int) := by omega
  have i3 : (k3 : Int) < (len : Int) := by omega
  have u1 : IntKind.i64.wrap ((k : Int) + 1) = (k1 : Int) := by rw [i64_id _ (by omega) (by omega)]; omega
  have u2 : IntKind.i64.wrap ((k : Int) + 2) = (k2 : Int) := by rw [i64_id _ (by omega) (by omega)]; omega
  have u3 : IntKind.i64.wrap ((k : Int) + 3) = (k3 : Int) := by rw [i64_id _ (by omega) (by omega)]; omega
  have v1 : IntKind.u32.wrap x = x := u32_id _ (by omega) (by omega)
  have v2 : IntKind.u32.wrap y = y := u32_id _ (by omega) (by omega)
  have v3 : IntKind.u32.wrap z = z := u32_id _ (by omega) (by omega)
  have v4 : IntKind.u32.wrap t = t := u32_id _ (by omega) (by omega)
  have v5 : IntKind.u32.wrap (x * 16777216) = x * 16777216 := u32_id _ (by omega) (by omega)
  have v6 : IntKind.u32.wrap (y * 65536) = y * 65536 := u32_id _ (by omega) (by omega)
  have v7 : IntKind.u32.wrap (z * 256) = z * 256 := u32_id _ (by omega) (by omega)
  clear hA hL hk1 hk2 hk3
  go_enter Try.func48, Try.ntmps48
  go_wp2
  go_quiet (fail)
  go_wp2
  go_ret
  exact ⟨ret_int (by rw [HW.out]; omega), _, rfl⟩
end Go.Proofs.Ytdejjokgchbgnaa

namespace Go.Proofs.Ytdejjokgchbgnaa
open Go.RowKit
attribute [local go_sem ↓] Go.wp_at_zero Go.wp_at_succ

set_option maxHeartbeats 1000000 in
theorem trparse_short (s d : Int) (a : Option Addr) (len cap : Nat) (w : World) (h : len < 20) :
    Calls Try.prog 31 #[.int .u32 s, .int .u32 d, .slice a len cap] w fun e w' => e = .returned (.tuple #[pcV Pc.zero (.slice none 0 0) (.slice none 0 0), .int .i64 2]) ∧ Below w.heap.size w w' := by
  have h' : (len : Int) < 20 := by omega
  go_enter Try.func31, Try.ntmps31
  go_wp2
  refine bodyPost_ret (v := .tuple #[pcV Pc.zero (.slice none 0 0) (.slice none 0 0), .int .i64 2]) ?_ rfl ?_
  · simp [results, Try.results31, go_sem, Pc.zero]
  exact ⟨rfl, below_alloc _ _⟩

set_option maxHeartbeats 1000000 in
theorem trparse_few (s d : Int) (b off len cap : Nat) (l : List Int) (w : World) (hA : At w b off len cap l) (g1 : 20 ≤ len) (h : hdT l < 20) :
    Calls Try.prog 31 #[.int .u32 s, .int .u32 d, .slice (some ⟨b, off, none⟩) len cap] w fun e w' => e = .returned (.tuple #[pcV Pc.zero (.slice none 0 0) (.slice none 0 0), .int .i64 4]) ∧ Below w.heap.size w w' := by
  have h' : ¬ (len : Int) < 20 := by omega
  have hl12 : (12 : Int) < (len : Int) := by omega
  have c12 := cell_later (below_alloc w (.cells zeroTC 69)) (hA.sees 12 (by rw [hA.len]; omega))
  have hx := b1_bd l hA.bytes 12
  unfold hdT at h
  have e12 : l.getD 12 0 = b1 l 12 := rfl
  rw [e12] at c12
  generalize b1 l 12 = X at *
  obtain ⟨x0, x1⟩ := hx
  clear hA e12
  go_enter Try.func31, Try.ntmps31
  go_wp2
  refine bodyPost_ret (v := .tuple #[pcV Pc.zero (.slice none 0 0) (.slice none 0 0), .int .i64 4]) ?_ rfl ?_
  · simp [results, Try.results31, go_sem, Pc.zero]
  exact ⟨rfl, below_alloc _ _⟩

set_option maxHeartbeats 1000000 in
theorem trparse_spare (s d : Int) (b off len cap : Nat) (l : List Int) (w : World) (hA : At w b off len cap l) (g1 : 20 ≤ len) (g2 : ¬ hdT l < 20) (h : b1 l 12 % 16 ≠ 0) :
    Calls Try.prog 31 #[.int .u32 s, .int .u32 d, .slice (some ⟨b, off, none⟩) len cap] w fun e w' => e = .returned (.tuple #[pcV Pc.zero (.slice none 0 0) (.slice none 0 0), .int .i64 4]) ∧ Below w.heap.size w w' := by
  have h' : ¬ (len : Int) < 20 := by omega
  have hl12 : (12 : Int) < (len : Int) := by omega
  have c12 := cell_later (below_alloc w (.cells zeroTC 69)) (hA.sees 12 (by rw [hA.len]; omega))
  have hx := b1_bd l hA.bytes 12
  unfold hdT at g2
  have e12 : l.getD 12 0 = b1 l 12 := rfl
  rw [e12] at c12
  generalize b1 l 12 = X at *
  obtain ⟨x0, x1⟩ := hx
  have hm : (X % 16 != 0) = true := by rw [bne_iff_ne]; exact h
  clear hA e12 h
  go_enter Try.func31, Try.ntmps31
  go_wp2
  refine bodyPost_ret (v := .tuple #[pcV Pc.zero (.slice none 0 0) (.slice none 0 0), .int .i64 4]) ?_ rfl ?_
  · simp [results, Try.results31, go_sem, Pc.zero]
  exact ⟨rfl, below_alloc _ _⟩

set_option maxHeartbeats 1000000 in
theorem trparse_long (s d : Int) (b off len cap : Nat) (l : List Int) (w : World) (hA : At w b off len cap l) (g1 : 20 ≤ len) (g2 : ¬ hdT l < 20) (g3 : b1 l 12 % 16 = 0) (h : (len : Int) < hdT l) :
    Calls Try.prog 31 #[.int .u32 s, .int .u32 d, .slice (some ⟨b, off, none⟩) len cap] w fun e w' => e = .returned (.tuple #[pcV Pc.zero (.slice none 0 0) (.slice none 0 0), .int .i64 2]) ∧ Below w.heap.size w w' := by
  have h' : ¬ (len : Int) < 20 := by omega
  have hl12 : (12 : Int) < (len : Int) := by omega
  have c12 := cell_later (below_alloc w (.cells zeroTC 69)) (hA.sees 12 (by rw [hA.len]; omega))
  have hx := b1_bd l hA.bytes 12
  unfold hdT at g2 h
  have e12 : l.getD 12 0 = b1 l 12 := rfl
  rw [e12] at c12
  generalize b1 l 12 = X at *
  obtain ⟨x0, x1⟩ := hx
  have hm : (X % 16 != 0) = false := by rw [g3]; rfl
  clear hA e12 g3
  go_enter Try.func31, Try.ntmps31
  go_wp2
  refine bodyPost_ret (v := .tuple #[pcV Pc.zero (.slice none 0 0) (.slice none 0 0), .int .i64 2]) ?_ rfl ?_
  · simp [results, Try.results31, go_sem, Pc.zero]
  exact ⟨rfl, below_alloc _ _⟩

set_option maxHeartbeats 4000000 in
theorem trparse_sum (s d : Int) (b off len cap : Nat) (l : List Int) (w : World) (s0 : 0 ≤ s) (s1 : s < 4294967296) (t0 : 0 ≤ d) (t1 : d < 4294967296) (hA : At w b off len cap l) (hl : len ≤ 70000) (g1 : 20 ≤ len) (g2 : ¬ hdT l < 20) (g3 : b1 l 12 % 16 = 0) (g4 : ¬ (len : Int) < hdT l) (h : fold16 (ws (pseudoB s d 6 len ++ l)) ≠ 65535) :
    Calls Try.prog 31 #[.int .u32 s, .int .u32 d, .slice (some ⟨b, off, none⟩) len cap] w fun e w' => e = .returned (.tuple #[pcV Pc.zero (.slice none 0 0) (.slice none 0 0), .int .i64 5]) ∧ Below w.heap.size w w' := by
  have h' : ¬ (len : Int) < 20 := by omega
  have hl12 : (12 : Int) < (len : Int) := by omega
  have c12 := cell_later (below_alloc w (.cells zeroTC 69)) (hA.sees 12 (by rw [hA.len]; omega))
  have hx := b1_bd l hA.bytes 12
  unfold hdT at g2 g4
  have e12 : l.getD 12 0 = b1 l 12 := rfl
  have hs : (fold16 (ws (pseudoB s d 6 len ++ l)) != 65535) = true := by rw [bne_iff_ne]; exact h
  have HLL : Hid (l.length = len) := hA.len
  rw [e12] at c12
  generalize b1 l 12 = X at *
  obtain ⟨x0, x1⟩ := hx
  have hm : (X % 16 != 0) = false := by rw [g3]; rfl
  clear e12 g3 h
  go_enter Try.func31, Try.ntmps31
  go_wp2_with fail
  refine (rpseudo_any s d 6 (len : Int) _ s0 s1 t0 t1).mono ?_
  rintro e w4 ⟨v4, rfl, hP, hb4⟩
  obtain ⟨a4, n4, k4, rfl⟩ := hP.shape
  have hB4 := (hA.later (below_trans (below_alloc _ _) hb4)).bts
  go_wp2_with fail
  refine (rsum2 w4 _ _ _ _ _ 23 (by simp) hP hB4 (by rw [pseudo_length, HLL.out]; omega)).mono ?_
  rintro e w5 ⟨rfl, rfl⟩
  have hx5 := below_trans hb4 (below_alloc w4 (.cells #[.slice a4 n4 k4, .slice (some ⟨b, off, none⟩) len cap] 23))
  obtain ⟨⟨c0, c1, c2, c3, c4, c5, c6, c7, c8⟩, hfz⟩ := zeroT_cells rfl hx5
  have bel := laidT_below (below_trans (below_alloc _ _) hx5) Pc.zero (.slice none 0 0) (.slice none 0 0)
  generalize (w4.alloc (.cells #[.slice a4 n4 k4, .slice (some ⟨b, off, none⟩) len cap] 23)) = W5 at *
  clear hx5 hP hb4 hB4 hA c12
  go_wp2
  refine bodyPost_ret (v := .tuple #[pcV Pc.zero (.slice none 0 0) (.slice none 0 0), .int .i64 5]) ?_ rfl ?_
  · simp [results, Try.results31, go_sem, c0, c1, c2, c3, c4, c5, c6, c7, c8, Pc.zero]
  exact ⟨rfl, bel⟩

theorem trparse_no (s d : Int) (a : Option Addr) (b off len cap : Nat) (l : List Int) (w : World) (s0 : 0 ≤ s) (s1 : s < 4294967296) (t0 : 0 ≤ d) (t1 : d < 4294967296) (ha : a = some ⟨b, off, none⟩ ∨ l = []) (hA : At w b off len cap l) (hl : len ≤ 70000) (h : ¬ parseT s d l = 0) :
    Calls Try.prog 31 #[.int .u32 s, .int .u32 d, .slice a len cap] w fun e w' => e = .returned (.tuple #[pcV Pc.zero (.slice none 0 0) (.slice none 0 0), .int .i64 (parseT s d l)]) ∧ Below w.heap.size w w' := by
  have hL := hA.len
  obtain ⟨E, hE⟩ : ∃ E, parseT s d l = E := ⟨_, rfl⟩
  rw [hE] at h ⊢
  unfold parseT at hE
  by_cases g1 : l.length < 20
  · rw [if_pos g1] at hE; subst hE; exact trparse_short s d a len cap w (by omega)
  rw [if_neg g1] at hE
  rcases ha with rfl | rfl
  case inr => simp at g1
  by_cases g2 : hdT l < 20
  · rw [if_pos (.inl g2)] at hE; subst hE; exact trparse_few s d b off len cap l w hA (by omega) g2
  by_cases g3 : b1 l 12 % 16 = 0
  case neg => rw [if_pos (.inr g3)] at hE; subst hE; exact trparse_spare s d b off len cap l w hA (by omega) g2 g3
  rw [if_neg (by omega)] at hE
  by_cases g4 : (l.length : Int) < hdT l
  · rw [if_pos g4] at hE; subst hE; exact trparse_long s d b off len cap l w hA (by omega) g2 g3 (by omega)
  rw [if_neg g4, hL] at hE
  rw [hL] at g4
  by_cases g5 : fold16 (ws (pseudoB s d 6 (len : Int) ++ l)) ≠ 65535
  · rw [if_pos g5] at hE; subst hE; exact trparse_sum s d b off len cap l w s0 s1 t0 t1 hA hl (by omega) g2 g3 g4 g5
  rw [if_neg g5] at hE
  exact absurd hE.symm h
end Go.Proofs.Ytdejjokgchbgnaa

namespace Go.Proofs.Ytdejjokgchbgnaa
open Go.RowKit
attribute [local go_sem ↓] Go.wp_at_zero Go.wp_at_succ

theorem drew13 {w : World} {a : Addr} {v : Value} (h : w.cell? a = some v) : w.drew.cell? a = some v := h

theorem drewN13 {w : World} {a : Addr} {v : Value} (h : w.cell? a = some v) (n : Nat) (hw : a.block < w.heap.size) : (w.drewN n).cell? a = some v := by
  rw [(below_drewN (Below.refl w.heap.size w) n).cell hw]; exact h

theorem laid13 {w : World} {n b o : Nat} {v : Value} (hn : n ≠ b) (h : w.cell? ⟨b, o, none⟩ = some v) (x0 x1 x2 x3 x4 x5 x6 x7 x8 : Value) :
    (((((((((w.setCell ⟨n, 0, none⟩ x0).setCell ⟨n, 1, none⟩ x1).setCell ⟨n, 2, none⟩ x2).setCell ⟨n, 3, none⟩ x3).setCell ⟨n, 4, none⟩ x4).setCell ⟨n, 5, none⟩ x5).setCell ⟨n, 6, none⟩ x6).setCell ⟨n, 7, none⟩ x7).setCell ⟨n, 8, none⟩ x8).cell? ⟨b, o, none⟩ = some v := by
  have key : ∀ (u : World) (i : Nat) (x : Value), (u.setCell ⟨n, i, none⟩ x).cell? ⟨b, o, none⟩ = u.cell? ⟨b, o, none⟩ := fun u i x => World.cell?_setCell_far u ⟨n, i, none⟩ ⟨b, o, none⟩ x hn
  simp only [key]
  exact h

set_option maxHeartbeats 8000000 in
theorem trparse_ok (s d : Int) (b off len cap : Nat) (l : List Int) (w : World) (s0 : 0 ≤ s) (s1 : s < 4294967296) (t0 : 0 ≤ d) (t1 : d < 4294967296) (hA : At w b off len cap l) (hl : len ≤ 70000) (g : TGood s d l) :
    Calls Try.prog 31 #[.int .u32 s, .int .u32 d, .slice (some ⟨b, off, none⟩) len cap] w fun e w' =>
      ∃ a1 k1 a2 k2, e = .returned (.tuple #[pcV (pcOf l) (.slice a1 (pcOf l).opts.length k1) (.slice a2 (pcOf l).data.length k2), .int .i64 0]) ∧ Bts w' (.slice a1 (pcOf l).opts.length k1) (pcOf l).opts ∧ Bts w' (.slice a2 (pcOf l).data.length k2) (pcOf l).data ∧ Below w.heap.size w w' := by
  have hL := hA.len
  obtain ⟨g1, g2, g3, g4, g5⟩ := g
  rw [hL] at g1 g4 g5
  have h' : ¬ (len : Int) < 20 := by omega
  have hl12 : (12 : Int) < (len : Int) := by omega
  have hl13 : (13 : Int) < (len : Int) := by omega
  have c12 := cell_later (below_alloc w (.cells zeroTC 69)) (hA.sees 12 (by rw [hA.len]; omega))
  have p13 : w.cell? ⟨b, off + 13, none⟩ = some (.int .u8 (b1 l 13)) := hA.sees 13 (by rw [hA.len]; omega)
  have hbn : b < w.heap.size := World.block_lt_of_cell? w _ p13
  have hbn' : w.heap.size ≠ b := by omega
  obtain ⟨x0, x1⟩ := b1_bd l hA.bytes 12
  obtain ⟨y0, y1⟩ := b1_bd l hA.bytes 13
  have e12 : l.getD 12 0 = b1 l 12 := rfl
  have hs : (fold16 (ws (pseudoB s d 6 len ++ l)) != 65535) = false := by rw [g5]; rfl
  have HLL : Hid (l.length = len) := hL
  have HBL : Hid (isBytes l) := hA.bytes
  rw [e12] at c12
  have HX : Hid (hdT l = b1 l 12 / 16 * 4) := (rfl : hdT l = _)
  rw [HX.out] at g2 g4
  have k4 : ¬ b1 l 12 / 16 * 4 < 20 := by omega
  have k5 : ¬ (len : Int) < b1 l 12 / 16 * 4 := by omega
  have hm : (b1 l 12 % 16 != 0) = false := by rw [g3]; rfl
  have u13 : IntKind.i64.wrap (b1 l 13) = b1 l 13 := i64_id _ (by omega) (by omega)
  clear e12 g3 hL g5
  go_enter Try.func31, Try.ntmps31
  go_wp2_with fail
  refine (rpseudo_any s d 6 (len : Int) _ s0 s1 t0 t1).mono ?_
  rintro e w2' ⟨v2, rfl, hP, hb2⟩
  obtain ⟨a4, n4, k4', rfl⟩ := hP.shape
  have hB2 := (hA.later (below_trans (below_alloc _ _) hb2)).bts
  go_wp2_with fail
  refine (rsum2 w2' _ _ _ _ _ 23 (by simp) hP hB2 (by rw [pseudo_length, HLL.out]; omega)).mono ?_
  rintro e w5 ⟨rfl, rfl⟩
  have hb3' := below_trans hb2 (below_alloc w2' (.cells #[.slice a4 n4 k4', .slice (some ⟨b, off, none⟩) len cap] 23))
  generalize (w2'.alloc (.cells #[.slice a4 n4 k4', .slice (some ⟨b, off, none⟩) len cap] 23)) = w3 at *
  have hy3 := below_trans (below_alloc w (.cells zeroTC 69)) hb3'
  have hA3 := hA.later hy3
  have HW : Hid (Below (w.alloc (.cells zeroTC 69)).heap.size (w.alloc (.cells zeroTC 69)) w3) := hb3'
  have hsz := hb3'.size
  simp only [World.size_alloc] at hsz
  have p13 := cell_later hy3 p13
  have hb13 : b < w3.heap.size := by omega
  clear hP hB2 hb2 c12 hb3'
  go_wp2_with fail
  go_region_held3 (fun w' => w'.cell? ⟨b, off + 13, none⟩ = some (.int .u8 (b1 l 13))) (first | (with_reducible exact drew13 p13) | (with_reducible exact drewN13 p13 _ hb13) | (with_reducible exact HP8.out) | (with_reducible exact cell_later hb7 p13) | (with_reducible exact laid13 HNB.out HP8.out _ _ _ _ _ _ _ _ _))
    (first
      | (go_at_call_of 47 (Value.int IntKind.i64 0); refine (rword_any b off len cap l 0 0 _ (by first | with_reducible exact hA3.later (Below.refl _ _).drew | with_reducible exact hA3.later (below_drewN (Below.refl _ _) _)) rfl (by omega) (by omega)).mono ?_; rintro e u0 ⟨rfl, n0, rfl⟩)
      | (go_at_call_of 47 (Value.int IntKind.i64 2); refine (rword_any b off len cap l 2 2 _ (by first | with_reducible exact hA3.later (Below.refl _ _).drew | with_reducible exact hA3.later (below_drewN (Below.refl _ _) _)) rfl (by omega) (by omega)).mono ?_; rintro e u2 ⟨rfl, n2, rfl⟩)
      | (go_at_call_of 48 (Value.int IntKind.i64 4); refine (rlong_any b off len cap l 4 4 _ (by first | with_reducible exact hA3.later (Below.refl _ _).drew | with_reducible exact hA3.later (below_drewN (Below.refl _ _) _)) rfl (by omega) (by omega)).mono ?_; rintro e u4 ⟨rfl, n4, rfl⟩)
      | (go_at_call_of 48 (Value.int IntKind.i64 8); refine (rlong_any b off len cap l 8 8 _ (by first | with_reducible exact hA3.later (Below.refl _ _).drew | with_reducible exact hA3.later (below_drewN (Below.refl _ _) _)) rfl (by omega) (by omega)).mono ?_; rintro e u8 ⟨rfl, n8, rfl⟩)
      | (go_at_call_of 47 (Value.int IntKind.i64 14); refine (rword_any b off len cap l 14 14 _ (by first | with_reducible exact hA3.later (Below.refl _ _).drew | with_reducible exact hA3.later (below_drewN (Below.refl _ _) _)) rfl (by omega) (by omega)).mono ?_; rintro e u14 ⟨rfl, n14, rfl⟩)
      | (go_at_call_of 47 (Value.int IntKind.i64 18); refine (rword_any b off len cap l 18 18 _ (by first | with_reducible exact hA3.later (Below.refl _ _).drew | with_reducible exact hA3.later (below_drewN (Below.refl _ _) _)) rfl (by omega) (by omega)).mono ?_; rintro e u18 ⟨rfl, n18, rfl⟩)
      | (go_at_call_of 23 (Value.int IntKind.i64 20); refine (part_any b off len cap l 20 (b1 l 12 / 16 * 4) 20 (b1 l 12 / 16 * 4).toNat _ (hA3.later (below_drewN (Below.refl _ _) _)) rfl (by omega) (by omega) (by omega) (by omega)).mono ?_; rintro e w7 ⟨v7, rfl, ho7, hb7'⟩; obtain ⟨a1, k1, rfl⟩ := Bts.shapeT (l := (pcOf l).opts) (ho7.bts (isBytes_part l HBL.out _ _)); have hb7 : Below w3.heap.size w3 w7 := below_trans (below_drewN (Below.refl _ _) _) hb7')
      | (go_at_call_of 23 (Value.int IntKind.i64 (len : Int)); refine (part_any b off len cap l (b1 l 12 / 16 * 4) (len : Int) (b1 l 12 / 16 * 4).toNat len _ (hA3.later hb7) (by omega) rfl (by omega) (by omega) (by omega)).mono ?_; rintro e w8 ⟨v8, rfl, ho8, hb8'⟩; rw [← HLL.out] at ho8; obtain ⟨a2, k2, rfl⟩ := Bts.shapeT (l := (pcOf l).data) (ho8.bts (isBytes_part l HBL.out _ _)); have hb8 := below_trans hb7 hb8'; have HP8 : Hid (w8.cell? ⟨b, off + 13, none⟩ = some (.int .u8 (b1 l 13))) := cell_later hb8 p13; have HNB : Hid (w.heap.size ≠ b) := hbn'; have HO7 : Hid (Owns w7 _ (.slice a1 (pcOf l).opts.length k1) (pcOf l).opts) := ho7; have HO8 : Hid (Owns w8 _ (.slice a2 (pcOf l).data.length k2) (pcOf l).data) := ho8; have HB7 : Hid (Below w3.heap.size w3 w7) := hb7; have HB8 : Hid (Below w7.heap.size w7 w8) := hb8'; have HY3 : Hid (Below w.heap.size w w3) := hy3; have HZ := zeroT_cells rfl (below_trans HW.out hb8); clear p13 hb13 hbn hbn' ho7 ho8 hb7 hb8 hb7' hb8' hy3 hA hA3 g1 g2 g4 k4 k5 hl h' hl12 hl13 hsz x0 x1 y0 y1 hm hs u13 s0 s1 t0 t1; obtain ⟨⟨z0, z1, z2, z3, z4, z5, z6, z7, z8⟩, hfz⟩ := HZ))
  have hlt : w.heap.size < w3.heap.size := by have := HW.out.size; simp only [World.size_alloc] at this; omega
  have hlt2 : w.heap.size < w7.heap.size := by have := HB7.out.size; omega
  have ho7 := (HO7.out).low (show w3.heap.size ≤ _ from Nat.le_refl _)
  have hB1 := laidT_owns (ho7.later HB8.out) hlt (pcOf l) (.slice a1 (pcOf l).opts.length k1) (.slice a2 (pcOf l).data.length k2)
  have hB2 := laidT_owns HO8.out hlt2 (pcOf l) (.slice a1 (pcOf l).opts.length k1) (.slice a2 (pcOf l).data.length k2)
  have hb8 := below_trans HB7.out HB8.out
  have bel := laidT_below (below_trans HY3.out hb8) (pcOf l) (.slice a1 (pcOf l).opts.length k1) (.slice a2 (pcOf l).data.length k2)
  obtain ⟨r0, r1, r2, r3, r4, r5, r6, r7, r8⟩ := laidT_cells rfl (below_trans HW.out hb8) (pcOf l) (.slice a1 (pcOf l).opts.length k1) (.slice a2 (pcOf l).data.length k2)
  obtain ⟨W, hW⟩ : ∃ W, W = laidT w8 w.heap.size (pcOf l) (.slice a1 (pcOf l).opts.length k1) (.slice a2 (pcOf l).data.length k2) := ⟨_, rfl⟩
  have hW' : (((((((((w8.setCell ⟨w.heap.size, 0, none⟩ (.int .i64 (w2 l 0))).setCell ⟨w.heap.size, 1, none⟩ (.int .i64 (w2 l 2))).setCell ⟨w.heap.size, 2, none⟩ (.int .u32 (w4 l 4))).setCell ⟨w.heap.size, 3, none⟩ (.int .u32 (w4 l 8))).setCell ⟨w.heap.size, 4, none⟩ (.int .i64 (b1 l 13))).setCell ⟨w.heap.size, 5, none⟩ (.int .i64 (w2 l 14))).setCell ⟨w.heap.size, 6, none⟩ (.int .i64 (w2 l 18))).setCell ⟨w.heap.size, 7, none⟩ (.slice a1 (pcOf l).opts.length k1)).setCell ⟨w.heap.size, 8, none⟩ (.slice a2 (pcOf l).data.length k2)) = W := hW.symm
  rw [hW']
  rw [← hW] at hB1 hB2 bel r0 r1 r2 r3 r4 r5 r6 r7 r8
  clear hW hW' z0 z1 z2 z3 z4 z5 z6 z7 z8 hfz ho7 hb8
  have hb1 := hB1.bts (isBytes_part l HBL.out _ _)
  have hb2 := hB2.bts (isBytes_part l HBL.out _ _)
  clear hB1 hB2
  go_wp2
  refine bodyPost_ret (v := .tuple #[pcV (pcOf l) (.slice a1 (pcOf l).opts.length k1) (.slice a2 (pcOf l).data.length k2), .int .i64 0]) ?_ rfl ?_
  · simp [results, Try.results31, go_sem, r0, r1, r2, r3, r4, r5, r6, r7, r8]
  exact ⟨_, _, _, _, rfl, hb1, hb2, bel⟩
end Go.Proofs.Ytdejjokgchbgnaa

namespace Go.Proofs.Ytdejjokgchbgnaa
open Go.RowKit
attribute [local go_sem ↓] Go.wp_at_zero Go.wp_at_succ

set_option maxHeartbeats 1000000 in
theorem rread_6_ok (b off len cap : Nat) (l : List Int) (w : World) (hA : At w b off len cap l) (g : Good l) (hp : partB (dgOf l) = false) (hpr : (dgOf l).proto = 6) (g1 : TGood (dgOf l).src (dgOf l).dst (dgOf l).body) :
    Calls Try.prog 13 #[.slice (some ⟨b, off, none⟩) len cap] w fun e w' =>
      ∃ a1 k1 a2 k2 C', e = .returned (.tuple #[.agg C', .int .i64 0]) ∧ Hid (C' = frC (dgOf l) (.slice a1 (dgOf l).opts.length k1) (.slice a2 (dgOf l).body.length k2) ⟨0, 2, w2 (dgOf l).body 0, w2 (dgOf l).body 2, b1 (dgOf l).body 13, Inn.zero⟩) ∧ Bts w' (.slice a1 (dgOf l).opts.length k1) (dgOf l).opts ∧ Bts w' (.slice a2 (dgOf l).body.length k2) (dgOf l).body ∧ Below w.heap.size w w' := by
  obtain ⟨hmf, hoff⟩ := part_no _ hp
  have hB1 : Hid (isBytes (dgOf l).opts) := isBytes_part l hA.bytes _ _
  have hB2 : Hid (isBytes (dgOf l).body) := isBytes_part l hA.bytes _ _
  have hk := dg_ok l hA.bytes
  have hl := body_len l g
  have hpa := rparse_good b off len cap l _ (hA.later (below_alloc w (.cells zeroFC 37))) g
  rcases hpd : dgOf l with ⟨tos, id, df, mf, of, ttl, pr, src, dst, opts, body⟩
  rw [hpd] at hpa hmf hoff hB1 hB2 hk hl hpr g1
  simp only at hmf hoff hpr hl g1
  subst hmf hoff
  have z17 : (pr == 17) = false := by rw [hpr]; rfl
  have z6 : (pr == 6) = true := by rw [hpr]; rfl
  clear hpr
  clear hA g hp hpd
  go_enter Try.func13, Try.ntmps13
  go_wp2_with fail
  refine hpa.mono ?_
  rintro e w1 ⟨a1, k1, a2, k2, rfl, ho1, ho2, hb1⟩
  have F1 := fc_new (n := w.heap.size) rfl hb1
  have hs1 := hb1.size
  simp only [World.size_alloc] at hs1 ho1 ho2
  have bel1 := below_trans (below_alloc _ _) hb1
  have hbp := below_alloc w1 (.cells (ipC ⟨tos, id, df, false, 0, ttl, pr, src, dst, opts, body⟩ (.slice a1 opts.length k1) (.slice a2 body.length k2)) 29)
  obtain ⟨W5, HW5⟩ : ∃ W5, Hid (((w1.alloc (.cells (ipC ⟨tos, id, df, false, 0, ttl, pr, src, dst, opts, body⟩ (.slice a1 opts.length k1) (.slice a2 body.length k2)) 29)).alloc (.cells zeroFC 37)).setCells (w1.alloc (.cells (ipC ⟨tos, id, df, false, 0, ttl, pr, src, dst, opts, body⟩ (.slice a1 opts.length k1) (.slice a2 body.length k2)) 29)).heap.size 0 (frC ⟨tos, id, df, false, 0, ttl, pr, src, dst, opts, body⟩ (.slice a1 opts.length k1) (.slice a2 body.length k2) ⟨0, 0, 0, 0, 0, Inn.zero⟩).toList = W5) := ⟨_, (rfl : _ = _)⟩
  have F5 : FC W5 (w1.heap.size + 1) (frC ⟨tos, id, df, false, 0, ttl, pr, src, dst, opts, body⟩ (.slice a1 opts.length k1) (.slice a2 body.length k2) ⟨0, 0, 0, 0, 0, Inn.zero⟩) := fr_at _ _ (by simp) (frC ⟨tos, id, df, false, 0, ttl, pr, src, dst, opts, body⟩ (.slice a1 opts.length k1) (.slice a2 body.length k2) ⟨0, 0, 0, 0, 0, Inn.zero⟩) rfl W5 HW5.out
  have hb5 : Below (w1.alloc (.cells (ipC ⟨tos, id, df, false, 0, ttl, pr, src, dst, opts, body⟩ (.slice a1 opts.length k1) (.slice a2 body.length k2)) 29)).heap.size (w1.alloc (.cells (ipC ⟨tos, id, df, false, 0, ttl, pr, src, dst, opts, body⟩ (.slice a1 opts.length k1) (.slice a2 body.length k2)) 29)) W5 := by rw [← HW5.out]; exact setCells_below _ _ _ _ _ (Nat.le_refl _) (below_alloc _ _)
  obtain ⟨c0, c1, c2, c3, c4, c5, c6, c7, c8, c9, c10⟩ := ip_box hb5
  have hb15 := below_trans hbp hb5
  have hs5 := hb15.size
  have hs5' := hb5.size
  simp only [World.size_alloc] at hs5'
  have hBb := (ho2.bts hB2.out).later hb15
  have HO : Hid (Owns w1 (w.heap.size + 1) (.slice a1 opts.length k1) opts ∧ Owns w1 (w.heap.size + 1) (.slice a2 body.length k2) body) := ⟨ho1, ho2⟩
  have HE : Hid (Below w.heap.size w w1) := bel1
  have HF : Hid (FC w1 w.heap.size zeroFC) := F1
  have H15 : Hid (Below w1.heap.size w1 W5) := hb15
  obtain ⟨-, b', off', ha', hA'⟩ := hBb.at_ne
  clear hpa hb1 hbp ho1 ho2 F1 bel1 hb5 hBb hb15
  have hs55 : w1.heap.size + 1 < W5.heap.size := World.block_lt_of_cell? W5 _ (F5.c 0 _ rfl)
  have ha'' : a2 = some ⟨b', off', none⟩ := by
    rcases ha' with h | h
    · exact h
    · have := g1.a; rw [h] at this; simp at this
  have hu := trparse_ok src dst b' off' body.length k2 body W5 hk.src0 hk.src1 hk.dst0 hk.dst1 hA' hl g1
  rw [← ha''] at hu
  clear ha' ha'' hA' g1
  go_wp2_with (refine alloc_store rfl rfl rfl (.tmp 6) (.tmp 36) rfl (frC ⟨tos, id, df, false, 0, ttl, pr, src, dst, opts, body⟩ (.slice a1 opts.length k1) (.slice a2 body.length k2) ⟨0, 0, 0, 0, 0, Inn.zero⟩) rfl rfl rfl (oneFr _ _ _ _ _ _ _ _) _ rfl ?_; rw [HW5.out])
  refine hu.mono ?_
  rintro e w6 ⟨a3, k3, a4, k4, rfl, -, -, hb6⟩
  have hs6 := hb6.size
  have F6 := F5.later (by omega) hb6
  have fz := F6.f
  have e11 : w6.cell? ⟨w1.heap.size + 1, 11, none⟩ = some (.int .i64 0) := F6.c 11 _ rfl
  have e13 : w6.cell? ⟨w1.heap.size + 1, 13, none⟩ = some (.int .i64 0) := F6.c 13 _ rfl
  have e15 : w6.cell? ⟨w1.heap.size + 1, 15, none⟩ = some (.int .i64 0) := F6.c 15 _ rfl
  have e16 : w6.cell? ⟨w1.heap.size + 1, 16, none⟩ = some (.int .i64 0) := F6.c 16 _ rfl
  have hb17 := below_trans H15.out hb6
  have q1 : w1.heap.size + 1 < w6.heap.size := by omega
  have q2 : ¬ (w1.heap.size + 1 = w6.heap.size) := by omega
  have T7 := HF.out.later (by omega) hb17
  have hnq : ¬ w1.heap.size + 1 = w.heap.size := by omega
  have hle : w.heap.size ≤ w1.heap.size + 1 := by omega
  have hle1 : w1.heap.size ≤ w1.heap.size + 1 := by omega
  have bel7 := below_trans HE.out hb17
  have S0 := F6.set 11 (by first | (show 11 < 22; decide) | (simp only [Array.size_set]; decide)) (.int .i64 2)
  have S1 := S0.set 13 (by first | (show 13 < 22; decide) | (simp only [Array.size_set]; decide)) (.int .i64 (pcOf body).src)
  have S2 := S1.set 15 (by first | (show 15 < 22; decide) | (simp only [Array.size_set]; decide)) (.int .i64 (pcOf body).dst)
  have S3 := S2.set 16 (by first | (show 16 < 22; decide) | (simp only [Array.size_set]; decide)) (.int .i64 (pcOf body).flags)
  have SZ := S3.later (by simp only [World.size_setCell]; omega) (below_alloc _ (.cells (pcC (pcOf body) (.slice a3 (pcOf body).opts.length k3) (.slice a4 (pcOf body).data.length k4)) 69))
  have T8 := T7.far (m := w1.heap.size + 1) (i := 11) (v := .int .i64 2) hnq
  have T9 := T8.far (m := w1.heap.size + 1) (i := 13) (v := .int .i64 (pcOf body).src) hnq
  have T10 := T9.far (m := w1.heap.size + 1) (i := 15) (v := .int .i64 (pcOf body).dst) hnq
  have T11 := T10.far (m := w1.heap.size + 1) (i := 16) (v := .int .i64 (pcOf body).flags) hnq
  have TZ := T11.later (by simp only [World.size_setCell]; omega) (below_alloc _ (.cells (pcC (pcOf body) (.slice a3 (pcOf body).opts.length k3) (.slice a4 (pcOf body).data.length k4)) 69))
  have bb0 := bel7.setCell (p := ⟨w1.heap.size + 1, 11, none⟩) hle (.int .i64 2)
  have bb1 := bb0.setCell (p := ⟨w1.heap.size + 1, 13, none⟩) hle (.int .i64 (pcOf body).src)
  have bb2 := bb1.setCell (p := ⟨w1.heap.size + 1, 15, none⟩) hle (.int .i64 (pcOf body).dst)
  have bb3 := bb2.setCell (p := ⟨w1.heap.size + 1, 16, none⟩) hle (.int .i64 (pcOf body).flags)
  have bbZ := below_trans bb3 (below_alloc _ (.cells (pcC (pcOf body) (.slice a3 (pcOf body).opts.length k3) (.slice a4 (pcOf body).data.length k4)) 69))
  have bc0 := hb17.setCell (p := ⟨w1.heap.size + 1, 11, none⟩) hle1 (.int .i64 2)
  have bc1 := bc0.setCell (p := ⟨w1.heap.size + 1, 13, none⟩) hle1 (.int .i64 (pcOf body).src)
  have bc2 := bc1.setCell (p := ⟨w1.heap.size + 1, 15, none⟩) hle1 (.int .i64 (pcOf body).dst)
  have bc3 := bc2.setCell (p := ⟨w1.heap.size + 1, 16, none⟩) hle1 (.int .i64 (pcOf body).flags)
  have bcZ := below_trans bc3 (below_alloc _ (.cells (pcC (pcOf body) (.slice a3 (pcOf body).opts.length k3) (.slice a4 (pcOf body).data.length k4)) 69))
  obtain ⟨W8, HW8⟩ : ∃ W8, Hid ((((((w6.setCell ⟨w1.heap.size + 1, 11, none⟩ (.int .i64 2)).setCell ⟨w1.heap.size + 1, 13, none⟩ (.int .i64 (pcOf body).src)).setCell ⟨w1.heap.size + 1, 15, none⟩ (.int .i64 (pcOf body).dst)).setCell ⟨w1.heap.size + 1, 16, none⟩ (.int .i64 (pcOf body).flags)).alloc (.cells (pcC (pcOf body) (.slice a3 (pcOf body).opts.length k3) (.slice a4 (pcOf body).data.length k4)) 69)) = W8) := ⟨_, (rfl : _ = _)⟩
  rw [HW8.out] at SZ TZ bbZ bcZ
  obtain ⟨C', HC', G8⟩ : ∃ C', Hid (C' = frC ⟨tos, id, df, false, 0, ttl, pr, src, dst, opts, body⟩ (.slice a1 opts.length k1) (.slice a2 body.length k2) ⟨0, 2, w2 body 0, w2 body 2, b1 body 13, Inn.zero⟩) ∧ FC W8 (w1.heap.size + 1) C' := ⟨_, (by show _ = _; apply Array.ext'; simp only [Array.toList_set]; rfl), SZ⟩
  have hC22 : C'.size = 22 := congrArg Array.size HC'.out
  have hst := run_store_fr C' (TZ.there rfl) hC22 (by rw [HC'.out]; exact oneFr _ _ _ _ _ _ _ _)
  have hr := range_set C'.toList (by simpa using hC22) (TZ.there rfl)
  have bel8 := setCells_below w.heap.size C'.toList 0 _ w.heap.size (Nat.le_refl _) bbZ
  have hO1 := (setCells_owns w.heap.size (w.heap.size + 1) _ _ (Nat.lt_succ_self _) C'.toList 0 _ (HO.out.1.later bcZ)).bts hB1.out
  have hO2 := (setCells_owns w.heap.size (w.heap.size + 1) _ _ (Nat.lt_succ_self _) C'.toList 0 _ (HO.out.2.later bcZ)).bts hB2.out
  clear S0 S1 S2 S3 T8 T9 T10 T11 bb0 bb1 bb2 bb3 bc0 bc1 bc2 bc3 SZ TZ bbZ bcZ F5 F6 T7 hb17 hb6 bel7 hs1 hs5 hs5' hs55 hs6 hle hle1 hnq hu hl hk
  go_wp2_with (rw [HW8.out]; refine load_let rfl (.tmp 6) rfl (w1.heap.size + 1) rfl C' G8 hC22 ?_)
  refine bodyPost_ret (results_let rfl _ _ w.heap.size C' rfl hr hC22) rfl ?_
  exact ⟨a1, k1, a2, k2, C', rfl, HC', hO1, hO2, bel8⟩
end Go.Proofs.Ytdejjokgchbgnaa

namespace Go.Proofs.Ytdejjokgchbgnaa
open Go.RowKit
attribute [local go_sem ↓] Go.wp_at_zero Go.wp_at_succ

set_option maxHeartbeats 800000 in
theorem rread_17_no (b off len cap : Nat) (l : List Int) (w : World) (hA : At w b off len cap l) (g : Good l) (hp : partB (dgOf l) = false) (hpr : (dgOf l).proto = 17) (g1 : ¬ parseU (dgOf l).src (dgOf l).dst (dgOf l).body = 0) :
    Calls Try.prog 13 #[.slice (some ⟨b, off, none⟩) len cap] w fun e w' => e = .returned (.tuple #[.agg zeroFC, .int .i64 (whyI (parseU (dgOf l).src (dgOf l).dst (dgOf l).body))]) ∧ Below w.heap.size w w' := by
  obtain ⟨hmf, hoff⟩ := part_no _ hp
  have hB1 : Hid (isBytes (dgOf l).opts) := isBytes_part l hA.bytes _ _
  have hB2 : Hid (isBytes (dgOf l).body) := isBytes_part l hA.bytes _ _
  have hk := dg_ok l hA.bytes
  have hl := body_len l g
  have hpa := rparse_good b off len cap l _ (hA.later (below_alloc w (.cells zeroFC 37))) g
  rcases hpd : dgOf l with ⟨tos, id, df, mf, of, ttl, pr, src, dst, opts, body⟩
  rw [hpd] at hpa hmf hoff hB1 hB2 hk hl hpr g1
  simp only at hmf hoff hpr hl g1
  subst hmf hoff
  have z17 : (pr == 17) = true := by rw [hpr]; rfl
  clear hpr
  clear hA g hp hpd
  go_enter Try.func13, Try.ntmps13
  go_wp2_with fail
  refine hpa.mono ?_
  rintro e w1 ⟨a1, k1, a2, k2, rfl, ho1, ho2, hb1⟩
  have F1 := fc_new (n := w.heap.size) rfl hb1
  have hs1 := hb1.size
  simp only [World.size_alloc] at hs1 ho1 ho2
  have bel1 := below_trans (below_alloc _ _) hb1
  have hbp := below_alloc w1 (.cells (ipC ⟨tos, id, df, false, 0, ttl, pr, src, dst, opts, body⟩ (.slice a1 opts.length k1) (.slice a2 body.length k2)) 29)
  obtain ⟨W5, HW5⟩ : ∃ W5, Hid (((w1.alloc (.cells (ipC ⟨tos, id, df, false, 0, ttl, pr, src, dst, opts, body⟩ (.slice a1 opts.length k1) (.slice a2 body.length k2)) 29)).alloc (.cells zeroFC 37)).setCells (w1.alloc (.cells (ipC ⟨tos, id, df, false, 0, ttl, pr, src, dst, opts, body⟩ (.slice a1 opts.length k1) (.slice a2 body.length k2)) 29)).heap.size 0 (frC ⟨tos, id, df, false, 0, ttl, pr, src, dst, opts, body⟩ (.slice a1 opts.length k1) (.slice a2 body.length k2) ⟨0, 0, 0, 0, 0, Inn.zero⟩).toList = W5) := ⟨_, (rfl : _ = _)⟩
  have F5 : FC W5 (w1.heap.size + 1) (frC ⟨tos, id, df, false, 0, ttl, pr, src, dst, opts, body⟩ (.slice a1 opts.length k1) (.slice a2 body.length k2) ⟨0, 0, 0, 0, 0, Inn.zero⟩) := fr_at _ _ (by simp) (frC ⟨tos, id, df, false, 0, ttl, pr, src, dst, opts, body⟩ (.slice a1 opts.length k1) (.slice a2 body.length k2) ⟨0, 0, 0, 0, 0, Inn.zero⟩) rfl W5 HW5.out
  have hb5 : Below (w1.alloc (.cells (ipC ⟨tos, id, df, false, 0, ttl, pr, src, dst, opts, body⟩ (.slice a1 opts.length k1) (.slice a2 body.length k2)) 29)).heap.size (w1.alloc (.cells (ipC ⟨tos, id, df, false, 0, ttl, pr, src, dst, opts, body⟩ (.slice a1 opts.length k1) (.slice a2 body.length k2)) 29)) W5 := by rw [← HW5.out]; exact setCells_below _ _ _ _ _ (Nat.le_refl _) (below_alloc _ _)
  obtain ⟨c0, c1, c2, c3, c4, c5, c6, c7, c8, c9, c10⟩ := ip_box hb5
  have hb15 := below_trans hbp hb5
  have hs5 := hb15.size
  have hs5' := hb5.size
  simp only [World.size_alloc] at hs5'
  have hBb := (ho2.bts hB2.out).later hb15
  have HO : Hid (Owns w1 (w.heap.size + 1) (.slice a1 opts.length k1) opts ∧ Owns w1 (w.heap.size + 1) (.slice a2 body.length k2) body) := ⟨ho1, ho2⟩
  have HE : Hid (Below w.heap.size w w1) := bel1
  have HF : Hid (FC w1 w.heap.size zeroFC) := F1
  have H15 : Hid (Below w1.heap.size w1 W5) := hb15
  obtain ⟨-, b', off', ha', hA'⟩ := hBb.at_ne
  clear hpa hb1 hbp ho1 ho2 F1 bel1 hb5 hBb hb15
  have hne : (parseU src dst body != 0) = true := by rw [bne_iff_ne]; exact g1
  have hu := urparse_no src dst a2 b' off' body.length k2 body W5 hk.src0 hk.src1 hk.dst0 hk.dst1 ha' hA' hl g1
  clear ha' hA' g1
  go_wp2_with (refine alloc_store rfl rfl rfl (.tmp 6) (.tmp 36) rfl (frC ⟨tos, id, df, false, 0, ttl, pr, src, dst, opts, body⟩ (.slice a1 opts.length k1) (.slice a2 body.length k2) ⟨0, 0, 0, 0, 0, Inn.zero⟩) rfl rfl rfl (oneFr _ _ _ _ _ _ _ _) _ rfl ?_; rw [HW5.out])
  refine hu.mono ?_
  rintro e w6 ⟨rfl, hb6⟩
  have hu7 := below_alloc w6 (.cells (udC Ud.zero (.slice none 0 0)) 49)
  have hb17 := below_trans H15.out (below_trans hb6 hu7)
  have T7 := HF.out.later (by omega) hb17
  have bel7 := below_trans HE.out hb17
  clear hu hb6 hu7 F5
  go_wp2_with fail
  refine (rwhy_any _ _).mono ?_
  rintro e w8 ⟨rfl, rfl⟩
  go_wp2_with (refine store_fr rfl (.tmp 2) (.tmp 54) rfl w.heap.size zeroFC rfl rfl (T7.there rfl) rfl oneZ ?_)
  refine bodyPost_ret (results_fr2 rfl _ _ w.heap.size _ rfl (range_set zeroFC.toList rfl (T7.there rfl)) rfl) rfl ?_
  exact ⟨rfl, setCells_below _ _ _ _ _ (Nat.le_refl _) bel7⟩

set_option maxHeartbeats 800000 in
theorem rread_6_no (b off len cap : Nat) (l : List Int) (w : World) (hA : At w b off len cap l) (g : Good l) (hp : partB (dgOf l) = false) (hpr : (dgOf l).proto = 6) (g1 : ¬ parseT (dgOf l).src (dgOf l).dst (dgOf l).body = 0) :
    Calls Try.prog 13 #[.slice (some ⟨b, off, none⟩) len cap] w fun e w' => e = .returned (.tuple #[.agg zeroFC, .int .i64 (whyI (parseT (dgOf l).src (dgOf l).dst (dgOf l).body))]) ∧ Below w.heap.size w w' := by
  obtain ⟨hmf, hoff⟩ := part_no _ hp
  have hB1 : Hid (isBytes (dgOf l).opts) := isBytes_part l hA.bytes _ _
  have hB2 : Hid (isBytes (dgOf l).body) := isBytes_part l hA.bytes _ _
  have hk := dg_ok l hA.bytes
  have hl := body_len l g
  have hpa := rparse_good b off len cap l _ (hA.later (below_alloc w (.cells zeroFC 37))) g
  rcases hpd : dgOf l with ⟨tos, id, df, mf, of, ttl, pr, src, dst, opts, body⟩
  rw [hpd] at hpa hmf hoff hB1 hB2 hk hl hpr g1
  simp only at hmf hoff hpr hl g1
  subst hmf hoff
  have z17 : (pr == 17) = false := by rw [hpr]; rfl
  have z6 : (pr == 6) = true := by rw [hpr]; rfl
  clear hpr
  clear hA g hp hpd
  go_enter Try.func13, Try.ntmps13
  go_wp2_with fail
  refine hpa.mono ?_
  rintro e w1 ⟨a1, k1, a2, k2, rfl, ho1, ho2, hb1⟩
  have F1 := fc_new (n := w.heap.size) rfl hb1
  have hs1 := hb1.size
  simp only [World.size_alloc] at hs1 ho1 ho2
  have bel1 := below_trans (below_alloc _ _) hb1
  have hbp := below_alloc w1 (.cells (ipC ⟨tos, id, df, false, 0, ttl, pr, src, dst, opts, body⟩ (.slice a1 opts.length k1) (.slice a2 body.length k2)) 29)
  obtain ⟨W5, HW5⟩ : ∃ W5, Hid (((w1.alloc (.cells (ipC ⟨tos, id, df, false, 0, ttl, pr, src, dst, opts, body⟩ (.slice a1 opts.length k1) (.slice a2 body.length k2)) 29)).alloc (.cells zeroFC 37)).setCells (w1.alloc (.cells (ipC ⟨tos, id, df, false, 0, ttl, pr, src, dst, opts, body⟩ (.slice a1 opts.length k1) (.slice a2 body.length k2)) 29)).heap.size 0 (frC ⟨tos, id, df, false, 0, ttl, pr, src, dst, opts, body⟩ (.slice a1 opts.length k1) (.slice a2 body.length k2) ⟨0, 0, 0, 0, 0, Inn.zero⟩).toList = W5) := ⟨_, (rfl : _ = _)⟩
  have F5 : FC W5 (w1.heap.size + 1) (frC ⟨tos, id, df, false, 0, ttl, pr, src, dst, opts, body⟩ (.slice a1 opts.length k1) (.slice a2 body.length k2) ⟨0, 0, 0, 0, 0, Inn.zero⟩) := fr_at _ _ (by simp) (frC ⟨tos, id, df, false, 0, ttl, pr, src, dst, opts, body⟩ (.slice a1 opts.length k1) (.slice a2 body.length k2) ⟨0, 0, 0, 0, 0, Inn.zero⟩) rfl W5 HW5.out
  have hb5 : Below (w1.alloc (.cells (ipC ⟨tos, id, df, false, 0, ttl, pr, src, dst, opts, body⟩ (.slice a1 opts.length k1) (.slice a2 body.length k2)) 29)).heap.size (w1.alloc (.cells (ipC ⟨tos, id, df, false, 0, ttl, pr, src, dst, opts, body⟩ (.slice a1 opts.length k1) (.slice a2 body.length k2)) 29)) W5 := by rw [← HW5.out]; exact setCells_below _ _ _ _ _ (Nat.le_refl _) (below_alloc _ _)
  obtain ⟨c0, c1, c2, c3, c4, c5, c6, c7, c8, c9, c10⟩ := ip_box hb5
  have hb15 := below_trans hbp hb5
  have hs5 := hb15.size
  have hs5' := hb5.size
  simp only [World.size_alloc] at hs5'
  have hBb := (ho2.bts hB2.out).later hb15
  have HO : Hid (Owns w1 (w.heap.size + 1) (.slice a1 opts.length k1) opts ∧ Owns w1 (w.heap.size + 1) (.slice a2 body.length k2) body) := ⟨ho1, ho2⟩
  have HE : Hid (Below w.heap.size w w1) := bel1
  have HF : Hid (FC w1 w.heap.size zeroFC) := F1
  have H15 : Hid (Below w1.heap.size w1 W5) := hb15
  obtain ⟨-, b', off', ha', hA'⟩ := hBb.at_ne
  clear hpa hb1 hbp ho1 ho2 F1 bel1 hb5 hBb hb15
  have hne : (parseT src dst body != 0) = true := by rw [bne_iff_ne]; exact g1
  have hu := trparse_no src dst a2 b' off' body.length k2 body W5 hk.src0 hk.src1 hk.dst0 hk.dst1 ha' hA' hl g1
  clear ha' hA' g1
  go_wp2_with (refine alloc_store rfl rfl rfl (.tmp 6) (.tmp 36) rfl (frC ⟨tos, id, df, false, 0, ttl, pr, src, dst, opts, body⟩ (.slice a1 opts.length k1) (.slice a2 body.length k2) ⟨0, 0, 0, 0, 0, Inn.zero⟩) rfl rfl rfl (oneFr _ _ _ _ _ _ _ _) _ rfl ?_; rw [HW5.out])
  refine hu.mono ?_
  rintro e w6 ⟨rfl, hb6⟩
  have hu7 := below_alloc w6 (.cells (pcC Pc.zero (.slice none 0 0) (.slice none 0 0)) 69)
  have hb17 := below_trans H15.out (below_trans hb6 hu7)
  have T7 := HF.out.later (by omega) hb17
  have bel7 := below_trans HE.out hb17
  clear hu hb6 hu7 F5
  go_wp2_with fail
  refine (rwhy_any _ _).mono ?_
  rintro e w8 ⟨rfl, rfl⟩
  go_wp2_with (refine store_fr rfl (.tmp 2) (.tmp 80) rfl w.heap.size zeroFC rfl rfl (T7.there rfl) rfl oneZ ?_)
  refine bodyPost_ret (results_fr2 rfl _ _ w.heap.size _ rfl (range_set zeroFC.toList rfl (T7.there rfl)) rfl) rfl ?_
  exact ⟨rfl, setCells_below _ _ _ _ _ (Nat.le_refl _) bel7⟩

end Go.Proofs.Ytdejjokgchbgnaa

namespace Go.Proofs.Ytdejjokgchbgnaa
open Go.RowKit

set_option maxHeartbeats 1000000 in
theorem flong_any (b off len cap : Nat) (l : List Int) (q : Int) (k : Nat) (w : World) (hA : At w b off len cap l) (hq : q = (k : Int)) (hk : k + 4 ≤ len) (hl : len ≤ 140737488351232) :
    Calls Try.prog 22 #[.slice (some ⟨b, off, none⟩) len cap, .int .i64 q] w fun e w' => e = .returned (.int .u32 (w4 l k)) ∧ ∃ nq, w' = w.drewN nq := by
  subst hq
  have hL := hA.len
  have c0 := hA.sees k (by omega)
  obtain ⟨k1, hk1⟩ : ∃ k1, k + 1 = k1 := ⟨_, rfl⟩
  obtain ⟨k2, hk2⟩ : ∃ k2, k + 2 = k2 := ⟨_, rfl⟩
  obtain ⟨k3, hk3⟩ : ∃ k3, k + 3 = k3 := ⟨_, rfl⟩
  have c1 := hA.sees k1 (by omega)
  have c2 := hA.sees k2 (by omega)
  have c3 := hA.sees k3 (by omega)
  have b0 := getD_byte l hA.bytes k
  have b1 := getD_byte l hA.bytes k1
  have b2 := getD_byte l hA.bytes k2
  have b3 := getD_byte l hA.bytes k3
  have HW : Hid (w4 l k = ((l.getD k 0 * 256 + l.getD k1 0) * 256 + l.getD k2 0) * 256 + l.getD k3 0) := by show _ = _; rw [← hk1, ← hk2, ← hk3]; rfl
  generalize l.getD k 0 = x at *
  generalize l.getD k1 0 = y at *
  generalize l.getD k2 0 = z at *
  generalize l.getD k3 0 = t at *
  obtain ⟨x0, x1⟩ := b0
  obtain ⟨y0, y1⟩ := b1
  obtain ⟨z0, z1⟩ := b2
  obtain ⟨t0, t1⟩ := b3
  have hor1 : bits .or .u32 (x * 16777216) (y * 65536) = x * 16777216 + y * 65536 := or_u32 24 _ _ (by omega) (by omega) (by omega) (by omega) (by omega) (by omega)
  have hor2 : bits .or .u32 (x * 16777216 + y * 65536) (z * 256) = x * 16777216 + y * 65536 + z * 256 := or_u32 16 _ _ (by omega) (by omega) (by omega) (by omega) (by omega) (by omega)
  have hor3 : bits .or .u32 (x * 16777216 + y * 65536 + z * 256) t = x * 16777216 + y * 65536 + z * 256 + t := or_u32 8 _ _ (by omega) (by omega) (by omega) (by omega) (by omega) (by omega)
  have i0 : (k : Int) < (len : Int) := by omega
  have i1 : (k1 : Int) < (len : Int) := by omega
  have i2 : (k2 : Int) < (len : Int) := by omega
  have i3 : (k3 : Int) < (len : Int) := by omega
  have u1 : IntKind.i64.wrap ((k : Int) + 1) = (k1 : Int) := by rw [i64_id _ (by omega) (by omega)]; omega
  have u2 : IntKind.i64.wrap ((k : Int) + 2) = (k2 : Int) := by rw [i64_id _ (by omega) (by omega)]; omega
  have u3 : IntKind.i64.wrap ((k : Int) + 3) = (k3 : Int) := by rw [i64_id _ (by omega) (by omega)]; omega
  have v1 : IntKind.u32.wrap x = x := u32_id _ (by omega) (by omega)
  have v2 : IntKind.u32.wrap y = y := u32_id _ (by omega) (by omega)
  have v3 : IntKind.u32.wrap z = z := u32_id _ (by omega) (by omega)
  have v4 : IntKind.u32.wrap t = t := u32_id _ (by omega) (by omega)
  have v5 : IntKind.u32.wrap (x * 16777216) = x * 16777216 := u32_id _ (by omega) (by omega)
  have v6 : IntKind.u32.wrap (y * 65536) = y * 65536 := u32_id _ (by omega) (by omega)
  have v7 : IntKind.u32.wrap (z * 256) = z * 256 := u32_id _ (by omega) (by omega)
  clear hA hL hk1 hk2 hk3
  go_enter Try.func22, Try.ntmps22
  go_wp2
  go_quiet (fail)
  go_wp2
  go_ret
  exact ⟨ret_int (by rw [HW.out]; omega), _, rfl⟩
end Go.Proofs.Ytdejjokgchbgnaa

namespace Go.Proofs.Ytdejjokgchbgnaa
open Go.RowKit
attribute [local go_sem ↓] Go.wp_at_zero Go.wp_at_succ

@[reducible] def zeroIC : Array Value := #[.int .i64 0, .int .u32 0, .int .i64 0, .int .u32 0, .int .i64 0]

theorem flong_bel (b off len cap : Nat) (l : List Int) (q : Int) (k : Nat) (w : World) (hA : At w b off len cap l) (hq : q = (k : Int)) (hk : k + 4 ≤ len) (hl : len ≤ 140737488351232) :
    Calls Try.prog 22 #[.slice (some ⟨b, off, none⟩) len cap, .int .i64 q] w fun e w' => e = .returned (.int .u32 (w4 l k)) ∧ Below w.heap.size w w' := by
  refine (flong_any b off len cap l q k w hA hq hk hl).mono ?_
  rintro e w' ⟨rfl, nq, rfl⟩
  exact ⟨rfl, below_drewN (Below.refl _ _) _⟩

theorem rquote_short (a : Option Addr) (len cap : Nat) (w : World) (h : len < 20) :
    Calls Try.prog 16 #[.slice a len cap] w fun e w' => e = .returned (.tuple #[inV Inn.zero, .bool false]) ∧ Below w.heap.size w w' := by
  have h' : (len : Int) < 20 := by omega
  go_enter Try.func16, Try.ntmps16
  go_wp2
  refine bodyPost_ret (v := .tuple #[inV Inn.zero, .bool false]) ?_ rfl ?_
  · simp [results, Try.results16, go_sem, Inn.zero]
  exact ⟨rfl, below_alloc _ _⟩

theorem rquote_ver (b off len cap : Nat) (l : List Int) (w : World) (hA : At w b off len cap l) (g2 : 20 ≤ len) (h : b1 l 0 / 16 ≠ 4) :
    Calls Try.prog 16 #[.slice (some ⟨b, off, none⟩) len cap] w fun e w' => e = .returned (.tuple #[inV Inn.zero, .bool false]) ∧ Below w.heap.size w w' := by
  have h' : ¬ (len : Int) < 20 := by omega
  have l0 : 0 < len := by omega
  have c0 : (w.alloc (.cells zeroIC 35)).cell? ⟨b, off, none⟩ = some (.int .u8 (b1 l 0)) := cell_later (below_alloc _ _) (hA.sees 0 (by rw [hA.len]; omega))
  have hv : (b1 l 0 / 16 != 4) = true := by rw [bne_iff_ne]; exact h
  obtain ⟨x0, y0⟩ := b1_bd l hA.bytes 0
  clear h hA
  go_enter Try.func16, Try.ntmps16
  go_wp2
  refine bodyPost_ret (v := .tuple #[inV Inn.zero, .bool false]) ?_ rfl ?_
  · simp [results, Try.results16, go_sem, Inn.zero]
  exact ⟨rfl, below_alloc _ _⟩

theorem rquote_few (b off len cap : Nat) (l : List Int) (w : World) (hA : At w b off len cap l) (g2 : 20 ≤ len) (g3 : b1 l 0 / 16 = 4) (h : hdOf l < 20) :
    Calls Try.prog 16 #[.slice (some ⟨b, off, none⟩) len cap] w fun e w' => e = .returned (.tuple #[inV Inn.zero, .bool false]) ∧ Below w.heap.size w w' := by
  have h' : ¬ (len : Int) < 20 := by omega
  have l0 : 0 < len := by omega
  have c0 : (w.alloc (.cells zeroIC 35)).cell? ⟨b, off, none⟩ = some (.int .u8 (b1 l 0)) := cell_later (below_alloc _ _) (hA.sees 0 (by rw [hA.len]; omega))
  have hv : (b1 l 0 / 16 != 4) = false := by rw [g3]; rfl
  obtain ⟨x0, y0⟩ := b1_bd l hA.bytes 0
  have hd : b1 l 0 % 16 < 5 := by unfold hdOf at h; omega
  clear h hA
  go_enter Try.func16, Try.ntmps16
  go_wp2
  refine bodyPost_ret (v := .tuple #[inV Inn.zero, .bool false]) ?_ rfl ?_
  · simp [results, Try.results16, go_sem, Inn.zero]
  exact ⟨rfl, below_alloc _ _⟩

theorem rquote_len (b off len cap : Nat) (l : List Int) (w : World) (hA : At w b off len cap l) (g2 : 20 ≤ len) (g3 : b1 l 0 / 16 = 4) (g4 : 20 ≤ hdOf l) (h : (len : Int) < hdOf l + 8) :
    Calls Try.prog 16 #[.slice (some ⟨b, off, none⟩) len cap] w fun e w' => e = .returned (.tuple #[inV Inn.zero, .bool false]) ∧ Below w.heap.size w w' := by
  have h' : ¬ (len : Int) < 20 := by omega
  have l0 : 0 < len := by omega
  have c0 : (w.alloc (.cells zeroIC 35)).cell? ⟨b, off, none⟩ = some (.int .u8 (b1 l 0)) := cell_later (below_alloc _ _) (hA.sees 0 (by rw [hA.len]; omega))
  have hv : (b1 l 0 / 16 != 4) = false := by rw [g3]; rfl
  obtain ⟨x0, y0⟩ := b1_bd l hA.bytes 0
  have hd : ¬ b1 l 0 % 16 < 5 := by unfold hdOf at g4; omega
  unfold hdOf at h
  clear hA g4
  go_enter Try.func16, Try.ntmps16
  go_wp2
  refine bodyPost_ret (v := .tuple #[inV Inn.zero, .bool false]) ?_ rfl ?_
  · simp [results, Try.results16, go_sem, Inn.zero]
  exact ⟨rfl, below_alloc _ _⟩

theorem off_bytes (l : List Int) (hb : isBytes l) : w2 l 6 % 8192 = b1 l 6 % 32 * 256 + b1 l 7 := by
  have h1 := getD_byte l hb 6
  have h2 := getD_byte l hb 7
  unfold w2 b1
  show (l.getD 6 0 * 256 + l.getD 7 0) % 8192 = _
  omega

theorem mask5b (x : Int) (h0 : 0 ≤ x) (h1 : x < 256) : bits .and .u8 x 31 = x % 32 := mask_u8 5 (by decide) x h0 (by omega)

set_option maxHeartbeats 1000000 in
theorem rquote_off (b off len cap : Nat) (l : List Int) (w : World) (hA : At w b off len cap l) (g : Head l) (h : ¬ w2 l 6 % 8192 = 0) :
    Calls Try.prog 16 #[.slice (some ⟨b, off, none⟩) len cap] w fun e w' => e = .returned (.tuple #[inV Inn.zero, .bool false]) ∧ Below w.heap.size w w' := by
  have hL := hA.len
  rw [off_bytes l hA.bytes] at h
  obtain ⟨g1, g2, g3, g4⟩ := g
  rw [hL] at g1 g4
  unfold hdOf at g3 g4
  have h' : ¬ (len : Int) < 20 := by omega
  have l0 : 0 < len := by omega
  have l6 : (6 : Int) < (len : Int) := by omega
  have l7 : (7 : Int) < (len : Int) := by omega
  have c0 : (w.alloc (.cells zeroIC 35)).cell? ⟨b, off, none⟩ = some (.int .u8 (b1 l 0)) := cell_later (below_alloc _ _) (hA.sees 0 (by rw [hA.len]; omega))
  have c6 : (w.alloc (.cells zeroIC 35)).cell? ⟨b, off + 6, none⟩ = some (.int .u8 (b1 l 6)) := cell_later (below_alloc _ _) (hA.sees 6 (by rw [hA.len]; omega))
  have c7 : (w.alloc (.cells zeroIC 35)).cell? ⟨b, off + 7, none⟩ = some (.int .u8 (b1 l 7)) := cell_later (below_alloc _ _) (hA.sees 7 (by rw [hA.len]; omega))
  have hv : (b1 l 0 / 16 != 4) = false := by rw [g2]; rfl
  obtain ⟨x0, y0⟩ := b1_bd l hA.bytes 0
  obtain ⟨x6, y6⟩ := b1_bd l hA.bytes 6
  obtain ⟨x7, y7⟩ := b1_bd l hA.bytes 7
  have hd : ¬ b1 l 0 % 16 < 5 := by omega
  have he : ¬ (len : Int) < b1 l 0 % 16 * 4 + 8 := by omega
  by_cases h6 : b1 l 6 % 32 = 0
  · have h6' : (b1 l 6 % 32 != 0) = false := by rw [h6]; rfl
    have h7' : (b1 l 7 != 0) = true := by rw [bne_iff_ne]; omega
    clear hA g1 g2 g3 g4 h h6 hL
    go_enter Try.func16, Try.ntmps16
    go_wp2
    refine bodyPost_ret (v := .tuple #[inV Inn.zero, .bool false]) ?_ rfl ?_
    · simp [results, Try.results16, go_sem, Inn.zero]
    exact ⟨rfl, below_alloc _ _⟩
  · have h6' : (b1 l 6 % 32 != 0) = true := by rw [bne_iff_ne]; exact h6
    clear hA g1 g2 g3 g4 h h6 hL
    go_enter Try.func16, Try.ntmps16
    go_wp2
    refine bodyPost_ret (v := .tuple #[inV Inn.zero, .bool false]) ?_ rfl ?_
    · simp [results, Try.results16, go_sem, Inn.zero]
    exact ⟨rfl, below_alloc _ _⟩
end Go.Proofs.Ytdejjokgchbgnaa

namespace Go.Proofs.Ytdejjokgchbgnaa
open Go.RowKit
attribute [local go_sem ↓] Go.wp_at_zero Go.wp_at_succ

/-- A world where the result's cells and the variable's lie in two blocks of their own. -/
structure RQ (w W : World) (b off len cap : Nat) (l : List Int) (x : Inn) : Prop where
  bel : Below w.heap.size w W
  at_ : At W b off len cap l
  lt : b < w.heap.size
  r : W.cell? ⟨w.heap.size, 0, none⟩ = some (.int .i64 0) ∧ W.cell? ⟨w.heap.size, 1, none⟩ = some (.int .u32 0) ∧ W.cell? ⟨w.heap.size, 2, none⟩ = some (.int .i64 0) ∧ W.cell? ⟨w.heap.size, 3, none⟩ = some (.int .u32 0) ∧ W.cell? ⟨w.heap.size, 4, none⟩ = some (.int .i64 0)
  x : W.cell? ⟨w.heap.size + 1, 0, none⟩ = some (.int .i64 x.proto) ∧ W.cell? ⟨w.heap.size + 1, 1, none⟩ = some (.int .u32 x.sa) ∧ W.cell? ⟨w.heap.size + 1, 2, none⟩ = some (.int .i64 x.sp) ∧ W.cell? ⟨w.heap.size + 1, 3, none⟩ = some (.int .u32 x.da) ∧ W.cell? ⟨w.heap.size + 1, 4, none⟩ = some (.int .i64 x.dp)
  f : ∀ i, W.frozen? ⟨w.heap.size, i, none⟩ = false
  g : ∀ i, W.frozen? ⟨w.heap.size + 1, i, none⟩ = false

theorem rq_new {w : World} {b off len cap : Nat} {l : List Int} (hA : At w b off len cap l) (h0 : 0 < len) (p s d : Int) (t : TypeId) (n : Nat) :
    ∃ W, W = (((w.alloc (.cells zeroIC t)).alloc (.cells #[.int .i64 p, .int .u32 s, .int .i64 0, .int .u32 d, .int .i64 0] t)).drewN n) ∧ RQ w W b off len cap l ⟨p, s, 0, d, 0⟩ := by
  refine ⟨_, rfl, ?_⟩
  have hb := below_drewN (below_trans (below_alloc w (.cells zeroIC t)) (below_alloc _ (.cells #[.int .i64 p, .int .u32 s, .int .i64 0, .int .u32 d, .int .i64 0] t))) n
  have hlt : b < w.heap.size := World.block_lt_of_cell? _ _ (hA.sees 0 (by rw [hA.len]; exact h0))
  have k0 : ∀ i v, zeroIC[i]? = some v → (((w.alloc (.cells zeroIC t)).alloc (.cells #[.int .i64 p, .int .u32 s, .int .i64 0, .int .u32 d, .int .i64 0] t)).drewN n).cell? ⟨w.heap.size, i, none⟩ = some v := by
    intro i v hv
    have : ((w.alloc (.cells zeroIC t)).alloc (.cells #[.int .i64 p, .int .u32 s, .int .i64 0, .int .u32 d, .int .i64 0] t)).cell? ⟨w.heap.size, i, none⟩ = some v := by
      refine cell_later (below_alloc _ _) ?_
      rw [World.cell?_alloc_mark w zeroIC t (0, 0) i]; exact hv
    exact this
  have k1 : ∀ i v, (#[.int .i64 p, .int .u32 s, .int .i64 0, .int .u32 d, .int .i64 0] : Array Value)[i]? = some v → (((w.alloc (.cells zeroIC t)).alloc (.cells #[.int .i64 p, .int .u32 s, .int .i64 0, .int .u32 d, .int .i64 0] t)).drewN n).cell? ⟨w.heap.size + 1, i, none⟩ = some v := by
    intro i v hv
    have := World.cell?_alloc_mark (w.alloc (.cells zeroIC t)) #[.int .i64 p, .int .u32 s, .int .i64 0, .int .u32 d, .int .i64 0] t (0, 0) i
    rw [show (w.alloc (.cells zeroIC t)).heap.size = w.heap.size + 1 by simp] at this
    rw [hv] at this
    exact this
  refine ⟨hb, hA.later hb, hlt, ⟨k0 0 _ rfl, k0 1 _ rfl, k0 2 _ rfl, k0 3 _ rfl, k0 4 _ rfl⟩, ⟨k1 0 _ rfl, k1 1 _ rfl, k1 2 _ rfl, k1 3 _ rfl, k1 4 _ rfl⟩, fun i => ?_, fun i => ?_⟩
  · show ((w.alloc (.cells zeroIC t)).alloc (.cells #[.int .i64 p, .int .u32 s, .int .i64 0, .int .u32 d, .int .i64 0] t)).frozen? ⟨w.heap.size, i, none⟩ = false
    rw [(below_alloc (w.alloc (.cells zeroIC t)) (.cells #[.int .i64 p, .int .u32 s, .int .i64 0, .int .u32 d, .int .i64 0] t)).frozen (by simp), World.frozen?_alloc_mark w zeroIC t 0 0 i]; simp
  · show ((w.alloc (.cells zeroIC t)).alloc (.cells #[.int .i64 p, .int .u32 s, .int .i64 0, .int .u32 d, .int .i64 0] t)).frozen? ⟨w.heap.size + 1, i, none⟩ = false
    have := World.frozen?_alloc_mark (w.alloc (.cells zeroIC t)) #[.int .i64 p, .int .u32 s, .int .i64 0, .int .u32 d, .int .i64 0] t 0 0 i
    rw [show (w.alloc (.cells zeroIC t)).heap.size = w.heap.size + 1 by simp] at this
    rw [this]; simp

theorem RQ.drew {w W : World} {b off len cap : Nat} {l : List Int} {x : Inn} (h : RQ w W b off len cap l x) : RQ w W.drew b off len cap l x :=
  ⟨below_drewN h.bel 1, h.at_.later (below_drewN (Below.refl _ _) 1), h.lt, h.r, h.x, h.f, h.g⟩

theorem RQ.sp {w W : World} {b off len cap : Nat} {l : List Int} {x : Inn} (h : RQ w W b off len cap l x) (v : Int) : RQ w (W.setCell ⟨w.heap.size + 1, 2, none⟩ (.int .i64 v)) b off len cap l { x with sp := v } := by
  have hA := h.at_
  have hlt := h.lt
  have far : ∀ (c : Nat) (j : Nat), c < w.heap.size + 1 → (W.setCell ⟨w.heap.size + 1, 2, none⟩ (.int .i64 v)).cell? ⟨c, j, none⟩ = W.cell? ⟨c, j, none⟩ := fun c j hc => World.cell?_setCell_far W ⟨w.heap.size + 1, 2, none⟩ ⟨c, j, none⟩ _ (by show w.heap.size + 1 ≠ c; omega)
  obtain ⟨r0, r1, r2, r3, r4⟩ := h.r
  obtain ⟨x0, x1, x2, x3, x4⟩ := h.x
  have hf := h.f
  have hg := h.g
  refine ⟨h.bel.setCell (Nat.le_succ _) _, ⟨hA.cap1, hA.cap2, hA.len, hA.bytes, fun i hi => by rw [far _ _ (by omega)]; exact hA.sees i hi⟩, hlt, ?_, ?_, fun i => ?_, fun i => ?_⟩
  · simp only [far _ _ (Nat.lt_succ_self _)]; exact ⟨r0, r1, r2, r3, r4⟩
  · refine ⟨?_, ?_, ?_, ?_, ?_⟩ <;> simp [go_sem, x0, x1, x2, x3, x4]
  · simp [go_sem, hf]
  · simp [go_sem, hg]

theorem RQ.dp {w W : World} {b off len cap : Nat} {l : List Int} {x : Inn} (h : RQ w W b off len cap l x) (v : Int) : RQ w (W.setCell ⟨w.heap.size + 1, 4, none⟩ (.int .i64 v)) b off len cap l { x with dp := v } := by
  have hA := h.at_
  have hlt := h.lt
  have far : ∀ (c : Nat) (j : Nat), c < w.heap.size + 1 → (W.setCell ⟨w.heap.size + 1, 4, none⟩ (.int .i64 v)).cell? ⟨c, j, none⟩ = W.cell? ⟨c, j, none⟩ := fun c j hc => World.cell?_setCell_far W ⟨w.heap.size + 1, 4, none⟩ ⟨c, j, none⟩ _ (by show w.heap.size + 1 ≠ c; omega)
  obtain ⟨r0, r1, r2, r3, r4⟩ := h.r
  obtain ⟨x0, x1, x2, x3, x4⟩ := h.x
  have hf := h.f
  have hg := h.g
  refine ⟨h.bel.setCell (Nat.le_succ _) _, ⟨hA.cap1, hA.cap2, hA.len, hA.bytes, fun i hi => by rw [far _ _ (by omega)]; exact hA.sees i hi⟩, hlt, ?_, ?_, fun i => ?_, fun i => ?_⟩
  · simp only [far _ _ (Nat.lt_succ_self _)]; exact ⟨r0, r1, r2, r3, r4⟩
  · refine ⟨?_, ?_, ?_, ?_, ?_⟩ <;> simp [go_sem, x0, x1, x2, x3, x4]
  · simp [go_sem, hf]
  · simp [go_sem, hg]

set_option maxHeartbeats 8000000 in
theorem rquote_other (b off len cap : Nat) (l : List Int) (w : World) (hA : At w b off len cap l) (hl : len ≤ 140737488351232) (g : Head l) (h : w2 l 6 % 8192 = 0) (n17 : ¬ b1 l 9 = 17) (n6 : ¬ b1 l 9 = 6) (n1 : ¬ b1 l 9 = 1) :
    Calls Try.prog 16 #[.slice (some ⟨b, off, none⟩) len cap] w fun e w' => e = .returned (.tuple #[inV Inn.zero, .bool false]) ∧ Below w.heap.size w w' := by
  have sd := set_drewN
  have ad := alloc_drewN
  have hL := hA.len
  rw [off_bytes l hA.bytes] at h
  obtain ⟨g1, g2, g3, g4⟩ := g
  rw [hL] at g1 g4
  unfold hdOf at g3 g4
  have h' : ¬ (len : Int) < 20 := by omega
  have l0 : 0 < len := by omega
  have l6 : (6 : Int) < (len : Int) := by omega
  have l7 : (7 : Int) < (len : Int) := by omega
  have l9 : (9 : Int) < (len : Int) := by omega
  have hA0 := hA.later (below_alloc w (.cells zeroIC 35))
  have c0 : (w.alloc (.cells zeroIC 35)).cell? ⟨b, off, none⟩ = some (.int .u8 (b1 l 0)) := hA0.sees 0 (by rw [hA.len]; omega)
  have c6 : (w.alloc (.cells zeroIC 35)).cell? ⟨b, off + 6, none⟩ = some (.int .u8 (b1 l 6)) := hA0.sees 6 (by rw [hA.len]; omega)
  have c7 : (w.alloc (.cells zeroIC 35)).cell? ⟨b, off + 7, none⟩ = some (.int .u8 (b1 l 7)) := hA0.sees 7 (by rw [hA.len]; omega)
  have c9 : (w.alloc (.cells zeroIC 35)).cell? ⟨b, off + 9, none⟩ = some (.int .u8 (b1 l 9)) := hA0.sees 9 (by rw [hA.len]; omega)
  have hv : (b1 l 0 / 16 != 4) = false := by rw [g2]; rfl
  obtain ⟨x0, y0⟩ := b1_bd l hA.bytes 0
  obtain ⟨x6, y6⟩ := b1_bd l hA.bytes 6
  obtain ⟨x7, y7⟩ := b1_bd l hA.bytes 7
  obtain ⟨x9, y9⟩ := b1_bd l hA.bytes 9
  have u9 : IntKind.i64.wrap (b1 l 9) = b1 l 9 := i64_id _ x9 (by omega)
  have hd : ¬ b1 l 0 % 16 < 5 := by omega
  have he : ¬ (len : Int) < b1 l 0 % 16 * 4 + 8 := by omega
  have h6' : (b1 l 6 % 32 != 0) = false := by simp; omega
  have h7' : (b1 l 7 != 0) = false := by simp; omega
  have q17 : (b1 l 9 == 17) = false := by simpa using n17
  have q6 : (b1 l 9 == 6) = false := by simpa using n6
  have q1 : (b1 l 9 == 1) = false := by simpa using n1
  have HA : Hid (At w b off len cap l) := hA
  clear hA g2 g3 g4 h hL n17 n6 n1
  go_enter Try.func16, Try.ntmps16
  go_wp2_with fail
  go_region_held3 (fun w' => w'.cell? ⟨b, off + 9, none⟩ = some (.int .u8 (b1 l 9))) (first | exact c9 | go_keep)
    (first
      | (go_at_call_of 22 (Value.int .i64 12); refine (flong_any b off len cap l 12 12 _ (by first | exact hA0.later (below_drewN (Below.refl _ _) _) | exact hA0.later (below_drewN (below_alloc _ _) _)) rfl (by omega) hl).mono ?_; rintro e w4 ⟨rfl, n4, rfl⟩)
      | (go_at_call_of 22 (Value.int .i64 16); refine (flong_any b off len cap l 16 16 _ (by first | exact hA0.later (below_drewN (Below.refl _ _) _) | exact hA0.later (below_drewN (below_alloc _ _) _)) rfl (by omega) hl).mono ?_; rintro e w5 ⟨rfl, n5, rfl⟩))
  all_goals
    obtain ⟨W, hW, R⟩ := rq_new HA.out l0 (b1 l 9) (w4 l 12) (w4 l 16) 35 (1 + n4 + n5)
    rw [← hW]
    clear hW hA0 c0 c6 c7 c9
    obtain ⟨r0, r1, r2, r3, r4⟩ := R.r
    obtain ⟨x0, x1, x2, x3, x4⟩ := R.x
    have hf := R.f
    have bel := laidI_below R.bel Inn.zero
    clear R
    go_wp2
    refine bodyPost_ret (v := .tuple #[inV Inn.zero, .bool false]) ?_ rfl ?_
    · simp [results, Try.results16, go_sem, Inn.zero, r0, r1, r2, r3, r4]
    exact ⟨rfl, bel⟩
end Go.Proofs.Ytdejjokgchbgnaa

namespace Go.Proofs.Ytdejjokgchbgnaa
open Go.RowKit
attribute [local go_sem ↓] Go.wp_at_zero Go.wp_at_succ

/-- Two bytes, in the walk's own words. -/
theorem two_bytes (x y : Int) (hx : 0 ≤ x ∧ x < 256) (hy : 0 ≤ y ∧ y < 256) : bits .or .i64 (x * 256) y = x * 256 + y ∧ IntKind.i64.wrap x = x ∧ IntKind.i64.wrap (x * 256) = x * 256 ∧ IntKind.i64.wrap y = y := by
  obtain ⟨x0, x1⟩ := hx
  obtain ⟨y0, y1⟩ := hy
  exact ⟨or_i64 8 (x * 256) y (by omega) (by omega) (by omega) y0 (by omega) (by omega), i64_id _ (by omega) (by omega), i64_id _ (by omega) (by omega), i64_id _ (by omega) (by omega)⟩
end Go.Proofs.Ytdejjokgchbgnaa

namespace Go.Proofs.Ytdejjokgchbgnaa
open Go.RowKit
attribute [local go_sem ↓] Go.wp_at_zero Go.wp_at_succ


set_option maxHeartbeats 8000000 in
theorem rquote_17 (b off len cap : Nat) (l : List Int) (w : World) (hA : At w b off len cap l) (hl : len ≤ 140737488351232) (g : Head l) (h : w2 l 6 % 8192 = 0) (h0 : Nat) (hh : hdOf l = (h0 : Int)) (hp : b1 l 9 = 17) :
    Calls Try.prog 16 #[.slice (some ⟨b, off, none⟩) len cap] w fun e w' => e = .returned (.tuple #[inV (innOf l (w2 l h0, w2 l (h0 + 2))), .bool true]) ∧ Below w.heap.size w w' := by
  have sd := set_drewN
  have ad := alloc_drewN
  have hL := hA.len
  rw [off_bytes l hA.bytes] at h
  obtain ⟨g1, g2, g3, g4⟩ := g
  rw [hL] at g1 g4
  unfold hdOf at g3 g4
  have h' : ¬ (len : Int) < 20 := by omega
  have l0 : 0 < len := by omega
  have l6 : (6 : Int) < (len : Int) := by omega
  have l7 : (7 : Int) < (len : Int) := by omega
  have l9 : (9 : Int) < (len : Int) := by omega
  have hA0 := hA.later (below_alloc w (.cells zeroIC 35))
  have c0 : (w.alloc (.cells zeroIC 35)).cell? ⟨b, off, none⟩ = some (.int .u8 (b1 l 0)) := hA0.sees 0 (by rw [hA.len]; omega)
  have c6 : (w.alloc (.cells zeroIC 35)).cell? ⟨b, off + 6, none⟩ = some (.int .u8 (b1 l 6)) := hA0.sees 6 (by rw [hA.len]; omega)
  have c7 : (w.alloc (.cells zeroIC 35)).cell? ⟨b, off + 7, none⟩ = some (.int .u8 (b1 l 7)) := hA0.sees 7 (by rw [hA.len]; omega)
  have c9 : (w.alloc (.cells zeroIC 35)).cell? ⟨b, off + 9, none⟩ = some (.int .u8 (b1 l 9)) := hA0.sees 9 (by rw [hA.len]; omega)
  have hv : (b1 l 0 / 16 != 4) = false := by rw [g2]; rfl
  obtain ⟨x0, y0⟩ := b1_bd l hA.bytes 0
  obtain ⟨x6, y6⟩ := b1_bd l hA.bytes 6
  obtain ⟨x7, y7⟩ := b1_bd l hA.bytes 7
  obtain ⟨x9, y9⟩ := b1_bd l hA.bytes 9
  have u9 : IntKind.i64.wrap (b1 l 9) = b1 l 9 := i64_id _ x9 (by omega)
  have hd : ¬ b1 l 0 % 16 < 5 := by omega
  have he : ¬ (len : Int) < b1 l 0 % 16 * 4 + 8 := by omega
  have h6' : (b1 l 6 % 32 != 0) = false := by simp; omega
  have h7' : (b1 l 7 != 0) = false := by simp; omega
  have HA : Hid (At w b off len cap l) := hA
  have hB := hA.bytes
  obtain ⟨h1, e1⟩ : ∃ h1, h0 + 1 = h1 := ⟨_, rfl⟩
  obtain ⟨h2, e2⟩ : ∃ h2, h0 + 2 = h2 := ⟨_, rfl⟩
  obtain ⟨h3, e3⟩ : ∃ h3, h0 + 3 = h3 := ⟨_, rfl⟩
  obtain ⟨h4, e4⟩ : ∃ h4, h0 + 4 = h4 := ⟨_, rfl⟩
  obtain ⟨h5, e5⟩ : ∃ h5, h0 + 5 = h5 := ⟨_, rfl⟩
  have hh' : b1 l 0 % 16 * 4 = (h0 : Int) := hh
  have hlt : h0 + 8 ≤ len := by omega
  have i0 : (h0 : Int) < (len : Int) := by omega
  have i1 : (h1 : Int) < (len : Int) := by omega
  have i2 : (h2 : Int) < (len : Int) := by omega
  have i3 : (h3 : Int) < (len : Int) := by omega
  have i4 : (h4 : Int) < (len : Int) := by omega
  have i5 : (h5 : Int) < (len : Int) := by omega
  have v1 : IntKind.i64.wrap ((h0 : Int) + 1) = (h1 : Int) := by rw [i64_id _ (by omega) (by omega)]; omega
  have v2 : IntKind.i64.wrap ((h0 : Int) + 2) = (h2 : Int) := by rw [i64_id _ (by omega) (by omega)]; omega
  have v3 : IntKind.i64.wrap ((h0 : Int) + 3) = (h3 : Int) := by rw [i64_id _ (by omega) (by omega)]; omega
  have v4 : IntKind.i64.wrap ((h0 : Int) + 4) = (h4 : Int) := by rw [i64_id _ (by omega) (by omega)]; omega
  have v5 : IntKind.i64.wrap ((h0 : Int) + 5) = (h5 : Int) := by rw [i64_id _ (by omega) (by omega)]; omega
  have HS : Hid (h0 + 8 ≤ l.length) := by show _ ≤ _; omega
  have HP : Hid (b1 l 9 = 17) := hp
  have he : ¬ (len : Int) < (h0 : Int) + 8 := by omega
  obtain ⟨z0, k0⟩ : ∃ z, l.getD h0 0 = z := ⟨_, rfl⟩
  obtain ⟨z1, k1⟩ : ∃ z, l.getD h1 0 = z := ⟨_, rfl⟩
  obtain ⟨z2, k2⟩ : ∃ z, l.getD h2 0 = z := ⟨_, rfl⟩
  obtain ⟨z3, k3⟩ : ∃ z, l.getD h3 0 = z := ⟨_, rfl⟩
  have a0 := getD_byte l hB h0
  have a1 := getD_byte l hB h1
  have a2 := getD_byte l hB h2
  have a3 := getD_byte l hB h3
  rw [k0] at a0
  rw [k1] at a1
  rw [k2] at a2
  rw [k3] at a3
  obtain ⟨o1, p1, p2, p3⟩ := two_bytes z0 z1 a0 a1
  obtain ⟨o2, p4, p5, p6⟩ := two_bytes z2 z3 a2 a3
  obtain ⟨b00, b01⟩ := a0
  obtain ⟨b10, b11⟩ := a1
  obtain ⟨b20, b21⟩ := a2
  obtain ⟨b30, b31⟩ := a3
  have HF : Hid (w2 l h0 = z0 * 256 + z1) := by show _ = _; rw [← k0, ← k1, ← e1]; rfl
  have HT : Hid (w2 l (h0 + 2) = z2 * 256 + z3) := by show _ = _; rw [← k2, ← k3, ← e2, ← e3]; rfl
  have HE : Hid ((h0 + 1 = h1 ∧ h0 + 2 = h2 ∧ h0 + 3 = h3) ∧ l.getD h0 0 = z0 ∧ l.getD h1 0 = z1 ∧ l.getD h2 0 = z2 ∧ l.getD h3 0 = z3) := ⟨⟨e1, e2, e3⟩, k0, k1, k2, k3⟩
  clear hA g2 g3 g4 h hL hh e1 e2 e3 e4 e5 hlt hp hB k0 k1 k2 k3
  go_enter Try.func16, Try.ntmps16
  go_wp2_with fail
  go_region_held3 (fun w' => w'.cell? ⟨b, off + 9, none⟩ = some (.int .u8 (b1 l 9))) (first | exact c9 | go_keep)
    (first
      | (go_at_call_of 22 (Value.int .i64 12); refine (flong_any b off len cap l 12 12 _ (by first | exact hA0.later (below_drewN (Below.refl _ _) _) | exact hA0.later (below_drewN (below_alloc _ _) _)) rfl (by omega) hl).mono ?_; rintro e w4 ⟨rfl, n4, rfl⟩)
      | (go_at_call_of 22 (Value.int .i64 16); refine (flong_any b off len cap l 16 16 _ (by first | exact hA0.later (below_drewN (Below.refl _ _) _) | exact hA0.later (below_drewN (below_alloc _ _) _)) rfl (by omega) hl).mono ?_; rintro e w5 ⟨rfl, n5, rfl⟩))
  all_goals
    obtain ⟨W, hW, R⟩ := rq_new HA.out l0 (b1 l 9) (w4 l 12) (w4 l 16) 35 (1 + n4 + n5)
    rw [← hW]
    clear hW hA0 c0 c6 c7 c9
    have q17 := HP.out
    have s0 : W.cell? ⟨b, off + h0, none⟩ = some (.int .u8 z0) := by have := R.at_.sees h0 (by have := HS.out; omega); rwa [HE.out.2.1] at this
    have s1 : W.cell? ⟨b, off + h1, none⟩ = some (.int .u8 z1) := by have := R.at_.sees h1 (by have := HS.out; have := HE.out.1; omega); rwa [HE.out.2.2.1] at this
    obtain ⟨x0, x1, x2, x3, x4⟩ := R.x
    have hg := R.g
    have HR : Hid (RQ w W b off len cap l ⟨b1 l 9, w4 l 12, 0, w4 l 16, 0⟩) := R
    clear R
    go_wp2
    go_region
    obtain ⟨W2, hW2, R2⟩ : ∃ W2, W2 = (W.setCell ⟨w.heap.size + 1, 2, none⟩ (.int .i64 (z0 * 256 + z1))).drew ∧ RQ w W2 b off len cap l ⟨b1 l 9, w4 l 12, z0 * 256 + z1, w4 l 16, 0⟩ := ⟨_, rfl, (HR.out.sp _).drew⟩
    rw [← hW2]
    clear hW2 s0 s1 x0 x1 x2 x3 x4 hg HR
    have s2 : W2.cell? ⟨b, off + h2, none⟩ = some (.int .u8 z2) := by have := R2.at_.sees h2 (by have := HS.out; have := HE.out.1; omega); rwa [HE.out.2.2.2.1] at this
    have s3 : W2.cell? ⟨b, off + h3, none⟩ = some (.int .u8 z3) := by have := R2.at_.sees h3 (by have := HS.out; have := HE.out.1; omega); rwa [HE.out.2.2.2.2] at this
    obtain ⟨x0, x1, x2, x3, x4⟩ := R2.x
    have hg := R2.g
    have HR : Hid (RQ w W2 b off len cap l ⟨b1 l 9, w4 l 12, z0 * 256 + z1, w4 l 16, 0⟩) := R2
    clear R2
    go_wp2
    go_region
    obtain ⟨W3, hW3, R3⟩ : ∃ W3, W3 = (W2.setCell ⟨w.heap.size + 1, 4, none⟩ (.int .i64 (z2 * 256 + z3))).drew ∧ RQ w W3 b off len cap l ⟨b1 l 9, w4 l 12, z0 * 256 + z1, w4 l 16, z2 * 256 + z3⟩ := ⟨_, rfl, (HR.out.dp _).drew⟩
    rw [← hW3]
    clear hW3 s2 s3 x0 x1 x2 x3 x4 hg HR
    obtain ⟨r0, r1, r2, r3, r4⟩ := R3.r
    obtain ⟨x0, x1, x2, x3, x4⟩ := R3.x
    have hf := R3.f
    have bel := laidI_below R3.bel ⟨b1 l 9, w4 l 12, z0 * 256 + z1, w4 l 16, z2 * 256 + z3⟩
    clear R3
    go_wp2
    refine bodyPost_ret (v := .tuple #[inV (innOf l (w2 l h0, w2 l (h0 + 2))), .bool true]) ?_ rfl ?_
    · simp [results, Try.results16, go_sem, innOf, HF.out, HT.out, r0, r1, r2, r3, r4, q17]
    exact ⟨rfl, by rw [q17] at bel; exact bel⟩
end Go.Proofs.Ytdejjokgchbgnaa

namespace Go.Proofs.Ytdejjokgchbgnaa
open Go.RowKit
attribute [local go_sem ↓] Go.wp_at_zero Go.wp_at_succ


set_option maxHeartbeats 8000000 in
theorem rquote_6 (b off len cap : Nat) (l : List Int) (w : World) (hA : At w b off len cap l) (hl : len ≤ 140737488351232) (g : Head l) (h : w2 l 6 % 8192 = 0) (h0 : Nat) (hh : hdOf l = (h0 : Int)) (hp : b1 l 9 = 6) :
    Calls Try.prog 16 #[.slice (some ⟨b, off, none⟩) len cap] w fun e w' => e = .returned (.tuple #[inV (innOf l (w2 l h0, w2 l (h0 + 2))), .bool true]) ∧ Below w.heap.size w w' := by
  have sd := set_drewN
  have ad := alloc_drewN
  have hL := hA.len
  rw [off_bytes l hA.bytes] at h
  obtain ⟨g1, g2, g3, g4⟩ := g
  rw [hL] at g1 g4
  unfold hdOf at g3 g4
  have h' : ¬ (len : Int) < 20 := by omega
  have l0 : 0 < len := by omega
  have l6 : (6 : Int) < (len : Int) := by omega
  have l7 : (7 : Int) < (len : Int) := by omega
  have l9 : (9 : Int) < (len : Int) := by omega
  have hA0 := hA.later (below_alloc w (.cells zeroIC 35))
  have c0 : (w.alloc (.cells zeroIC 35)).cell? ⟨b, off, none⟩ = some (.int .u8 (b1 l 0)) := hA0.sees 0 (by rw [hA.len]; omega)
  have c6 : (w.alloc (.cells zeroIC 35)).cell? ⟨b, off + 6, none⟩ = some (.int .u8 (b1 l 6)) := hA0.sees 6 (by rw [hA.len]; omega)
  have c7 : (w.alloc (.cells zeroIC 35)).cell? ⟨b, off + 7, none⟩ = some (.int .u8 (b1 l 7)) := hA0.sees 7 (by rw [hA.len]; omega)
  have c9 : (w.alloc (.cells zeroIC 35)).cell? ⟨b, off + 9, none⟩ = some (.int .u8 (b1 l 9)) := hA0.sees 9 (by rw [hA.len]; omega)
  have hv : (b1 l 0 / 16 != 4) = false := by rw [g2]; rfl
  obtain ⟨x0, y0⟩ := b1_bd l hA.bytes 0
  obtain ⟨x6, y6⟩ := b1_bd l hA.bytes 6
  obtain ⟨x7, y7⟩ := b1_bd l hA.bytes 7
  obtain ⟨x9, y9⟩ := b1_bd l hA.bytes 9
  have u9 : IntKind.i64.wrap (b1 l 9) = b1 l 9 := i64_id _ x9 (by omega)
  have hd : ¬ b1 l 0 % 16 < 5 := by omega
  have he : ¬ (len : Int) < b1 l 0 % 16 * 4 + 8 := by omega
  have h6' : (b1 l 6 % 32 != 0) = false := by simp; omega
  have h7' : (b1 l 7 != 0) = false := by simp; omega
  have HA : Hid (At w b off len cap l) := hA
  have hB := hA.bytes
  obtain ⟨h1, e1⟩ : ∃ h1, h0 + 1 = h1 := ⟨_, rfl⟩
  obtain ⟨h2, e2⟩ : ∃ h2, h0 + 2 = h2 := ⟨_, rfl⟩
  obtain ⟨h3, e3⟩ : ∃ h3, h0 + 3 = h3 := ⟨_, rfl⟩
  obtain ⟨h4, e4⟩ : ∃ h4, h0 + 4 = h4 := ⟨_, rfl⟩
  obtain ⟨h5, e5⟩ : ∃ h5, h0 + 5 = h5 := ⟨_, rfl⟩
  have hh' : b1 l 0 % 16 * 4 = (h0 : Int) := hh
  have hlt : h0 + 8 ≤ len := by omega
  have i0 : (h0 : Int) < (len : Int) := by omega
  have i1 : (h1 : Int) < (len : Int) := by omega
  have i2 : (h2 : Int) < (len : Int) := by omega
  have i3 : (h3 : Int) < (len : Int) := by omega
  have i4 : (h4 : Int) < (len : Int) := by omega
  have i5 : (h5 : Int) < (len : Int) := by omega
  have v1 : IntKind.i64.wrap ((h0 : Int) + 1) = (h1 : Int) := by rw [i64_id _ (by omega) (by omega)]; omega
  have v2 : IntKind.i64.wrap ((h0 : Int) + 2) = (h2 : Int) := by rw [i64_id _ (by omega) (by omega)]; omega
  have v3 : IntKind.i64.wrap ((h0 : Int) + 3) = (h3 : Int) := by rw [i64_id _ (by omega) (by omega)]; omega
  have v4 : IntKind.i64.wrap ((h0 : Int) + 4) = (h4 : Int) := by rw [i64_id _ (by omega) (by omega)]; omega
  have v5 : IntKind.i64.wrap ((h0 : Int) + 5) = (h5 : Int) := by rw [i64_id _ (by omega) (by omega)]; omega
  have HS : Hid (h0 + 8 ≤ l.length) := by show _ ≤ _; omega
  have HP : Hid (b1 l 9 = 6) := hp
  have he : ¬ (len : Int) < (h0 : Int) + 8 := by omega
  obtain ⟨z0, k0⟩ : ∃ z, l.getD h0 0 = z := ⟨_, rfl⟩
  obtain ⟨z1, k1⟩ : ∃ z, l.getD h1 0 = z := ⟨_, rfl⟩
  obtain ⟨z2, k2⟩ : ∃ z, l.getD h2 0 = z := ⟨_, rfl⟩
  obtain ⟨z3, k3⟩ : ∃ z, l.getD h3 0 = z := ⟨_, rfl⟩
  have a0 := getD_byte l hB h0
  have a1 := getD_byte l hB h1
  have a2 := getD_byte l hB h2
  have a3 := getD_byte l hB h3
  rw [k0] at a0
  rw [k1] at a1
  rw [k2] at a2
  rw [k3] at a3
  obtain ⟨o1, p1, p2, p3⟩ := two_bytes z0 z1 a0 a1
  obtain ⟨o2, p4, p5, p6⟩ := two_bytes z2 z3 a2 a3
  obtain ⟨b00, b01⟩ := a0
  obtain ⟨b10, b11⟩ := a1
  obtain ⟨b20, b21⟩ := a2
  obtain ⟨b30, b31⟩ := a3
  have HF : Hid (w2 l h0 = z0 * 256 + z1) := by show _ = _; rw [← k0, ← k1, ← e1]; rfl
  have HT : Hid (w2 l (h0 + 2) = z2 * 256 + z3) := by show _ = _; rw [← k2, ← k3, ← e2, ← e3]; rfl
  have HE : Hid ((h0 + 1 = h1 ∧ h0 + 2 = h2 ∧ h0 + 3 = h3) ∧ l.getD h0 0 = z0 ∧ l.getD h1 0 = z1 ∧ l.getD h2 0 = z2 ∧ l.getD h3 0 = z3) := ⟨⟨e1, e2, e3⟩, k0, k1, k2, k3⟩
  clear hA g2 g3 g4 h hL hh e1 e2 e3 e4 e5 hlt hp hB k0 k1 k2 k3
  go_enter Try.func16, Try.ntmps16
  go_wp2_with fail
  go_region_held3 (fun w' => w'.cell? ⟨b, off + 9, none⟩ = some (.int .u8 (b1 l 9))) (first | exact c9 | go_keep)
    (first
      | (go_at_call_of 22 (Value.int .i64 12); refine (flong_any b off len cap l 12 12 _ (by first | exact hA0.later (below_drewN (Below.refl _ _) _) | exact hA0.later (below_drewN (below_alloc _ _) _)) rfl (by omega) hl).mono ?_; rintro e w4 ⟨rfl, n4, rfl⟩)
      | (go_at_call_of 22 (Value.int .i64 16); refine (flong_any b off len cap l 16 16 _ (by first | exact hA0.later (below_drewN (Below.refl _ _) _) | exact hA0.later (below_drewN (below_alloc _ _) _)) rfl (by omega) hl).mono ?_; rintro e w5 ⟨rfl, n5, rfl⟩))
  all_goals
    obtain ⟨W, hW, R⟩ := rq_new HA.out l0 (b1 l 9) (w4 l 12) (w4 l 16) 35 (1 + n4 + n5)
    rw [← hW]
    clear hW hA0 c0 c6 c7 c9
    have q17 := HP.out
    have s0 : W.cell? ⟨b, off + h0, none⟩ = some (.int .u8 z0) := by have := R.at_.sees h0 (by have := HS.out; omega); rwa [HE.out.2.1] at this
    have s1 : W.cell? ⟨b, off + h1, none⟩ = some (.int .u8 z1) := by have := R.at_.sees h1 (by have := HS.out; have := HE.out.1; omega); rwa [HE.out.2.2.1] at this
    obtain ⟨x0, x1, x2, x3, x4⟩ := R.x
    have hg := R.g
    have HR : Hid (RQ w W b off len cap l ⟨b1 l 9, w4 l 12, 0, w4 l 16, 0⟩) := R
    clear R
    go_wp2
    go_region
    obtain ⟨W2, hW2, R2⟩ : ∃ W2, W2 = (W.setCell ⟨w.heap.size + 1, 2, none⟩ (.int .i64 (z0 * 256 + z1))).drew ∧ RQ w W2 b off len cap l ⟨b1 l 9, w4 l 12, z0 * 256 + z1, w4 l 16, 0⟩ := ⟨_, rfl, (HR.out.sp _).drew⟩
    rw [← hW2]
    clear hW2 s0 s1 x0 x1 x2 x3 x4 hg HR
    have s2 : W2.cell? ⟨b, off + h2, none⟩ = some (.int .u8 z2) := by have := R2.at_.sees h2 (by have := HS.out; have := HE.out.1; omega); rwa [HE.out.2.2.2.1] at this
    have s3 : W2.cell? ⟨b, off + h3, none⟩ = some (.int .u8 z3) := by have := R2.at_.sees h3 (by have := HS.out; have := HE.out.1; omega); rwa [HE.out.2.2.2.2] at this
    obtain ⟨x0, x1, x2, x3, x4⟩ := R2.x
    have hg := R2.g
    have HR : Hid (RQ w W2 b off len cap l ⟨b1 l 9, w4 l 12, z0 * 256 + z1, w4 l 16, 0⟩) := R2
    clear R2
    go_wp2
    go_region
    obtain ⟨W3, hW3, R3⟩ : ∃ W3, W3 = (W2.setCell ⟨w.heap.size + 1, 4, none⟩ (.int .i64 (z2 * 256 + z3))).drew ∧ RQ w W3 b off len cap l ⟨b1 l 9, w4 l 12, z0 * 256 + z1, w4 l 16, z2 * 256 + z3⟩ := ⟨_, rfl, (HR.out.dp _).drew⟩
    rw [← hW3]
    clear hW3 s2 s3 x0 x1 x2 x3 x4 hg HR
    obtain ⟨r0, r1, r2, r3, r4⟩ := R3.r
    obtain ⟨x0, x1, x2, x3, x4⟩ := R3.x
    have hf := R3.f
    have bel := laidI_below R3.bel ⟨b1 l 9, w4 l 12, z0 * 256 + z1, w4 l 16, z2 * 256 + z3⟩
    clear R3
    go_wp2
    refine bodyPost_ret (v := .tuple #[inV (innOf l (w2 l h0, w2 l (h0 + 2))), .bool true]) ?_ rfl ?_
    · simp [results, Try.results16, go_sem, innOf, HF.out, HT.out, r0, r1, r2, r3, r4, q17]
    exact ⟨rfl, by rw [q17] at bel; exact bel⟩
end Go.Proofs.Ytdejjokgchbgnaa

namespace Go.Proofs.Ytdejjokgchbgnaa
open Go.RowKit
attribute [local go_sem ↓] Go.wp_at_zero Go.wp_at_succ


set_option maxHeartbeats 8000000 in
theorem rquote_type (b off len cap : Nat) (l : List Int) (w : World) (hA : At w b off len cap l) (hl : len ≤ 140737488351232) (g : Head l) (h : w2 l 6 % 8192 = 0) (h0 : Nat) (hh : hdOf l = (h0 : Int)) (hp : b1 l 9 = 1) (hq : ¬ b1 l h0 = 8 ∧ ¬ b1 l h0 = 0 ∧ b1 l (h0 + 1) = b1 l (h0 + 1)) :
    Calls Try.prog 16 #[.slice (some ⟨b, off, none⟩) len cap] w fun e w' => e = .returned (.tuple #[inV Inn.zero, .bool false]) ∧ Below w.heap.size w w' := by
  have sd := set_drewN
  have ad := alloc_drewN
  have hL := hA.len
  rw [off_bytes l hA.bytes] at h
  obtain ⟨g1, g2, g3, g4⟩ := g
  rw [hL] at g1 g4
  unfold hdOf at g3 g4
  have h' : ¬ (len : Int) < 20 := by omega
  have l0 : 0 < len := by omega
  have l6 : (6 : Int) < (len : Int) := by omega
  have l7 : (7 : Int) < (len : Int) := by omega
  have l9 : (9 : Int) < (len : Int) := by omega
  have hA0 := hA.later (below_alloc w (.cells zeroIC 35))
  have c0 : (w.alloc (.cells zeroIC 35)).cell? ⟨b, off, none⟩ = some (.int .u8 (b1 l 0)) := hA0.sees 0 (by rw [hA.len]; omega)
  have c6 : (w.alloc (.cells zeroIC 35)).cell? ⟨b, off + 6, none⟩ = some (.int .u8 (b1 l 6)) := hA0.sees 6 (by rw [hA.len]; omega)
  have c7 : (w.alloc (.cells zeroIC 35)).cell? ⟨b, off + 7, none⟩ = some (.int .u8 (b1 l 7)) := hA0.sees 7 (by rw [hA.len]; omega)
  have c9 : (w.alloc (.cells zeroIC 35)).cell? ⟨b, off + 9, none⟩ = some (.int .u8 (b1 l 9)) := hA0.sees 9 (by rw [hA.len]; omega)
  have hv : (b1 l 0 / 16 != 4) = false := by rw [g2]; rfl
  obtain ⟨x0, y0⟩ := b1_bd l hA.bytes 0
  obtain ⟨x6, y6⟩ := b1_bd l hA.bytes 6
  obtain ⟨x7, y7⟩ := b1_bd l hA.bytes 7
  obtain ⟨x9, y9⟩ := b1_bd l hA.bytes 9
  have u9 : IntKind.i64.wrap (b1 l 9) = b1 l 9 := i64_id _ x9 (by omega)
  have hd : ¬ b1 l 0 % 16 < 5 := by omega
  have he : ¬ (len : Int) < b1 l 0 % 16 * 4 + 8 := by omega
  have h6' : (b1 l 6 % 32 != 0) = false := by simp; omega
  have h7' : (b1 l 7 != 0) = false := by simp; omega
  have HA : Hid (At w b off len cap l) := hA
  have hB := hA.bytes
  obtain ⟨h1, e1⟩ : ∃ h1, h0 + 1 = h1 := ⟨_, rfl⟩
  obtain ⟨h2, e2⟩ : ∃ h2, h0 + 2 = h2 := ⟨_, rfl⟩
  obtain ⟨h3, e3⟩ : ∃ h3, h0 + 3 = h3 := ⟨_, rfl⟩
  obtain ⟨h4, e4⟩ : ∃ h4, h0 + 4 = h4 := ⟨_, rfl⟩
  obtain ⟨h5, e5⟩ : ∃ h5, h0 + 5 = h5 := ⟨_, rfl⟩
  have hh' : b1 l 0 % 16 * 4 = (h0 : Int) := hh
  have hlt : h0 + 8 ≤ len := by omega
  have i0 : (h0 : Int) < (len : Int) := by omega
  have i1 : (h1 : Int) < (len : Int) := by omega
  have i2 : (h2 : Int) < (len : Int) := by omega
  have i3 : (h3 : Int) < (len : Int) := by omega
  have i4 : (h4 : Int) < (len : Int) := by omega
  have i5 : (h5 : Int) < (len : Int) := by omega
  have v1 : IntKind.i64.wrap ((h0 : Int) + 1) = (h1 : Int) := by rw [i64_id _ (by omega) (by omega)]; omega
  have v2 : IntKind.i64.wrap ((h0 : Int) + 2) = (h2 : Int) := by rw [i64_id _ (by omega) (by omega)]; omega
  have v3 : IntKind.i64.wrap ((h0 : Int) + 3) = (h3 : Int) := by rw [i64_id _ (by omega) (by omega)]; omega
  have v4 : IntKind.i64.wrap ((h0 : Int) + 4) = (h4 : Int) := by rw [i64_id _ (by omega) (by omega)]; omega
  have v5 : IntKind.i64.wrap ((h0 : Int) + 5) = (h5 : Int) := by rw [i64_id _ (by omega) (by omega)]; omega
  have HS : Hid (h0 + 8 ≤ l.length) := by show _ ≤ _; omega
  have HP : Hid (b1 l 9 = 1) := hp
  have he : ¬ (len : Int) < (h0 : Int) + 8 := by omega
  obtain ⟨z0, k0⟩ : ∃ z, l.getD h0 0 = z := ⟨_, rfl⟩
  obtain ⟨z1, k1⟩ : ∃ z, l.getD h1 0 = z := ⟨_, rfl⟩
  have a0 := getD_byte l hB h0
  have a1 := getD_byte l hB h1
  rw [k0] at a0
  rw [k1] at a1
  obtain ⟨b00, b01⟩ := a0
  obtain ⟨b10, b11⟩ := a1
  rw [e1] at hq
  unfold b1 at hq
  rw [k0, k1] at hq
  have m8 : (z0 != 8) = true := by rw [bne_iff_ne]; exact hq.1
  have m0 : (z0 != 0) = true := by rw [bne_iff_ne]; exact hq.2.1
  have HE : Hid ((h0 + 1 = h1) ∧ l.getD h0 0 = z0 ∧ l.getD h1 0 = z1) := ⟨e1, k0, k1⟩
  clear hA g2 g3 g4 h hL hh e1 e2 e3 e4 e5 hlt hp hB k0 k1 hq
  go_enter Try.func16, Try.ntmps16
  go_wp2_with fail
  go_region_held3 (fun w' => w'.cell? ⟨b, off + 9, none⟩ = some (.int .u8 (b1 l 9))) (first | exact c9 | go_keep)
    (first
      | (go_at_call_of 22 (Value.int .i64 12); refine (flong_any b off len cap l 12 12 _ (by first | exact hA0.later (below_drewN (Below.refl _ _) _) | exact hA0.later (below_drewN (below_alloc _ _) _)) rfl (by omega) hl).mono ?_; rintro e w4 ⟨rfl, n4, rfl⟩)
      | (go_at_call_of 22 (Value.int .i64 16); refine (flong_any b off len cap l 16 16 _ (by first | exact hA0.later (below_drewN (Below.refl _ _) _) | exact hA0.later (below_drewN (below_alloc _ _) _)) rfl (by omega) hl).mono ?_; rintro e w5 ⟨rfl, n5, rfl⟩))
  all_goals
    obtain ⟨W, hW, R⟩ := rq_new HA.out l0 (b1 l 9) (w4 l 12) (w4 l 16) 35 (1 + n4 + n5)
    rw [← hW]
    clear hW hA0 c0 c6 c7 c9
    have q17 := HP.out
    have s0 : W.cell? ⟨b, off + h0, none⟩ = some (.int .u8 z0) := by have := R.at_.sees h0 (by have := HS.out; omega); rwa [HE.out.2.1] at this
    have s1 : W.cell? ⟨b, off + h1, none⟩ = some (.int .u8 z1) := by have := R.at_.sees h1 (by have := HS.out; have := HE.out.1; omega); rwa [HE.out.2.2] at this
    obtain ⟨r0, r1, r2, r3, r4⟩ := R.r
    obtain ⟨x0, x1, x2, x3, x4⟩ := R.x
    have hf := R.f
    have bel := laidI_below R.bel Inn.zero
    clear R
    go_wp2
    refine bodyPost_ret (v := .tuple #[inV Inn.zero, .bool false]) ?_ rfl ?_
    · simp [results, Try.results16, go_sem, Inn.zero, r0, r1, r2, r3, r4]
    exact ⟨rfl, bel⟩

set_option maxHeartbeats 8000000 in
theorem rquote_code8 (b off len cap : Nat) (l : List Int) (w : World) (hA : At w b off len cap l) (hl : len ≤ 140737488351232) (g : Head l) (h : w2 l 6 % 8192 = 0) (h0 : Nat) (hh : hdOf l = (h0 : Int)) (hp : b1 l 9 = 1) (hq : b1 l h0 = 8 ∧ ¬ b1 l (h0 + 1) = 0) :
    Calls Try.prog 16 #[.slice (some ⟨b, off, none⟩) len cap] w fun e w' => e = .returned (.tuple #[inV Inn.zero, .bool false]) ∧ Below w.heap.size w w' := by
  have sd := set_drewN
  have ad := alloc_drewN
  have hL := hA.len
  rw [off_bytes l hA.bytes] at h
  obtain ⟨g1, g2, g3, g4⟩ := g
  rw [hL] at g1 g4
  unfold hdOf at g3 g4
  have h' : ¬ (len : Int) < 20 := by omega
  have l0 : 0 < len := by omega
  have l6 : (6 : Int) < (len : Int) := by omega
  have l7 : (7 : Int) < (len : Int) := by omega
  have l9 : (9 : Int) < (len : Int) := by omega
  have hA0 := hA.later (below_alloc w (.cells zeroIC 35))
  have c0 : (w.alloc (.cells zeroIC 35)).cell? ⟨b, off, none⟩ = some (.int .u8 (b1 l 0)) := hA0.sees 0 (by rw [hA.len]; omega)
  have c6 : (w.alloc (.cells zeroIC 35)).cell? ⟨b, off + 6, none⟩ = some (.int .u8 (b1 l 6)) := hA0.sees 6 (by rw [hA.len]; omega)
  have c7 : (w.alloc (.cells zeroIC 35)).cell? ⟨b, off + 7, none⟩ = some (.int .u8 (b1 l 7)) := hA0.sees 7 (by rw [hA.len]; omega)
  have c9 : (w.alloc (.cells zeroIC 35)).cell? ⟨b, off + 9, none⟩ = some (.int .u8 (b1 l 9)) := hA0.sees 9 (by rw [hA.len]; omega)
  have hv : (b1 l 0 / 16 != 4) = false := by rw [g2]; rfl
  obtain ⟨x0, y0⟩ := b1_bd l hA.bytes 0
  obtain ⟨x6, y6⟩ := b1_bd l hA.bytes 6
  obtain ⟨x7, y7⟩ := b1_bd l hA.bytes 7
  obtain ⟨x9, y9⟩ := b1_bd l hA.bytes 9
  have u9 : IntKind.i64.wrap (b1 l 9) = b1 l 9 := i64_id _ x9 (by omega)
  have hd : ¬ b1 l 0 % 16 < 5 := by omega
  have he : ¬ (len : Int) < b1 l 0 % 16 * 4 + 8 := by omega
  have h6' : (b1 l 6 % 32 != 0) = false := by simp; omega
  have h7' : (b1 l 7 != 0) = false := by simp; omega
  have HA : Hid (At w b off len cap l) := hA
  have hB := hA.bytes
  obtain ⟨h1, e1⟩ : ∃ h1, h0 + 1 = h1 := ⟨_, rfl⟩
  obtain ⟨h2, e2⟩ : ∃ h2, h0 + 2 = h2 := ⟨_, rfl⟩
  obtain ⟨h3, e3⟩ : ∃ h3, h0 + 3 = h3 := ⟨_, rfl⟩
  obtain ⟨h4, e4⟩ : ∃ h4, h0 + 4 = h4 := ⟨_, rfl⟩
  obtain ⟨h5, e5⟩ : ∃ h5, h0 + 5 = h5 := ⟨_, rfl⟩
  have hh' : b1 l 0 % 16 * 4 = (h0 : Int) := hh
  have hlt : h0 + 8 ≤ len := by omega
  have i0 : (h0 : Int) < (len : Int) := by omega
  have i1 : (h1 : Int) < (len : Int) := by omega
  have i2 : (h2 : Int) < (len : Int) := by omega
  have i3 : (h3 : Int) < (len : Int) := by omega
  have i4 : (h4 : Int) < (len : Int) := by omega
  have i5 : (h5 : Int) < (len : Int) := by omega
  have v1 : IntKind.i64.wrap ((h0 : Int) + 1) = (h1 : Int) := by rw [i64_id _ (by omega) (by omega)]; omega
  have v2 : IntKind.i64.wrap ((h0 : Int) + 2) = (h2 : Int) := by rw [i64_id _ (by omega) (by omega)]; omega
  have v3 : IntKind.i64.wrap ((h0 : Int) + 3) = (h3 : Int) := by rw [i64_id _ (by omega) (by omega)]; omega
  have v4 : IntKind.i64.wrap ((h0 : Int) + 4) = (h4 : Int) := by rw [i64_id _ (by omega) (by omega)]; omega
  have v5 : IntKind.i64.wrap ((h0 : Int) + 5) = (h5 : Int) := by rw [i64_id _ (by omega) (by omega)]; omega
  have HS : Hid (h0 + 8 ≤ l.length) := by show _ ≤ _; omega
  have HP : Hid (b1 l 9 = 1) := hp
  have he : ¬ (len : Int) < (h0 : Int) + 8 := by omega
  obtain ⟨z0, k0⟩ : ∃ z, l.getD h0 0 = z := ⟨_, rfl⟩
  obtain ⟨z1, k1⟩ : ∃ z, l.getD h1 0 = z := ⟨_, rfl⟩
  have a0 := getD_byte l hB h0
  have a1 := getD_byte l hB h1
  rw [k0] at a0
  rw [k1] at a1
  obtain ⟨b00, b01⟩ := a0
  obtain ⟨b10, b11⟩ := a1
  rw [e1] at hq
  unfold b1 at hq
  rw [k0, k1] at hq
  have m8 : (z0 != 8) = false := by rw [hq.1]; rfl
  have m0 : (z1 != 0) = true := by rw [bne_iff_ne]; exact hq.2
  have HE : Hid ((h0 + 1 = h1) ∧ l.getD h0 0 = z0 ∧ l.getD h1 0 = z1) := ⟨e1, k0, k1⟩
  clear hA g2 g3 g4 h hL hh e1 e2 e3 e4 e5 hlt hp hB k0 k1 hq
  go_enter Try.func16, Try.ntmps16
  go_wp2_with fail
  go_region_held3 (fun w' => w'.cell? ⟨b, off + 9, none⟩ = some (.int .u8 (b1 l 9))) (first | exact c9 | go_keep)
    (first
      | (go_at_call_of 22 (Value.int .i64 12); refine (flong_any b off len cap l 12 12 _ (by first | exact hA0.later (below_drewN (Below.refl _ _) _) | exact hA0.later (below_drewN (below_alloc _ _) _)) rfl (by omega) hl).mono ?_; rintro e w4 ⟨rfl, n4, rfl⟩)
      | (go_at_call_of 22 (Value.int .i64 16); refine (flong_any b off len cap l 16 16 _ (by first | exact hA0.later (below_drewN (Below.refl _ _) _) | exact hA0.later (below_drewN (below_alloc _ _) _)) rfl (by omega) hl).mono ?_; rintro e w5 ⟨rfl, n5, rfl⟩))
  all_goals
    obtain ⟨W, hW, R⟩ := rq_new HA.out l0 (b1 l 9) (w4 l 12) (w4 l 16) 35 (1 + n4 + n5)
    rw [← hW]
    clear hW hA0 c0 c6 c7 c9
    have q17 := HP.out
    have s0 : W.cell? ⟨b, off + h0, none⟩ = some (.int .u8 z0) := by have := R.at_.sees h0 (by have := HS.out; omega); rwa [HE.out.2.1] at this
    have s1 : W.cell? ⟨b, off + h1, none⟩ = some (.int .u8 z1) := by have := R.at_.sees h1 (by have := HS.out; have := HE.out.1; omega); rwa [HE.out.2.2] at this
    obtain ⟨r0, r1, r2, r3, r4⟩ := R.r
    obtain ⟨x0, x1, x2, x3, x4⟩ := R.x
    have hf := R.f
    have bel := laidI_below R.bel Inn.zero
    clear R
    go_wp2
    refine bodyPost_ret (v := .tuple #[inV Inn.zero, .bool false]) ?_ rfl ?_
    · simp [results, Try.results16, go_sem, Inn.zero, r0, r1, r2, r3, r4]
    exact ⟨rfl, bel⟩

set_option maxHeartbeats 8000000 in
theorem rquote_code0 (b off len cap : Nat) (l : List Int) (w : World) (hA : At w b off len cap l) (hl : len ≤ 140737488351232) (g : Head l) (h : w2 l 6 % 8192 = 0) (h0 : Nat) (hh : hdOf l = (h0 : Int)) (hp : b1 l 9 = 1) (hq : b1 l h0 = 0 ∧ ¬ b1 l (h0 + 1) = 0) :
    Calls Try.prog 16 #[.slice (some ⟨b, off, none⟩) len cap] w fun e w' => e = .returned (.tuple #[inV Inn.zero, .bool false]) ∧ Below w.heap.size w w' := by
  have sd := set_drewN
  have ad := alloc_drewN
  have hL := hA.len
  rw [off_bytes l hA.bytes] at h
  obtain ⟨g1, g2, g3, g4⟩ := g
  rw [hL] at g1 g4
  unfold hdOf at g3 g4
  have h' : ¬ (len : Int) < 20 := by omega
  have l0 : 0 < len := by omega
  have l6 : (6 : Int) < (len : Int) := by omega
  have l7 : (7 : Int) < (len : Int) := by omega
  have l9 : (9 : Int) < (len : Int) := by omega
  have hA0 := hA.later (below_alloc w (.cells zeroIC 35))
  have c0 : (w.alloc (.cells zeroIC 35)).cell? ⟨b, off, none⟩ = some (.int .u8 (b1 l 0)) := hA0.sees 0 (by rw [hA.len]; omega)
  have c6 : (w.alloc (.cells zeroIC 35)).cell? ⟨b, off + 6, none⟩ = some (.int .u8 (b1 l 6)) := hA0.sees 6 (by rw [hA.len]; omega)
  have c7 : (w.alloc (.cells zeroIC 35)).cell? ⟨b, off + 7, none⟩ = some (.int .u8 (b1 l 7)) := hA0.sees 7 (by rw [hA.len]; omega)
  have c9 : (w.alloc (.cells zeroIC 35)).cell? ⟨b, off + 9, none⟩ = some (.int .u8 (b1 l 9)) := hA0.sees 9 (by rw [hA.len]; omega)
  have hv : (b1 l 0 / 16 != 4) = false := by rw [g2]; rfl
  obtain ⟨x0, y0⟩ := b1_bd l hA.bytes 0
  obtain ⟨x6, y6⟩ := b1_bd l hA.bytes 6
  obtain ⟨x7, y7⟩ := b1_bd l hA.bytes 7
  obtain ⟨x9, y9⟩ := b1_bd l hA.bytes 9
  have u9 : IntKind.i64.wrap (b1 l 9) = b1 l 9 := i64_id _ x9 (by omega)
  have hd : ¬ b1 l 0 % 16 < 5 := by omega
  have he : ¬ (len : Int) < b1 l 0 % 16 * 4 + 8 := by omega
  have h6' : (b1 l 6 % 32 != 0) = false := by simp; omega
  have h7' : (b1 l 7 != 0) = false := by simp; omega
  have HA : Hid (At w b off len cap l) := hA
  have hB := hA.bytes
  obtain ⟨h1, e1⟩ : ∃ h1, h0 + 1 = h1 := ⟨_, rfl⟩
  obtain ⟨h2, e2⟩ : ∃ h2, h0 + 2 = h2 := ⟨_, rfl⟩
  obtain ⟨h3, e3⟩ : ∃ h3, h0 + 3 = h3 := ⟨_, rfl⟩
  obtain ⟨h4, e4⟩ : ∃ h4, h0 + 4 = h4 := ⟨_, rfl⟩
  obtain ⟨h5, e5⟩ : ∃ h5, h0 + 5 = h5 := ⟨_, rfl⟩
  have hh' : b1 l 0 % 16 * 4 = (h0 : Int) := hh
  have hlt : h0 + 8 ≤ len := by omega
  have i0 : (h0 : Int) < (len : Int) := by omega
  have i1 : (h1 : Int) < (len : Int) := by omega
  have i2 : (h2 : Int) < (len : Int) := by omega
  have i3 : (h3 : Int) < (len : Int) := by omega
  have i4 : (h4 : Int) < (len : Int) := by omega
  have i5 : (h5 : Int) < (len : Int) := by omega
  have v1 : IntKind.i64.wrap ((h0 : Int) + 1) = (h1 : Int) := by rw [i64_id _ (by omega) (by omega)]; omega
  have v2 : IntKind.i64.wrap ((h0 : Int) + 2) = (h2 : Int) := by rw [i64_id _ (by omega) (by omega)]; omega
  have v3 : IntKind.i64.wrap ((h0 : Int) + 3) = (h3 : Int) := by rw [i64_id _ (by omega) (by omega)]; omega
  have v4 : IntKind.i64.wrap ((h0 : Int) + 4) = (h4 : Int) := by rw [i64_id _ (by omega) (by omega)]; omega
  have v5 : IntKind.i64.wrap ((h0 : Int) + 5) = (h5 : Int) := by rw [i64_id _ (by omega) (by omega)]; omega
  have HS : Hid (h0 + 8 ≤ l.length) := by show _ ≤ _; omega
  have HP : Hid (b1 l 9 = 1) := hp
  have he : ¬ (len : Int) < (h0 : Int) + 8 := by omega
  obtain ⟨z0, k0⟩ : ∃ z, l.getD h0 0 = z := ⟨_, rfl⟩
  obtain ⟨z1, k1⟩ : ∃ z, l.getD h1 0 = z := ⟨_, rfl⟩
  have a0 := getD_byte l hB h0
  have a1 := getD_byte l hB h1
  rw [k0] at a0
  rw [k1] at a1
  obtain ⟨b00, b01⟩ := a0
  obtain ⟨b10, b11⟩ := a1
  rw [e1] at hq
  unfold b1 at hq
  rw [k0, k1] at hq
  have m8 : (z0 != 8) = true := by rw [hq.1]; rfl
  have m9 : (z0 != 0) = false := by rw [hq.1]; rfl
  have m0 : (z1 != 0) = true := by rw [bne_iff_ne]; exact hq.2
  have HE : Hid ((h0 + 1 = h1) ∧ l.getD h0 0 = z0 ∧ l.getD h1 0 = z1) := ⟨e1, k0, k1⟩
  clear hA g2 g3 g4 h hL hh e1 e2 e3 e4 e5 hlt hp hB k0 k1 hq
  go_enter Try.func16, Try.ntmps16
  go_wp2_with fail
  go_region_held3 (fun w' => w'.cell? ⟨b, off + 9, none⟩ = some (.int .u8 (b1 l 9))) (first | exact c9 | go_keep)
    (first
      | (go_at_call_of 22 (Value.int .i64 12); refine (flong_any b off len cap l 12 12 _ (by first | exact hA0.later (below_drewN (Below.refl _ _) _) | exact hA0.later (below_drewN (below_alloc _ _) _)) rfl (by omega) hl).mono ?_; rintro e w4 ⟨rfl, n4, rfl⟩)
      | (go_at_call_of 22 (Value.int .i64 16); refine (flong_any b off len cap l 16 16 _ (by first | exact hA0.later (below_drewN (Below.refl _ _) _) | exact hA0.later (below_drewN (below_alloc _ _) _)) rfl (by omega) hl).mono ?_; rintro e w5 ⟨rfl, n5, rfl⟩))
  all_goals
    obtain ⟨W, hW, R⟩ := rq_new HA.out l0 (b1 l 9) (w4 l 12) (w4 l 16) 35 (1 + n4 + n5)
    rw [← hW]
    clear hW hA0 c0 c6 c7 c9
    have q17 := HP.out
    have s0 : W.cell? ⟨b, off + h0, none⟩ = some (.int .u8 z0) := by have := R.at_.sees h0 (by have := HS.out; omega); rwa [HE.out.2.1] at this
    have s1 : W.cell? ⟨b, off + h1, none⟩ = some (.int .u8 z1) := by have := R.at_.sees h1 (by have := HS.out; have := HE.out.1; omega); rwa [HE.out.2.2] at this
    obtain ⟨r0, r1, r2, r3, r4⟩ := R.r
    obtain ⟨x0, x1, x2, x3, x4⟩ := R.x
    have hf := R.f
    have bel := laidI_below R.bel Inn.zero
    clear R
    go_wp2
    refine bodyPost_ret (v := .tuple #[inV Inn.zero, .bool false]) ?_ rfl ?_
    · simp [results, Try.results16, go_sem, Inn.zero, r0, r1, r2, r3, r4]
    exact ⟨rfl, bel⟩
end Go.Proofs.Ytdejjokgchbgnaa

namespace Go.Proofs.Ytdejjokgchbgnaa
open Go.RowKit
attribute [local go_sem ↓] Go.wp_at_zero Go.wp_at_succ


set_option maxHeartbeats 8000000 in
theorem rquote_ask (b off len cap : Nat) (l : List Int) (w : World) (hA : At w b off len cap l) (hl : len ≤ 140737488351232) (g : Head l) (h : w2 l 6 % 8192 = 0) (h0 : Nat) (hh : hdOf l = (h0 : Int)) (hp : b1 l 9 = 1) (hq : b1 l h0 = 8 ∧ b1 l (h0 + 1) = 0) :
    Calls Try.prog 16 #[.slice (some ⟨b, off, none⟩) len cap] w fun e w' => e = .returned (.tuple #[inV (innOf l (w2 l (h0 + 4), w2 l (h0 + 4))), .bool true]) ∧ Below w.heap.size w w' := by
  have sd := set_drewN
  have ad := alloc_drewN
  have hL := hA.len
  rw [off_bytes l hA.bytes] at h
  obtain ⟨g1, g2, g3, g4⟩ := g
  rw [hL] at g1 g4
  unfold hdOf at g3 g4
  have h' : ¬ (len : Int) < 20 := by omega
  have l0 : 0 < len := by omega
  have l6 : (6 : Int) < (len : Int) := by omega
  have l7 : (7 : Int) < (len : Int) := by omega
  have l9 : (9 : Int) < (len : Int) := by omega
  have hA0 := hA.later (below_alloc w (.cells zeroIC 35))
  have c0 : (w.alloc (.cells zeroIC 35)).cell? ⟨b, off, none⟩ = some (.int .u8 (b1 l 0)) := hA0.sees 0 (by rw [hA.len]; omega)
  have c6 : (w.alloc (.cells zeroIC 35)).cell? ⟨b, off + 6, none⟩ = some (.int .u8 (b1 l 6)) := hA0.sees 6 (by rw [hA.len]; omega)
  have c7 : (w.alloc (.cells zeroIC 35)).cell? ⟨b, off + 7, none⟩ = some (.int .u8 (b1 l 7)) := hA0.sees 7 (by rw [hA.len]; omega)
  have c9 : (w.alloc (.cells zeroIC 35)).cell? ⟨b, off + 9, none⟩ = some (.int .u8 (b1 l 9)) := hA0.sees 9 (by rw [hA.len]; omega)
  have hv : (b1 l 0 / 16 != 4) = false := by rw [g2]; rfl
  obtain ⟨x0, y0⟩ := b1_bd l hA.bytes 0
  obtain ⟨x6, y6⟩ := b1_bd l hA.bytes 6
  obtain ⟨x7, y7⟩ := b1_bd l hA.bytes 7
  obtain ⟨x9, y9⟩ := b1_bd l hA.bytes 9
  have u9 : IntKind.i64.wrap (b1 l 9) = b1 l 9 := i64_id _ x9 (by omega)
  have hd : ¬ b1 l 0 % 16 < 5 := by omega
  have he : ¬ (len : Int) < b1 l 0 % 16 * 4 + 8 := by omega
  have h6' : (b1 l 6 % 32 != 0) = false := by simp; omega
  have h7' : (b1 l 7 != 0) = false := by simp; omega
  have HA : Hid (At w b off len cap l) := hA
  have hB := hA.bytes
  obtain ⟨h1, e1⟩ : ∃ h1, h0 + 1 = h1 := ⟨_, rfl⟩
  obtain ⟨h2, e2⟩ : ∃ h2, h0 + 2 = h2 := ⟨_, rfl⟩
  obtain ⟨h3, e3⟩ : ∃ h3, h0 + 3 = h3 := ⟨_, rfl⟩
  obtain ⟨h4, e4⟩ : ∃ h4, h0 + 4 = h4 := ⟨_, rfl⟩
  obtain ⟨h5, e5⟩ : ∃ h5, h0 + 5 = h5 := ⟨_, rfl⟩
  have hh' : b1 l 0 % 16 * 4 = (h0 : Int) := hh
  have hlt : h0 + 8 ≤ len := by omega
  have i0 : (h0 : Int) < (len : Int) := by omega
  have i1 : (h1 : Int) < (len : Int) := by omega
  have i2 : (h2 : Int) < (len : Int) := by omega
  have i3 : (h3 : Int) < (len : Int) := by omega
  have i4 : (h4 : Int) < (len : Int) := by omega
  have i5 : (h5 : Int) < (len : Int) := by omega
  have v1 : IntKind.i64.wrap ((h0 : Int) + 1) = (h1 : Int) := by rw [i64_id _ (by omega) (by omega)]; omega
  have v2 : IntKind.i64.wrap ((h0 : Int) + 2) = (h2 : Int) := by rw [i64_id _ (by omega) (by omega)]; omega
  have v3 : IntKind.i64.wrap ((h0 : Int) + 3) = (h3 : Int) := by rw [i64_id _ (by omega) (by omega)]; omega
  have v4 : IntKind.i64.wrap ((h0 : Int) + 4) = (h4 : Int) := by rw [i64_id _ (by omega) (by omega)]; omega
  have v5 : IntKind.i64.wrap ((h0 : Int) + 5) = (h5 : Int) := by rw [i64_id _ (by omega) (by omega)]; omega
  have HS : Hid (h0 + 8 ≤ l.length) := by show _ ≤ _; omega
  have HP : Hid (b1 l 9 = 1) := hp
  have he : ¬ (len : Int) < (h0 : Int) + 8 := by omega
  obtain ⟨z0, k0⟩ : ∃ z, l.getD h0 0 = z := ⟨_, rfl⟩
  obtain ⟨z1, k1⟩ : ∃ z, l.getD h1 0 = z := ⟨_, rfl⟩
  obtain ⟨z2, k2⟩ : ∃ z, l.getD h4 0 = z := ⟨_, rfl⟩
  obtain ⟨z3, k3⟩ : ∃ z, l.getD h5 0 = z := ⟨_, rfl⟩
  have a0 := getD_byte l hB h0
  have a1 := getD_byte l hB h1
  have a2 := getD_byte l hB h4
  have a3 := getD_byte l hB h5
  rw [k0] at a0
  rw [k1] at a1
  rw [k2] at a2
  rw [k3] at a3
  obtain ⟨o2, p4, p5, p6⟩ := two_bytes z2 z3 a2 a3
  obtain ⟨b00, b01⟩ := a0
  obtain ⟨b10, b11⟩ := a1
  obtain ⟨b20, b21⟩ := a2
  obtain ⟨b30, b31⟩ := a3
  rw [e1] at hq
  unfold b1 at hq
  rw [k0, k1] at hq
  have m8 : (z0 != 8) = false := by rw [hq.1]; rfl
  have m0 : (z1 != 0) = false := by rw [hq.2]; rfl
  have HT : Hid (w2 l (h0 + 4) = z2 * 256 + z3) := by show _ = _; rw [← k2, ← k3, ← e4, ← e5]; rfl
  have HE : Hid ((h0 + 1 = h1 ∧ h0 + 4 = h4 ∧ h0 + 5 = h5) ∧ l.getD h0 0 = z0 ∧ l.getD h1 0 = z1 ∧ l.getD h4 0 = z2 ∧ l.getD h5 0 = z3) := ⟨⟨e1, e4, e5⟩, k0, k1, k2, k3⟩
  clear hA g2 g3 g4 h hL hh e1 e2 e3 e4 e5 hlt hp hB k0 k1 k2 k3 hq
  go_enter Try.func16, Try.ntmps16
  go_wp2_with fail
  go_region_held3 (fun w' => w'.cell? ⟨b, off + 9, none⟩ = some (.int .u8 (b1 l 9))) (first | exact c9 | go_keep)
    (first
      | (go_at_call_of 22 (Value.int .i64 12); refine (flong_any b off len cap l 12 12 _ (by first | exact hA0.later (below_drewN (Below.refl _ _) _) | exact hA0.later (below_drewN (below_alloc _ _) _)) rfl (by omega) hl).mono ?_; rintro e w4 ⟨rfl, n4, rfl⟩)
      | (go_at_call_of 22 (Value.int .i64 16); refine (flong_any b off len cap l 16 16 _ (by first | exact hA0.later (below_drewN (Below.refl _ _) _) | exact hA0.later (below_drewN (below_alloc _ _) _)) rfl (by omega) hl).mono ?_; rintro e w5 ⟨rfl, n5, rfl⟩))
  all_goals
    obtain ⟨W, hW, R⟩ := rq_new HA.out l0 (b1 l 9) (w4 l 12) (w4 l 16) 35 (1 + n4 + n5)
    rw [← hW]
    clear hW hA0 c0 c6 c7 c9
    have q17 := HP.out
    have s0 : W.cell? ⟨b, off + h0, none⟩ = some (.int .u8 z0) := by have := R.at_.sees h0 (by have := HS.out; omega); rwa [HE.out.2.1] at this
    have s1 : W.cell? ⟨b, off + h1, none⟩ = some (.int .u8 z1) := by have := R.at_.sees h1 (by have := HS.out; have := HE.out.1; omega); rwa [HE.out.2.2.1] at this
    have s2 : W.cell? ⟨b, off + h4, none⟩ = some (.int .u8 z2) := by have := R.at_.sees h4 (by have := HS.out; have := HE.out.1; omega); rwa [HE.out.2.2.2.1] at this
    have s3 : W.cell? ⟨b, off + h5, none⟩ = some (.int .u8 z3) := by have := R.at_.sees h5 (by have := HS.out; have := HE.out.1; omega); rwa [HE.out.2.2.2.2] at this
    obtain ⟨x0, x1, x2, x3, x4⟩ := R.x
    have hg := R.g
    have HR : Hid (RQ w W b off len cap l ⟨b1 l 9, w4 l 12, 0, w4 l 16, 0⟩) := R
    clear R
    go_wp2
    clear s0 s1 m8 m0 l6 l7 l9 hv x6 y6 x7 y7 x9 y9 u9 hd h6' h7' v1 v2 v3 i1 i2 i3 b00 b01 b10 b11
    go_region
    obtain ⟨W2, hW2, R2⟩ : ∃ W2, W2 = (W.setCell ⟨w.heap.size + 1, 2, none⟩ (.int .i64 (z2 * 256 + z3))).drew ∧ RQ w W2 b off len cap l ⟨b1 l 9, w4 l 12, z2 * 256 + z3, w4 l 16, 0⟩ := ⟨_, rfl, (HR.out.sp _).drew⟩
    rw [← hW2]
    clear hW2 s2 s3 x0 x1 x2 x3 x4 hg HR
    have R3 := R2.dp (z2 * 256 + z3)
    obtain ⟨r0, r1, r2, r3, r4⟩ := R2.r
    obtain ⟨x0, x1, x2, x3, x4⟩ := R2.x
    have hf := R2.f
    have hg := R2.g
    have bel := laidI_below R3.bel ⟨b1 l 9, w4 l 12, z2 * 256 + z3, w4 l 16, z2 * 256 + z3⟩
    clear R3 R2
    have HT' := HT.out
    generalize z2 * 256 + z3 = Z at *
    have HT : Hid (w2 l (h0 + 4) = Z) := HT'
    have hn1 : ¬ (w.heap.size = w.heap.size + 1) := by omega
    have hn2 : ¬ (w.heap.size + 1 = w.heap.size) := by omega
    clear HT' o2 p4 p5 p6 b20 b21 b30 b31 i0 i4 i5 v4 v5 he g1 l0 h' hl HE HS sd ad
    go_wp2
    refine bodyPost_ret (v := .tuple #[inV (innOf l (w2 l (h0 + 4), w2 l (h0 + 4))), .bool true]) ?_ rfl ?_
    · simp [results, Try.results16, go_sem, innOf, HT.out, r0, r1, r2, r3, r4, q17]
    exact ⟨rfl, by rw [q17] at bel; exact bel⟩
end Go.Proofs.Ytdejjokgchbgnaa

namespace Go.Proofs.Ytdejjokgchbgnaa
open Go.RowKit
attribute [local go_sem ↓] Go.wp_at_zero Go.wp_at_succ


set_option maxHeartbeats 8000000 in
theorem rquote_answer (b off len cap : Nat) (l : List Int) (w : World) (hA : At w b off len cap l) (hl : len ≤ 140737488351232) (g : Head l) (h : w2 l 6 % 8192 = 0) (h0 : Nat) (hh : hdOf l = (h0 : Int)) (hp : b1 l 9 = 1) (hq : b1 l h0 = 0 ∧ b1 l (h0 + 1) = 0) :
    Calls Try.prog 16 #[.slice (some ⟨b, off, none⟩) len cap] w fun e w' => e = .returned (.tuple #[inV (innOf l (w2 l (h0 + 4), w2 l (h0 + 4))), .bool true]) ∧ Below w.heap.size w w' := by
  have sd := set_drewN
  have ad := alloc_drewN
  have hL := hA.len
  rw [off_bytes l hA.bytes] at h
  obtain ⟨g1, g2, g3, g4⟩ := g
  rw [hL] at g1 g4
  unfold hdOf at g3 g4
  have h' : ¬ (len : Int) < 20 := by omega
  have l0 : 0 < len := by omega
  have l6 : (6 : Int) < (len : Int) := by omega
  have l7 : (7 : Int) < (len : Int) := by omega
  have l9 : (9 : Int) < (len : Int) := by omega
  have hA0 := hA.later (below_alloc w (.cells zeroIC 35))
  have c0 : (w.alloc (.cells zeroIC 35)).cell? ⟨b, off, none⟩ = some (.int .u8 (b1 l 0)) := hA0.sees 0 (by rw [hA.len]; omega)
  have c6 : (w.alloc (.cells zeroIC 35)).cell? ⟨b, off + 6, none⟩ = some (.int .u8 (b1 l 6)) := hA0.sees 6 (by rw [hA.len]; omega)
  have c7 : (w.alloc (.cells zeroIC 35)).cell? ⟨b, off + 7, none⟩ = some (.int .u8 (b1 l 7)) := hA0.sees 7 (by rw [hA.len]; omega)
  have c9 : (w.alloc (.cells zeroIC 35)).cell? ⟨b, off + 9, none⟩ = some (.int .u8 (b1 l 9)) := hA0.sees 9 (by rw [hA.len]; omega)
  have hv : (b1 l 0 / 16 != 4) = false := by rw [g2]; rfl
  obtain ⟨x0, y0⟩ := b1_bd l hA.bytes 0
  obtain ⟨x6, y6⟩ := b1_bd l hA.bytes 6
  obtain ⟨x7, y7⟩ := b1_bd l hA.bytes 7
  obtain ⟨x9, y9⟩ := b1_bd l hA.bytes 9
  have u9 : IntKind.i64.wrap (b1 l 9) = b1 l 9 := i64_id _ x9 (by omega)
  have hd : ¬ b1 l 0 % 16 < 5 := by omega
  have he : ¬ (len : Int) < b1 l 0 % 16 * 4 + 8 := by omega
  have h6' : (b1 l 6 % 32 != 0) = false := by simp; omega
  have h7' : (b1 l 7 != 0) = false := by simp; omega
  have HA : Hid (At w b off len cap l) := hA
  have hB := hA.bytes
  obtain ⟨h1, e1⟩ : ∃ h1, h0 + 1 = h1 := ⟨_, rfl⟩
  obtain ⟨h2, e2⟩ : ∃ h2, h0 + 2 = h2 := ⟨_, rfl⟩
  obtain ⟨h3, e3⟩ : ∃ h3, h0 + 3 = h3 := ⟨_, rfl⟩
  obtain ⟨h4, e4⟩ : ∃ h4, h0 + 4 = h4 := ⟨_, rfl⟩
  obtain ⟨h5, e5⟩ : ∃ h5, h0 + 5 = h5 := ⟨_, rfl⟩
  have hh' : b1 l 0 % 16 * 4 = (h0 : Int) := hh
  have hlt : h0 + 8 ≤ len := by omega
  have i0 : (h0 : Int) < (len : Int) := by omega
  have i1 : (h1 : Int) < (len : Int) := by omega
  have i2 : (h2 : Int) < (len : Int) := by omega
  have i3 : (h3 : Int) < (len : Int) := by omega
  have i4 : (h4 : Int) < (len : Int) := by omega
  have i5 : (h5 : Int) < (len : Int) := by omega
  have v1 : IntKind.i64.wrap ((h0 : Int) + 1) = (h1 : Int) := by rw [i64_id _ (by omega) (by omega)]; omega
  have v2 : IntKind.i64.wrap ((h0 : Int) + 2) = (h2 : Int) := by rw [i64_id _ (by omega) (by omega)]; omega
  have v3 : IntKind.i64.wrap ((h0 : Int) + 3) = (h3 : Int) := by rw [i64_id _ (by omega) (by omega)]; omega
  have v4 : IntKind.i64.wrap ((h0 : Int) + 4) = (h4 : Int) := by rw [i64_id _ (by omega) (by omega)]; omega
  have v5 : IntKind.i64.wrap ((h0 : Int) + 5) = (h5 : Int) := by rw [i64_id _ (by omega) (by omega)]; omega
  have HS : Hid (h0 + 8 ≤ l.length) := by show _ ≤ _; omega
  have HP : Hid (b1 l 9 = 1) := hp
  have he : ¬ (len : Int) < (h0 : Int) + 8 := by omega
  obtain ⟨z0, k0⟩ : ∃ z, l.getD h0 0 = z := ⟨_, rfl⟩
  obtain ⟨z1, k1⟩ : ∃ z, l.getD h1 0 = z := ⟨_, rfl⟩
  obtain ⟨z2, k2⟩ : ∃ z, l.getD h4 0 = z := ⟨_, rfl⟩
  obtain ⟨z3, k3⟩ : ∃ z, l.getD h5 0 = z := ⟨_, rfl⟩
  have a0 := getD_byte l hB h0
  have a1 := getD_byte l hB h1
  have a2 := getD_byte l hB h4
  have a3 := getD_byte l hB h5
  rw [k0] at a0
  rw [k1] at a1
  rw [k2] at a2
  rw [k3] at a3
  obtain ⟨o2, p4, p5, p6⟩ := two_bytes z2 z3 a2 a3
  obtain ⟨b00, b01⟩ := a0
  obtain ⟨b10, b11⟩ := a1
  obtain ⟨b20, b21⟩ := a2
  obtain ⟨b30, b31⟩ := a3
  rw [e1] at hq
  unfold b1 at hq
  rw [k0, k1] at hq
  have m8 : (z0 != 8) = true := by rw [hq.1]; rfl
  have m9 : (z0 != 0) = false := by rw [hq.1]; rfl
  have m0 : (z1 != 0) = false := by rw [hq.2]; rfl
  have HT : Hid (w2 l (h0 + 4) = z2 * 256 + z3) := by show _ = _; rw [← k2, ← k3, ← e4, ← e5]; rfl
  have HE : Hid ((h0 + 1 = h1 ∧ h0 + 4 = h4 ∧ h0 + 5 = h5) ∧ l.getD h0 0 = z0 ∧ l.getD h1 0 = z1 ∧ l.getD h4 0 = z2 ∧ l.getD h5 0 = z3) := ⟨⟨e1, e4, e5⟩, k0, k1, k2, k3⟩
  clear hA g2 g3 g4 h hL hh e1 e2 e3 e4 e5 hlt hp hB k0 k1 k2 k3 hq
  go_enter Try.func16, Try.ntmps16
  go_wp2_with fail
  go_region_held3 (fun w' => w'.cell? ⟨b, off + 9, none⟩ = some (.int .u8 (b1 l 9))) (first | exact c9 | go_keep)
    (first
      | (go_at_call_of 22 (Value.int .i64 12); refine (flong_any b off len cap l 12 12 _ (by first | exact hA0.later (below_drewN (Below.refl _ _) _) | exact hA0.later (below_drewN (below_alloc _ _) _)) rfl (by omega) hl).mono ?_; rintro e w4 ⟨rfl, n4, rfl⟩)
      | (go_at_call_of 22 (Value.int .i64 16); refine (flong_any b off len cap l 16 16 _ (by first | exact hA0.later (below_drewN (Below.refl _ _) _) | exact hA0.later (below_drewN (below_alloc _ _) _)) rfl (by omega) hl).mono ?_; rintro e w5 ⟨rfl, n5, rfl⟩))
  all_goals
    obtain ⟨W, hW, R⟩ := rq_new HA.out l0 (b1 l 9) (w4 l 12) (w4 l 16) 35 (1 + n4 + n5)
    rw [← hW]
    clear hW hA0 c0 c6 c7 c9
    have q17 := HP.out
    have s0 : W.cell? ⟨b, off + h0, none⟩ = some (.int .u8 z0) := by have := R.at_.sees h0 (by have := HS.out; omega); rwa [HE.out.2.1] at this
    have s1 : W.cell? ⟨b, off + h1, none⟩ = some (.int .u8 z1) := by have := R.at_.sees h1 (by have := HS.out; have := HE.out.1; omega); rwa [HE.out.2.2.1] at this
    have s2 : W.cell? ⟨b, off + h4, none⟩ = some (.int .u8 z2) := by have := R.at_.sees h4 (by have := HS.out; have := HE.out.1; omega); rwa [HE.out.2.2.2.1] at this
    have s3 : W.cell? ⟨b, off + h5, none⟩ = some (.int .u8 z3) := by have := R.at_.sees h5 (by have := HS.out; have := HE.out.1; omega); rwa [HE.out.2.2.2.2] at this
    obtain ⟨x0, x1, x2, x3, x4⟩ := R.x
    have hg := R.g
    have HR : Hid (RQ w W b off len cap l ⟨b1 l 9, w4 l 12, 0, w4 l 16, 0⟩) := R
    clear R
    go_wp2
    clear s0 s1 m8 m9 m0 l6 l7 l9 hv x6 y6 x7 y7 x9 y9 u9 hd h6' h7' v1 v2 v3 i1 i2 i3 b00 b01 b10 b11
    go_region
    obtain ⟨W2, hW2, R2⟩ : ∃ W2, W2 = (W.setCell ⟨w.heap.size + 1, 2, none⟩ (.int .i64 (z2 * 256 + z3))).drew ∧ RQ w W2 b off len cap l ⟨b1 l 9, w4 l 12, z2 * 256 + z3, w4 l 16, 0⟩ := ⟨_, rfl, (HR.out.sp _).drew⟩
    rw [← hW2]
    clear hW2 s2 s3 x0 x1 x2 x3 x4 hg HR
    have R3 := R2.dp (z2 * 256 + z3)
    obtain ⟨r0, r1, r2, r3, r4⟩ := R2.r
    obtain ⟨x0, x1, x2, x3, x4⟩ := R2.x
    have hf := R2.f
    have hg := R2.g
    have bel := laidI_below R3.bel ⟨b1 l 9, w4 l 12, z2 * 256 + z3, w4 l 16, z2 * 256 + z3⟩
    clear R3 R2
    have HT' := HT.out
    generalize z2 * 256 + z3 = Z at *
    have HT : Hid (w2 l (h0 + 4) = Z) := HT'
    have hn1 : ¬ (w.heap.size = w.heap.size + 1) := by omega
    have hn2 : ¬ (w.heap.size + 1 = w.heap.size) := by omega
    clear HT' o2 p4 p5 p6 b20 b21 b30 b31 i0 i4 i5 v4 v5 he g1 l0 h' hl HE HS sd ad
    go_wp2
    refine bodyPost_ret (v := .tuple #[inV (innOf l (w2 l (h0 + 4), w2 l (h0 + 4))), .bool true]) ?_ rfl ?_
    · simp [results, Try.results16, go_sem, innOf, HT.out, r0, r1, r2, r3, r4, q17]
    exact ⟨rfl, by rw [q17] at bel; exact bel⟩
end Go.Proofs.Ytdejjokgchbgnaa

namespace Go.Proofs.Ytdejjokgchbgnaa
open Go.RowKit

theorem rquote_no (a : Option Addr) (b off len cap : Nat) (l : List Int) (w : World) (ha : a = some ⟨b, off, none⟩ ∨ l = []) (hA : At w b off len cap l) (hl : len ≤ 140737488351232) (h : quoteO l = none) :
    Calls Try.prog 16 #[.slice a len cap] w fun e w' => e = .returned (.tuple #[inV Inn.zero, .bool false]) ∧ Below w.heap.size w w' := by
  have hL := hA.len
  by_cases h20 : len < 20
  · exact rquote_short a len cap w h20
  rcases ha with rfl | rfl
  case inr => simp at hL; omega
  by_cases g : Head l
  · obtain ⟨k, hk⟩ := head_nat l g
    unfold quoteO at h
    by_cases ho : w2 l 6 % 8192 = 0
    · rw [if_pos ⟨g, ho⟩, hk, Int.toNat_natCast, Option.map_eq_none_iff] at h
      unfold portsOf at h
      by_cases h17 : b1 l 9 = 17
      · rw [if_pos (.inl h17)] at h; cases h
      by_cases h6 : b1 l 9 = 6
      · rw [if_pos (.inr h6)] at h; cases h
      rw [if_neg (by omega)] at h
      by_cases h1 : b1 l 9 = 1
      · have hE : ¬ echoB (l.drop k) = true := fun q => by rw [if_pos ⟨h1, q⟩] at h; cases h
        unfold echoB at hE
        rw [drop_b1, drop_b1, Nat.add_zero] at hE
        simp only [decide_eq_true_eq] at hE
        by_cases e8 : b1 l k = 8
        · exact rquote_code8 b off len cap l w hA hl g ho k hk h1 ⟨e8, fun q => hE ⟨.inl e8, q⟩⟩
        by_cases e0 : b1 l k = 0
        · exact rquote_code0 b off len cap l w hA hl g ho k hk h1 ⟨e0, fun q => hE ⟨.inr e0, q⟩⟩
        exact rquote_type b off len cap l w hA hl g ho k hk h1 ⟨e8, e0, rfl⟩
      · exact rquote_other b off len cap l w hA hl g ho h17 h6 h1
    · exact rquote_off b off len cap l w hA g ho
  · by_cases hv : b1 l 0 / 16 = 4
    · by_cases hd : hdOf l < 20
      · exact rquote_few b off len cap l w hA (by omega) hv hd
      · refine rquote_len b off len cap l w hA (by omega) hv (by omega) ?_
        rcases Int.lt_or_le (len : Int) (hdOf l + 8) with q | q
        · exact q
        · exact absurd ⟨by omega, hv, by omega, by rw [hL]; exact q⟩ g
    · exact rquote_ver b off len cap l w hA (by omega) hv

theorem rquote_ok (b off len cap : Nat) (l : List Int) (x : Inn) (w : World) (hA : At w b off len cap l) (hl : len ≤ 140737488351232) (h : quoteO l = some x) :
    Calls Try.prog 16 #[.slice (some ⟨b, off, none⟩) len cap] w fun e w' => e = .returned (.tuple #[inV x, .bool true]) ∧ Below w.heap.size w w' := by
  unfold quoteO at h
  by_cases g : Head l ∧ w2 l 6 % 8192 = 0
  · rw [if_pos g] at h
    obtain ⟨g, ho⟩ := g
    obtain ⟨k, hk⟩ := head_nat l g
    rw [hk, Int.toNat_natCast] at h
    obtain ⟨⟨f, t⟩, hp, rfl⟩ := Option.map_eq_some_iff.1 h
    unfold portsOf at hp
    by_cases h17 : b1 l 9 = 17
    · rw [if_pos (.inl h17)] at hp
      obtain ⟨rfl, rfl⟩ := Prod.mk.inj (Option.some.inj hp)
      rw [drop_w2, drop_w2, Nat.add_zero]
      exact rquote_17 b off len cap l w hA hl g ho k hk h17
    by_cases h6 : b1 l 9 = 6
    · rw [if_pos (.inr h6)] at hp
      obtain ⟨rfl, rfl⟩ := Prod.mk.inj (Option.some.inj hp)
      rw [drop_w2, drop_w2, Nat.add_zero]
      exact rquote_6 b off len cap l w hA hl g ho k hk h6
    rw [if_neg (by omega)] at hp
    by_cases h1 : b1 l 9 = 1 ∧ echoB (l.drop k) = true
    · rw [if_pos h1] at hp
      obtain ⟨rfl, rfl⟩ := Prod.mk.inj (Option.some.inj hp)
      obtain ⟨h1, hE⟩ := h1
      unfold echoB at hE
      rw [drop_b1, drop_b1, Nat.add_zero] at hE
      simp only [decide_eq_true_eq] at hE
      rw [drop_w2]
      rcases hE with ⟨e8 | e0, ec⟩
      · exact rquote_ask b off len cap l w hA hl g ho k hk h1 ⟨e8, ec⟩
      · exact rquote_answer b off len cap l w hA hl g ho k hk h1 ⟨e0, ec⟩
    · rw [if_neg h1] at hp; cases hp
  · rw [if_neg g] at h; cases h
end Go.Proofs.Ytdejjokgchbgnaa

namespace Go.Proofs.Ytdejjokgchbgnaa
open Go.RowKit
attribute [local go_sem ↓] Go.wp_at_zero Go.wp_at_succ

/-- Two cells that a world has. -/
structure Two (w : World) (b o : Nat) (x y : Int) : Prop where
  c0 : w.cell? ⟨b, o, none⟩ = some (.int .u8 x)
  c1 : w.cell? ⟨b, o + 1, none⟩ = some (.int .u8 y)

theorem two_drew {w : World} {b o : Nat} {x y : Int} (h : Two w b o x y) : w.drew.cell? ⟨b, o, none⟩ = some (.int .u8 x) ∧ w.drew.cell? ⟨b, o + 1, none⟩ = some (.int .u8 y) := ⟨h.c0, h.c1⟩

theorem two_is {w : World} {b o : Nat} {x y : Int} (h : Two w b o x y) : w.cell? ⟨b, o, none⟩ = some (.int .u8 x) ∧ w.cell? ⟨b, o + 1, none⟩ = some (.int .u8 y) := ⟨h.c0, h.c1⟩

theorem Two.later {w w' : World} {b o : Nat} {x y : Int} (h : Two w b o x y) (hb : Below w.heap.size w w') : Two w' b o x y := ⟨cell_later hb h.c0, cell_later hb h.c1⟩

theorem two_laid {w : World} {n b o : Nat} {x y : Int} (hn : n ≠ b) (h : Two w b o x y) (x0 x1 x2 x3 : Value) :
    ((((w.setCell ⟨n, 0, none⟩ x0).setCell ⟨n, 1, none⟩ x1).setCell ⟨n, 2, none⟩ x2).setCell ⟨n, 3, none⟩ x3).cell? ⟨b, o, none⟩ = some (.int .u8 x) ∧
      ((((w.setCell ⟨n, 0, none⟩ x0).setCell ⟨n, 1, none⟩ x1).setCell ⟨n, 2, none⟩ x2).setCell ⟨n, 3, none⟩ x3).cell? ⟨b, o + 1, none⟩ = some (.int .u8 y) := by
  have key : ∀ (u : World) (i j : Nat) (x : Value), (u.setCell ⟨n, i, none⟩ x).cell? ⟨b, j, none⟩ = u.cell? ⟨b, j, none⟩ := fun u i j x => World.cell?_setCell_far u ⟨n, i, none⟩ ⟨b, j, none⟩ x hn
  simp only [key]
  exact ⟨h.c0, h.c1⟩

theorem wrparse_short (a : Option Addr) (len cap : Nat) (w : World) (h : len < 8) :
    Calls Try.prog 49 #[.slice a len cap] w fun e w' => e = .returned (.tuple #[wdV Wd.zero (.slice none 0 0), .int .i64 2]) ∧ Below w.heap.size w w' := by
  have h' : (len : Int) < 8 := by omega
  go_enter Try.func49, Try.ntmps49
  go_wp2
  refine bodyPost_ret (v := .tuple #[wdV Wd.zero (.slice none 0 0), .int .i64 2]) ?_ rfl ?_
  · simp [results, Try.results49, go_sem, Wd.zero]
  exact ⟨rfl, below_alloc _ _⟩

set_option maxHeartbeats 2000000 in
theorem wrparse_sum (b off len cap : Nat) (l : List Int) (w : World) (hA : At w b off len cap l) (hl : len ≤ 1099511627776) (g1 : 8 ≤ len) (h : fold16 (ws l) ≠ 65535) :
    Calls Try.prog 49 #[.slice (some ⟨b, off, none⟩) len cap] w fun e w' => e = .returned (.tuple #[wdV Wd.zero (.slice none 0 0), .int .i64 5]) ∧ Below w.heap.size w w' := by
  have h' : ¬ (len : Int) < 8 := by omega
  have hs : (fold16 (ws l) != 65535) = true := by rw [bne_iff_ne]; exact h
  have HL : Hid (l.length = len) := hA.len
  clear h
  go_enter Try.func49, Try.ntmps49
  go_wp2_with fail
  refine (wone_any _ l _ (hA.later (below_alloc w (.cells zeroWC 87))).bts (by rw [HL.out]; exact hl)).mono ?_
  rintro e w1 ⟨rfl, hb1⟩
  obtain ⟨⟨c0, c1, c2, c3⟩, hfz⟩ := zeroWC_cells rfl hb1
  have bel := laidW_below (below_trans (below_alloc _ _) hb1) Wd.zero (.slice none 0 0)
  clear hb1
  go_wp2
  refine bodyPost_ret (v := .tuple #[wdV Wd.zero (.slice none 0 0), .int .i64 5]) ?_ rfl ?_
  · simp [results, Try.results49, go_sem, c0, c1, c2, c3, Wd.zero]
  exact ⟨rfl, bel⟩

theorem wrparse_no (a : Option Addr) (b off len cap : Nat) (l : List Int) (w : World) (ha : a = some ⟨b, off, none⟩ ∨ l = []) (hA : At w b off len cap l) (hl : len ≤ 1099511627776) (h : ¬ parseW l = 0) :
    Calls Try.prog 49 #[.slice a len cap] w fun e w' => e = .returned (.tuple #[wdV Wd.zero (.slice none 0 0), .int .i64 (parseW l)]) ∧ Below w.heap.size w w' := by
  have hL := hA.len
  obtain ⟨E, hE⟩ : ∃ E, parseW l = E := ⟨_, rfl⟩
  rw [hE] at h ⊢
  unfold parseW at hE
  by_cases g1 : l.length < 8
  · rw [if_pos g1] at hE; subst hE; exact wrparse_short a len cap w (by omega)
  rw [if_neg g1] at hE
  rcases ha with rfl | rfl
  case inr => simp at g1
  by_cases g2 : fold16 (ws l) ≠ 65535
  · rw [if_pos g2] at hE; subst hE; exact wrparse_sum b off len cap l w hA hl (by omega) g2
  rw [if_neg g2] at hE
  exact absurd hE.symm h

theorem wrlong_bel (b off len cap : Nat) (l : List Int) (q : Int) (k : Nat) (w : World) (hA : At w b off len cap l) (hq : q = (k : Int)) (hk : k + 4 ≤ len) (hl : len ≤ 140737488351232) :
    Calls Try.prog 48 #[.slice (some ⟨b, off, none⟩) len cap, .int .i64 q] w fun e w' => e = .returned (.int .u32 (w4 l k)) ∧ Below w.heap.size w w' := by
  refine (rlong_any b off len cap l q k w hA hq hk hl).mono ?_
  rintro e w' ⟨rfl, nq, rfl⟩
  exact ⟨rfl, below_drewN (Below.refl _ _) _⟩

set_option maxHeartbeats 8000000 in
theorem wrparse_own (b off len cap : Nat) (l : List Int) (w : World) (hA : At w b off len cap l) (hl : len ≤ 1099511627776) (g : WGood l) :
    Calls Try.prog 49 #[.slice (some ⟨b, off, none⟩) len cap] w fun e w' =>
      ∃ a1 k1, e = .returned (.tuple #[wdV (wdOf l) (.slice a1 (wdOf l).data.length k1), .int .i64 0]) ∧ Owns w' w.heap.size (.slice a1 (wdOf l).data.length k1) (wdOf l).data ∧ Below w.heap.size w w' := by
  have hL := hA.len
  have hc := hA.cap1
  have g1 := g.a
  rw [hL] at g1
  have h' : ¬ (len : Int) < 8 := by omega
  have hs : (fold16 (ws l) != 65535) = false := by rw [g.e]; rfl
  have HBL : Hid (isBytes l) := hA.bytes
  have HLL : Hid (l.length = len) := hL
  clear g hL
  go_enter Try.func49, Try.ntmps49
  go_wp2_with fail
  refine (wone_any _ l _ (hA.later (below_alloc w (.cells zeroWC 87))).bts (by rw [HLL.out]; exact hl)).mono ?_
  rintro e w1 ⟨rfl, hb1⟩
  have hb0 : Below w.heap.size w w1 := below_trans (below_alloc _ _) hb1
  have hA1 := hA.later hb0
  have p0 : w.cell? ⟨b, off, none⟩ = some (.int .u8 (b1 l 0)) := hA.sees 0 (by rw [HLL.out]; omega)
  have hbn' : w.heap.size ≠ b := by have := World.block_lt_of_cell? w _ p0; simp only at this; omega
  have hT : Two w1 b off (b1 l 0) (b1 l 1) := ⟨hA1.sees 0 (by rw [HLL.out]; omega), hA1.sees 1 (by rw [HLL.out]; omega)⟩
  have l0 : 0 < len := by omega
  have l1 : (1 : Int) < (len : Int) := by omega
  obtain ⟨x0, y0⟩ := b1_bd l HBL.out 0
  obtain ⟨x1, y1⟩ := b1_bd l HBL.out 1
  have u0 : IntKind.i64.wrap (b1 l 0) = b1 l 0 := i64_id _ (by omega) (by omega)
  have u1 : IntKind.i64.wrap (b1 l 1) = b1 l 1 := i64_id _ (by omega) (by omega)
  have HW : Hid (Below (w.alloc (.cells zeroWC 87)).heap.size (w.alloc (.cells zeroWC 87)) w1) := hb1
  have hsz := hb1.size
  simp only [World.size_alloc] at hsz
  clear hb1 p0
  go_wp2_with fail
  go_region_held3 (fun w' => w'.cell? ⟨b, off, none⟩ = some (.int .u8 (b1 l 0)) ∧ w'.cell? ⟨b, off + 1, none⟩ = some (.int .u8 (b1 l 1))) (first | (with_reducible exact two_drew hT) | (with_reducible exact two_is hT4) | (with_reducible exact two_is HT8.out) | (with_reducible exact two_laid HNB.out HT8.out _ _ _ _))
    (first
      | (go_at_call 48; refine (wrlong_bel b off len cap l 4 4 _ (by with_reducible exact hA1.later (Below.refl _ _).drew) rfl (by omega) (by omega)).mono ?_; rintro e w4' ⟨rfl, hb4'⟩; have hb4 : Below w1.heap.size w1 w4' := below_trans (Below.refl _ _).drew hb4'; have hT4 := hT.later hb4)
      | (go_at_call 23; refine (part_any b off len cap l 8 (len : Int) 8 len _ (hA1.later hb4) rfl rfl (by omega) (by omega) (by omega)).mono ?_; rintro e w8 ⟨v8, rfl, ho8, hb8'⟩; rw [← HLL.out, drop_all] at ho8; obtain ⟨a2, k2, rfl⟩ := Bts.shapeW (l := (wdOf l).data) (ho8.bts (isBytes_drop HBL.out _)); have hb8 := below_trans hb4 hb8'; have HT8 : Hid (Two w8 b off (b1 l 0) (b1 l 1)) := hT4.later hb8'; have HNB : Hid (w.heap.size ≠ b) := hbn'; obtain ⟨⟨z0, z1, z2, z3⟩, hfz⟩ := zeroWC_cells rfl (below_trans HW.out hb8)))
  have hlt2 : w.heap.size < w4'.heap.size := by have := hb4.size; omega
  have hB2 := laidW_owns ho8 hlt2 (wdOf l) (.slice a2 (wdOf l).data.length k2)
  have bel := laidW_below (below_trans hb0 hb8) (wdOf l) (.slice a2 (wdOf l).data.length k2)
  obtain ⟨r0, r1, r2, r3⟩ := laidW_cells rfl (below_trans HW.out hb8) (wdOf l) (.slice a2 (wdOf l).data.length k2)
  obtain ⟨W, hW⟩ : ∃ W, W = laidW w8 w.heap.size (wdOf l) (.slice a2 (wdOf l).data.length k2) := ⟨_, rfl⟩
  have hW' : ((((w8.setCell ⟨w.heap.size, 0, none⟩ (.int .i64 (b1 l 0))).setCell ⟨w.heap.size, 1, none⟩ (.int .i64 (b1 l 1))).setCell ⟨w.heap.size, 2, none⟩ (.int .u32 (w4 l 4))).setCell ⟨w.heap.size, 3, none⟩ (.slice a2 (wdOf l).data.length k2)) = W := hW.symm
  rw [hW']
  rw [← hW] at hB2 bel r0 r1 r2 r3
  clear hW hW' z0 z1 z2 z3 hfz ho8 hb8 hb4 hb8' hT hT4
  have hb2 := hB2.low (Nat.le_of_lt hlt2)
  clear hB2
  go_wp2
  refine bodyPost_ret (v := .tuple #[wdV (wdOf l) (.slice a2 (wdOf l).data.length k2), .int .i64 0]) ?_ rfl ?_
  · simp [results, Try.results49, go_sem, r0, r1, r2, r3]
  exact ⟨_, _, rfl, hb2, bel⟩

theorem wrparse_ok (b off len cap : Nat) (l : List Int) (w : World) (hA : At w b off len cap l) (hl : len ≤ 1099511627776) (g : WGood l) :
    Calls Try.prog 49 #[.slice (some ⟨b, off, none⟩) len cap] w fun e w' =>
      ∃ a1 k1, e = .returned (.tuple #[wdV (wdOf l) (.slice a1 (wdOf l).data.length k1), .int .i64 0]) ∧ Bts w' (.slice a1 (wdOf l).data.length k1) (wdOf l).data ∧ Below w.heap.size w w' := by
  refine (wrparse_own b off len cap l w hA hl g).mono ?_
  rintro e w' ⟨a1, k1, rfl, ho, hb⟩
  exact ⟨a1, k1, rfl, ho.bts (isBytes_drop hA.bytes _), hb⟩
end Go.Proofs.Ytdejjokgchbgnaa

namespace Go.Proofs.Ytdejjokgchbgnaa
open Go.RowKit
attribute [local go_sem ↓] Go.wp_at_zero Go.wp_at_succ

set_option maxHeartbeats 4000000 in
theorem rw_no (p : Dg) (ao ab : Option Addr) (no co b off nb cb : Nat) (C : Array Value) (w : World) (HC : Hid (C = frC p (.slice ao no co) (.slice ab nb cb) ⟨0, 0, 0, 0, 0, Inn.zero⟩)) (ha : ab = some ⟨b, off, none⟩ ∨ p.body = []) (hA : At w b off nb cb p.body) (hl : nb ≤ 70000) (g : ¬ parseW p.body = 0) :
    Calls Try.prog 32 #[.agg C] w fun e w' => e = .returned (.tuple #[.agg zeroFC, .int .i64 (whyI (parseW p.body))]) ∧ Below w.heap.size w w' := by
  have hC22 : C.size = 22 := by rw [HC.out]; rfl
  have e10 : ∀ q : 10 < C.size, C[10]'q = .slice ab nb cb := by have := HC.out; subst this; intro q; rfl
  have hb1 := below_alloc w (.cells C 37)
  have hb2 := below_alloc (w.alloc (.cells C 37)) (.cells zeroFC 37)
  have hu := wrparse_no ab b off nb cb p.body _ ha (hA.later (below_trans hb1 hb2)) (by omega) g
  have hne : (parseW p.body != 0) = true := by rw [bne_iff_ne]; exact g
  clear hA g
  go_enter Try.func32, Try.ntmps32
  go_wp2_with fail
  refine hu.mono ?_
  rintro e w3 ⟨rfl, hb3⟩
  have F3 := fc_new (n := w.heap.size + 1) (by simp) hb3
  have hs3 := hb3.size
  simp only [World.size_alloc] at hs3
  have bel3 := below_trans (below_trans hb1 hb2) hb3
  clear hu hb1 hb2 hb3
  go_wp2_with fail
  refine (rwhy_any _ _).mono ?_
  rintro e w4 ⟨rfl, rfl⟩
  have F4 := F3.later (by omega) (below_alloc w3 (.cells (wdC Wd.zero (.slice none 0 0)) 87))
  have bel4 := below_trans bel3 (below_alloc w3 (.cells (wdC Wd.zero (.slice none 0 0)) 87))
  go_wp2_with (refine store_fr rfl (.tmp 2) (.tmp 17) rfl (w.heap.size + 1) zeroFC rfl rfl (F4.there rfl) rfl oneZ ?_)
  refine bodyPost_ret (results_fr2 rfl _ _ (w.heap.size + 1) _ rfl (range_set zeroFC.toList rfl (F4.there rfl)) rfl) rfl ?_
  exact ⟨rfl, setCells_below _ _ _ _ _ (by omega) bel4⟩
set_option maxHeartbeats 4000000 in
theorem rw_none (p : Dg) (ao : Option Addr) (no co b off nb cb : Nat) (C : Array Value) (w : World) (HC : Hid (C = frC p (.slice ao no co) (.slice (some ⟨b, off, none⟩) nb cb) ⟨0, 0, 0, 0, 0, Inn.zero⟩)) (hA : At w b off nb cb p.body) (hl : nb ≤ 70000) (g : WGood p.body) (hk : kindW (b1 p.body 0) (b1 p.body 1) = 0) :
    Calls Try.prog 32 #[.agg C] w fun e w' => e = .returned (.tuple #[.agg zeroFC, .int .i64 4]) ∧ Below w.heap.size w w' := by
  have hC22 : C.size = 22 := by rw [HC.out]; rfl
  have e10 : ∀ q : 10 < C.size, C[10]'q = .slice (some ⟨b, off, none⟩) nb cb := by have := HC.out; subst this; intro q; rfl
  have hb1 := below_alloc w (.cells C 37)
  have hb2 := below_alloc (w.alloc (.cells C 37)) (.cells zeroFC 37)
  have hu := wrparse_own b off nb cb p.body _ (hA.later (below_trans hb1 hb2)) (by omega) g
  have HR : Hid (0 ≤ (wdOf p.body).rest ∧ (wdOf p.body).rest < 4294967296) := w4_bd p.body hA.bytes 4
  have HQ : Hid ((wdOf p.body).rest / 65536 = w2 p.body 4) := w4_high p.body hA.bytes 4
  have HK : Hid (kindW (wdOf p.body).type (wdOf p.body).code = kindW (b1 p.body 0) (b1 p.body 1)) := (rfl : kindW (wdOf p.body).type (wdOf p.body).code = _)
  have HBD : Hid (isBytes (wdOf p.body).data) := isBytes_drop hA.bytes 8
  have HD : Hid ((wdOf p.body).data = p.body.drop 8) := (rfl : (wdOf p.body).data = _)
  clear hA g
  go_enter Try.func32, Try.ntmps32
  go_wp2_with fail
  refine hu.mono ?_
  rintro e w3 ⟨a1, k1, rfl, hD3, hb3⟩
  have F3 := fc_new (n := w.heap.size + 1) (by simp) hb3
  have G3 := fc_new (n := w.heap.size) rfl (below_trans hb2 hb3)
  have hs3 := hb3.size
  simp only [World.size_alloc] at hs3 hD3
  have bel3 := below_trans (below_trans hb1 hb2) hb3
  clear hu hb1 hb2 hb3 e10
  obtain ⟨m, hm⟩ : ∃ m, wdOf p.body = m := ⟨_, rfl⟩
  rw [hm] at HR HQ HK HD HBD hD3 ⊢
  clear hm
  go_wp2_with fail
  refine (rkind_any m a1 _ k1 _).mono ?_
  rintro e w4 ⟨rfl, hb4⟩
  have hb34 := below_trans (below_alloc _ _) hb4
  have F4 := F3.later (by omega) hb34
  have G4 := G3.later (by omega) hb34
  have bel4 := below_trans bel3 hb34
  have hD4 := hD3.later hb34
  have c11 : w4.cell? ⟨w.heap.size, 11, none⟩ = some (.int .i64 0) := G4.c 11 _ (by rw [HC.out]; rfl)
  have f11 := G4.f 11
  obtain ⟨C1, hC1⟩ : ∃ C1, C1 = C.set 11 (.int .i64 (kindW m.type m.code)) (by omega) := ⟨_, rfl⟩
  have HC1 : Hid (C1 = frC p (.slice ao no co) (.slice (some ⟨b, off, none⟩) nb cb) ⟨0, kindW m.type m.code, 0, 0, 0, Inn.zero⟩) := by
    show C1 = _
    subst hC1
    have := HC.out
    subst this
    rfl
  have hC122 : C1.size = 22 := by rw [HC1.out]; rfl
  have G5 : FC (w4.setCell ⟨w.heap.size, 11, none⟩ (.int .i64 (kindW m.type m.code))) w.heap.size C1 := by rw [hC1]; exact G4.set 11 (by omega) _
  have F5 : FC (w4.setCell ⟨w.heap.size, 11, none⟩ (.int .i64 (kindW m.type m.code))) (w.heap.size + 1) zeroFC := F4.far (by omega)
  have bel5 : Below w.heap.size w (w4.setCell ⟨w.heap.size, 11, none⟩ (.int .i64 (kindW m.type m.code))) := bel4.setCell (Nat.le_refl _) _
  have m2 : w4.cell? ⟨w3.heap.size, 2, none⟩ = some (.int .u32 m.rest) := box_cell hb4 2 _ rfl
  have m3 : w4.cell? ⟨w3.heap.size, 3, none⟩ = some (.slice a1 m.data.length k1) := box_cell hb4 3 _ rfl
  have hs4 := hb4.size
  simp only [World.size_alloc] at hs4
  have q1 : ¬ (w.heap.size = w3.heap.size) := by omega
  have q2 : ¬ (w3.heap.size = w.heap.size) := by omega
  have hD5 := (hD4.store (q := ⟨w.heap.size, 11, none⟩) (by show w.heap.size < w.heap.size + 1 + 1; omega) (.int .i64 (kindW m.type m.code))).bts HBD.out
  clear hC1 F3 G3 F4 G4 bel3 bel4 hb4 hD3 hD4
  have hk0 : kindW m.type m.code = 0 := by rw [HK.out]; exact hk
  rw [hk0] at F5 bel5 ⊢
  clear G5 HC1 hC122 hk0 HK hk
  go_wp2_with (refine store_fr rfl (.tmp 2) (.tmp 38) rfl (w.heap.size + 1) zeroFC rfl rfl (F5.there rfl) rfl oneZ ?_)
  refine bodyPost_ret (results_fr2 rfl _ _ (w.heap.size + 1) _ rfl (range_set zeroFC.toList rfl (F5.there rfl)) rfl) rfl ?_
  exact ⟨rfl, setCells_below _ _ _ _ _ (by omega) bel5⟩

set_option maxHeartbeats 4000000 in
theorem rw_echo (p : Dg) (ao : Option Addr) (no co b off nb cb : Nat) (C : Array Value) (w : World) (HC : Hid (C = frC p (.slice ao no co) (.slice (some ⟨b, off, none⟩) nb cb) ⟨0, 0, 0, 0, 0, Inn.zero⟩)) (hA : At w b off nb cb p.body) (hl : nb ≤ 70000) (g : WGood p.body) (hk0 : ¬ kindW (b1 p.body 0) (b1 p.body 1) = 0) (hk5 : ¬ kindW (b1 p.body 0) (b1 p.body 1) = 5) :
    Calls Try.prog 32 #[.agg C] w fun e w' => ∃ C', e = .returned (.tuple #[.agg C', .int .i64 0]) ∧ Hid (C' = frC p (.slice ao no co) (.slice (some ⟨b, off, none⟩) nb cb) ⟨0, kindW (b1 p.body 0) (b1 p.body 1), w2 p.body 4, w2 p.body 4, 0, Inn.zero⟩) ∧ Below w.heap.size w w' := by
  have hC22 : C.size = 22 := by rw [HC.out]; rfl
  have e10 : ∀ q : 10 < C.size, C[10]'q = .slice (some ⟨b, off, none⟩) nb cb := by have := HC.out; subst this; intro q; rfl
  have hb1 := below_alloc w (.cells C 37)
  have hb2 := below_alloc (w.alloc (.cells C 37)) (.cells zeroFC 37)
  have hu := wrparse_own b off nb cb p.body _ (hA.later (below_trans hb1 hb2)) (by omega) g
  have HR : Hid (0 ≤ (wdOf p.body).rest ∧ (wdOf p.body).rest < 4294967296) := w4_bd p.body hA.bytes 4
  have HQ : Hid ((wdOf p.body).rest / 65536 = w2 p.body 4) := w4_high p.body hA.bytes 4
  have HK : Hid (kindW (wdOf p.body).type (wdOf p.body).code = kindW (b1 p.body 0) (b1 p.body 1)) := (rfl : kindW (wdOf p.body).type (wdOf p.body).code = _)
  have HBD : Hid (isBytes (wdOf p.body).data) := isBytes_drop hA.bytes 8
  have HD : Hid ((wdOf p.body).data = p.body.drop 8) := (rfl : (wdOf p.body).data = _)
  clear hA g
  go_enter Try.func32, Try.ntmps32
  go_wp2_with fail
  refine hu.mono ?_
  rintro e w3 ⟨a1, k1, rfl, hD3, hb3⟩
  have F3 := fc_new (n := w.heap.size + 1) (by simp) hb3
  have G3 := fc_new (n := w.heap.size) rfl (below_trans hb2 hb3)
  have hs3 := hb3.size
  simp only [World.size_alloc] at hs3 hD3
  have bel3 := below_trans (below_trans hb1 hb2) hb3
  clear hu hb1 hb2 hb3 e10
  obtain ⟨m, hm⟩ : ∃ m, wdOf p.body = m := ⟨_, rfl⟩
  rw [hm] at HR HQ HK HD HBD hD3 ⊢
  clear hm
  go_wp2_with fail
  refine (rkind_any m a1 _ k1 _).mono ?_
  rintro e w4 ⟨rfl, hb4⟩
  have hb34 := below_trans (below_alloc _ _) hb4
  have F4 := F3.later (by omega) hb34
  have G4 := G3.later (by omega) hb34
  have bel4 := below_trans bel3 hb34
  have hD4 := hD3.later hb34
  have c11 : w4.cell? ⟨w.heap.size, 11, none⟩ = some (.int .i64 0) := G4.c 11 _ (by rw [HC.out]; rfl)
  have f11 := G4.f 11
  obtain ⟨C1, hC1⟩ : ∃ C1, C1 = C.set 11 (.int .i64 (kindW m.type m.code)) (by omega) := ⟨_, rfl⟩
  have HC1 : Hid (C1 = frC p (.slice ao no co) (.slice (some ⟨b, off, none⟩) nb cb) ⟨0, kindW m.type m.code, 0, 0, 0, Inn.zero⟩) := by
    show C1 = _
    subst hC1
    have := HC.out
    subst this
    rfl
  have hC122 : C1.size = 22 := by rw [HC1.out]; rfl
  have G5 : FC (w4.setCell ⟨w.heap.size, 11, none⟩ (.int .i64 (kindW m.type m.code))) w.heap.size C1 := by rw [hC1]; exact G4.set 11 (by omega) _
  have F5 : FC (w4.setCell ⟨w.heap.size, 11, none⟩ (.int .i64 (kindW m.type m.code))) (w.heap.size + 1) zeroFC := F4.far (by omega)
  have bel5 : Below w.heap.size w (w4.setCell ⟨w.heap.size, 11, none⟩ (.int .i64 (kindW m.type m.code))) := bel4.setCell (Nat.le_refl _) _
  have m2 : w4.cell? ⟨w3.heap.size, 2, none⟩ = some (.int .u32 m.rest) := box_cell hb4 2 _ rfl
  have m3 : w4.cell? ⟨w3.heap.size, 3, none⟩ = some (.slice a1 m.data.length k1) := box_cell hb4 3 _ rfl
  have hs4 := hb4.size
  simp only [World.size_alloc] at hs4
  have q1 : ¬ (w.heap.size = w3.heap.size) := by omega
  have q2 : ¬ (w3.heap.size = w.heap.size) := by omega
  have hD5 := (hD4.store (q := ⟨w.heap.size, 11, none⟩) (by show w.heap.size < w.heap.size + 1 + 1; omega) (.int .i64 (kindW m.type m.code))).bts HBD.out
  clear hC1 F3 G3 F4 G4 bel3 bel4 hb4 hD3 hD4
  have k0' : (kindW m.type m.code == 0) = false := by rw [HK.out]; simpa using hk0
  have k5' : (kindW m.type m.code == 5) = false := by rw [HK.out]; simpa using hk5
  have c13 : (w4.setCell ⟨w.heap.size, 11, none⟩ (.int .i64 (kindW m.type m.code))).cell? ⟨w.heap.size, 13, none⟩ = some (.int .i64 0) := G5.c 13 _ (by rw [HC1.out]; rfl)
  have c15 : (w4.setCell ⟨w.heap.size, 11, none⟩ (.int .i64 (kindW m.type m.code))).cell? ⟨w.heap.size, 15, none⟩ = some (.int .i64 0) := G5.c 15 _ (by rw [HC1.out]; rfl)
  have fz := G5.f
  have r11 : (w4.setCell ⟨w.heap.size, 11, none⟩ (.int .i64 (kindW m.type m.code))).cell? ⟨w.heap.size, 11, none⟩ = some (.int .i64 (kindW m.type m.code)) := G5.c 11 _ (by rw [HC1.out]; rfl)
  have m2' : (w4.setCell ⟨w.heap.size, 11, none⟩ (.int .i64 (kindW m.type m.code))).cell? ⟨w3.heap.size, 2, none⟩ = some (.int .u32 m.rest) := by rw [World.cell?_setCell_far _ ⟨w.heap.size, 11, none⟩ ⟨w3.heap.size, 2, none⟩ _ q1]; exact m2
  have hw : IntKind.i64.wrap (m.rest / 65536) = m.rest / 65536 := i64_id _ (by have := HR.out; omega) (by have := HR.out; omega)
  have G6 := G5.set 13 (by omega) (.int .i64 (m.rest / 65536))
  have G7 := G6.set 15 (by rw [Array.size_set]; omega) (.int .i64 (m.rest / 65536))
  have F7 := (F5.far (m := w.heap.size) (i := 13) (v := .int .i64 (m.rest / 65536)) (by omega)).far (m := w.heap.size) (i := 15) (v := .int .i64 (m.rest / 65536)) (by omega)
  have bel7 := (bel5.setCell (p := ⟨w.heap.size, 13, none⟩) (Nat.le_refl _) (.int .i64 (m.rest / 65536))).setCell (p := ⟨w.heap.size, 15, none⟩) (Nat.le_refl _) (.int .i64 (m.rest / 65536))
  obtain ⟨C', HC', G8⟩ : ∃ C', Hid (C' = frC p (.slice ao no co) (.slice (some ⟨b, off, none⟩) nb cb) ⟨0, kindW m.type m.code, m.rest / 65536, m.rest / 65536, 0, Inn.zero⟩) ∧ FC (((w4.setCell ⟨w.heap.size, 11, none⟩ (.int .i64 (kindW m.type m.code))).setCell ⟨w.heap.size, 13, none⟩ (.int .i64 (m.rest / 65536))).setCell ⟨w.heap.size, 15, none⟩ (.int .i64 (m.rest / 65536))) w.heap.size C' := by
    refine ⟨_, ?_, G7⟩
    show _ = _
    have := HC1.out
    subst this
    rfl
  have hC'22 : C'.size = 22 := by rw [HC'.out]; rfl
  have hst := run_store_fr C' (F7.there rfl) hC'22 (by rw [HC'.out]; exact oneFr _ _ _ _ _ _ _ _)
  have hr := range_set C'.toList (by simpa using hC'22) (F7.there rfl)
  have bel8 := setCells_below (w.heap.size + 1) C'.toList 0 _ w.heap.size (by omega) bel7
  have HRR : Hid (kindW m.type m.code = kindW (b1 p.body 0) (b1 p.body 1) ∧ m.rest / 65536 = w2 p.body 4) := ⟨HK.out, HQ.out⟩
  clear G5 G6 G7 F5 F7 bel5 bel7 hk0 hk5 HQ HK
  go_wp2_with (refine load_let rfl (.tmp 1) rfl w.heap.size rfl C' G8 hC'22 ?_)
  refine bodyPost_ret (results_let rfl _ _ (w.heap.size + 1) C' rfl hr hC'22) rfl ?_
  refine ⟨C', rfl, ?_, bel8⟩
  show C' = _
  rw [HC'.out, HRR.out.1, HRR.out.2]
end Go.Proofs.Ytdejjokgchbgnaa
