/- The contract of Piece, the document's own answer, of bytes that are a segment. -/
import Derived.Test.YtdejjokgchbgnaaTcpRparse
set_option maxRecDepth 100000
namespace Go.Proofs.Ytdejjokgchbgnaa
open Go.RowKit
attribute [local go_sem ↓] Go.wp_at_zero Go.wp_at_succ

theorem drew13 {w : World} {a : Addr} {v : Value} (h : w.cell? a = some v) : w.drew.cell? a = some v := h

theorem drewN13 {w : World} {a : Addr} {v : Value} (h : w.cell? a = some v) (n : Nat) (hw : a.block < w.heap.size) : (w.drewN n).cell? a = some v := by
  rw [(below_drewN (Below.refl w.heap.size w) n).cell hw]; exact h

theorem laid13 {w : World} {n b o : Nat} {v : Value} (hn : n ≠ b) (h : w.cell? ⟨b, o, none⟩ = some v) (x0 x1 x2 x3 x4 x5 x6 x7 x8 : Value) :
    (((((((((w.setCell ⟨n, 0, none⟩ x0).setCell ⟨n, 1, none⟩ x1).setCell ⟨n, 2, none⟩ x2).setCell ⟨n, 3, none⟩ x3).setCell ⟨n, 4, none⟩ x4).setCell ⟨n, 5, none⟩ x5).setCell ⟨n, 6, none⟩ x6).setCell ⟨n, 7, none⟩ x7).setCell ⟨n, 8, none⟩ x8).cell? ⟨b, o, none⟩ = some v := by
  have key : ∀ (u : World) (i : Nat) (x : Value), (u.setCell ⟨n, i, none⟩ x).cell? ⟨b, o, none⟩ = u.cell? ⟨b, o, none⟩ := fun u i x => World.cell?_setCell_far u ⟨n, i, none⟩ ⟨b, o, none⟩ x hn
  simp only [key]
  exact h

set_option maxHeartbeats 8000000 in
theorem trparse_ok (s d : Int) (b off len cap : Nat) (l : List Int) (w : World) (s0 : 0 ≤ s) (s1 : s < 4294967296) (t0 : 0 ≤ d) (t1 : d < 4294967296) (hA : At w b off len cap l) (hl : len ≤ 70000) (g : TGood s d l) :
    Calls Try.prog 31 #[.int .u32 s, .int .u32 d, .slice (some ⟨b, off, none⟩) len cap] w fun e w' =>
      ∃ a1 k1 a2 k2, e = .returned (.tuple #[pcV (pcOf l) (.slice a1 (pcOf l).opts.length k1) (.slice a2 (pcOf l).data.length k2), .int .i64 0]) ∧ Bts w' (.slice a1 (pcOf l).opts.length k1) (pcOf l).opts ∧ Bts w' (.slice a2 (pcOf l).data.length k2) (pcOf l).data ∧ Below w.heap.size w w' := by
  have hL := hA.len
  obtain ⟨g1, g2, g3, g4, g5⟩ := g
  rw [hL] at g1 g4 g5
  have h' : ¬ (len : Int) < 20 := by omega
  have hl12 : (12 : Int) < (len : Int) := by omega
  have hl13 : (13 : Int) < (len : Int) := by omega
  have c12 := cell_later (below_alloc w (.cells zeroTC 69)) (hA.sees 12 (by rw [hA.len]; omega))
  have p13 : w.cell? ⟨b, off + 13, none⟩ = some (.int .u8 (b1 l 13)) := hA.sees 13 (by rw [hA.len]; omega)
  have hbn : b < w.heap.size := World.block_lt_of_cell? w _ p13
  have hbn' : w.heap.size ≠ b := by omega
  obtain ⟨x0, x1⟩ := b1_bd l hA.bytes 12
  obtain ⟨y0, y1⟩ := b1_bd l hA.bytes 13
  have e12 : l.getD 12 0 = b1 l 12 := rfl
  have hs : (fold16 (ws (pseudoB s d 6 len ++ l)) != 65535) = false := by rw [g5]; rfl
  have HLL : Hid (l.length = len) := hL
  have HBL : Hid (isBytes l) := hA.bytes
  rw [e12] at c12
  have HX : Hid (hdT l = b1 l 12 / 16 * 4) := (rfl : hdT l = _)
  rw [HX.out] at g2 g4
  have k4 : ¬ b1 l 12 / 16 * 4 < 20 := by omega
  have k5 : ¬ (len : Int) < b1 l 12 / 16 * 4 := by omega
  have hm : (b1 l 12 % 16 != 0) = false := by rw [g3]; rfl
  have u13 : IntKind.i64.wrap (b1 l 13) = b1 l 13 := i64_id _ (by omega) (by omega)
  clear e12 g3 hL g5
  go_enter Try.func31, Try.ntmps31
  go_wp2_with fail
  refine (rpseudo_any s d 6 (len : Int) _ s0 s1 t0 t1).mono ?_
  rintro e w2' ⟨v2, rfl, hP, hb2⟩
  obtain ⟨a4, n4, k4', rfl⟩ := hP.shape
  have hB2 := (hA.later (below_trans (below_alloc _ _) hb2)).bts
  go_wp2_with fail
  refine (rsum2 w2' _ _ _ _ _ 23 (by simp) hP hB2 (by rw [pseudo_length, HLL.out]; omega)).mono ?_
  rintro e w5 ⟨rfl, rfl⟩
  have hb3' := below_trans hb2 (below_alloc w2' (.cells #[.slice a4 n4 k4', .slice (some ⟨b, off, none⟩) len cap] 23))
  generalize (w2'.alloc (.cells #[.slice a4 n4 k4', .slice (some ⟨b, off, none⟩) len cap] 23)) = w3 at *
  have hy3 := below_trans (below_alloc w (.cells zeroTC 69)) hb3'
  have hA3 := hA.later hy3
  have HW : Hid (Below (w.alloc (.cells zeroTC 69)).heap.size (w.alloc (.cells zeroTC 69)) w3) := hb3'
  have hsz := hb3'.size
  simp only [World.size_alloc] at hsz
  have p13 := cell_later hy3 p13
  have hb13 : b < w3.heap.size := by omega
  clear hP hB2 hb2 c12 hb3'
  go_wp2_with fail
  go_region_held3 (fun w' => w'.cell? ⟨b, off + 13, none⟩ = some (.int .u8 (b1 l 13))) (first | (with_reducible exact drew13 p13) | (with_reducible exact drewN13 p13 _ hb13) | (with_reducible exact HP8.out) | (with_reducible exact cell_later hb7 p13) | (with_reducible exact laid13 HNB.out HP8.out _ _ _ _ _ _ _ _ _))
    (first
      | (go_at_call_of 47 (Value.int IntKind.i64 0); refine (rword_any b off len cap l 0 0 _ (by first | with_reducible exact hA3.later (Below.refl _ _).drew | with_reducible exact hA3.later (below_drewN (Below.refl _ _) _)) rfl (by omega) (by omega)).mono ?_; rintro e u0 ⟨rfl, n0, rfl⟩)
      | (go_at_call_of 47 (Value.int IntKind.i64 2); refine (rword_any b off len cap l 2 2 _ (by first | with_reducible exact hA3.later (Below.refl _ _).drew | with_reducible exact hA3.later (below_drewN (Below.refl _ _) _)) rfl (by omega) (by omega)).mono ?_; rintro e u2 ⟨rfl, n2, rfl⟩)
      | (go_at_call_of 48 (Value.int IntKind.i64 4); refine (rlong_any b off len cap l 4 4 _ (by first | with_reducible exact hA3.later (Below.refl _ _).drew | with_reducible exact hA3.later (below_drewN (Below.refl _ _) _)) rfl (by omega) (by omega)).mono ?_; rintro e u4 ⟨rfl, n4, rfl⟩)
      | (go_at_call_of 48 (Value.int IntKind.i64 8); refine (rlong_any b off len cap l 8 8 _ (by first | with_reducible exact hA3.later (Below.refl _ _).drew | with_reducible exact hA3.later (below_drewN (Below.refl _ _) _)) rfl (by omega) (by omega)).mono ?_; rintro e u8 ⟨rfl, n8, rfl⟩)
      | (go_at_call_of 47 (Value.int IntKind.i64 14); refine (rword_any b off len cap l 14 14 _ (by first | with_reducible exact hA3.later (Below.refl _ _).drew | with_reducible exact hA3.later (below_drewN (Below.refl _ _) _)) rfl (by omega) (by omega)).mono ?_; rintro e u14 ⟨rfl, n14, rfl⟩)
      | (go_at_call_of 47 (Value.int IntKind.i64 18); refine (rword_any b off len cap l 18 18 _ (by first | with_reducible exact hA3.later (Below.refl _ _).drew | with_reducible exact hA3.later (below_drewN (Below.refl _ _) _)) rfl (by omega) (by omega)).mono ?_; rintro e u18 ⟨rfl, n18, rfl⟩)
      | (go_at_call_of 23 (Value.int IntKind.i64 20); refine (part_any b off len cap l 20 (b1 l 12 / 16 * 4) 20 (b1 l 12 / 16 * 4).toNat _ (hA3.later (below_drewN (Below.refl _ _) _)) rfl (by omega) (by omega) (by omega) (by omega)).mono ?_; rintro e w7 ⟨v7, rfl, ho7, hb7'⟩; obtain ⟨a1, k1, rfl⟩ := Bts.shapeT (l := (pcOf l).opts) (ho7.bts (isBytes_part l HBL.out _ _)); have hb7 : Below w3.heap.size w3 w7 := below_trans (below_drewN (Below.refl _ _) _) hb7')
      | (go_at_call_of 23 (Value.int IntKind.i64 (len : Int)); refine (part_any b off len cap l (b1 l 12 / 16 * 4) (len : Int) (b1 l 12 / 16 * 4).toNat len _ (hA3.later hb7) (by omega) rfl (by omega) (by omega) (by omega)).mono ?_; rintro e w8 ⟨v8, rfl, ho8, hb8'⟩; rw [← HLL.out] at ho8; obtain ⟨a2, k2, rfl⟩ := Bts.shapeT (l := (pcOf l).data) (ho8.bts (isBytes_part l HBL.out _ _)); have hb8 := below_trans hb7 hb8'; have HP8 : Hid (w8.cell? ⟨b, off + 13, none⟩ = some (.int .u8 (b1 l 13))) := cell_later hb8 p13; have HNB : Hid (w.heap.size ≠ b) := hbn'; have HO7 : Hid (Owns w7 _ (.slice a1 (pcOf l).opts.length k1) (pcOf l).opts) := ho7; have HO8 : Hid (Owns w8 _ (.slice a2 (pcOf l).data.length k2) (pcOf l).data) := ho8; have HB7 : Hid (Below w3.heap.size w3 w7) := hb7; have HB8 : Hid (Below w7.heap.size w7 w8) := hb8'; have HY3 : Hid (Below w.heap.size w w3) := hy3; have HZ := zeroT_cells rfl (below_trans HW.out hb8); clear p13 hb13 hbn hbn' ho7 ho8 hb7 hb8 hb7' hb8' hy3 hA hA3 g1 g2 g4 k4 k5 hl h' hl12 hl13 hsz x0 x1 y0 y1 hm hs u13 s0 s1 t0 t1; obtain ⟨⟨z0, z1, z2, z3, z4, z5, z6, z7, z8⟩, hfz⟩ := HZ))
  have hlt : w.heap.size < w3.heap.size := by have := HW.out.size; simp only [World.size_alloc] at this; omega
  have hlt2 : w.heap.size < w7.heap.size := by have := HB7.out.size; omega
  have ho7 := (HO7.out).low (show w3.heap.size ≤ _ from Nat.le_refl _)
  have hB1 := laidT_owns (ho7.later HB8.out) hlt (pcOf l) (.slice a1 (pcOf l).opts.length k1) (.slice a2 (pcOf l).data.length k2)
  have hB2 := laidT_owns HO8.out hlt2 (pcOf l) (.slice a1 (pcOf l).opts.length k1) (.slice a2 (pcOf l).data.length k2)
  have hb8 := below_trans HB7.out HB8.out
  have bel := laidT_below (below_trans HY3.out hb8) (pcOf l) (.slice a1 (pcOf l).opts.length k1) (.slice a2 (pcOf l).data.length k2)
  obtain ⟨r0, r1, r2, r3, r4, r5, r6, r7, r8⟩ := laidT_cells rfl (below_trans HW.out hb8) (pcOf l) (.slice a1 (pcOf l).opts.length k1) (.slice a2 (pcOf l).data.length k2)
  obtain ⟨W, hW⟩ : ∃ W, W = laidT w8 w.heap.size (pcOf l) (.slice a1 (pcOf l).opts.length k1) (.slice a2 (pcOf l).data.length k2) := ⟨_, rfl⟩
  have hW' : (((((((((w8.setCell ⟨w.heap.size, 0, none⟩ (.int .i64 (w2 l 0))).setCell ⟨w.heap.size, 1, none⟩ (.int .i64 (w2 l 2))).setCell ⟨w.heap.size, 2, none⟩ (.int .u32 (w4 l 4))).setCell ⟨w.heap.size, 3, none⟩ (.int .u32 (w4 l 8))).setCell ⟨w.heap.size, 4, none⟩ (.int .i64 (b1 l 13))).setCell ⟨w.heap.size, 5, none⟩ (.int .i64 (w2 l 14))).setCell ⟨w.heap.size, 6, none⟩ (.int .i64 (w2 l 18))).setCell ⟨w.heap.size, 7, none⟩ (.slice a1 (pcOf l).opts.length k1)).setCell ⟨w.heap.size, 8, none⟩ (.slice a2 (pcOf l).data.length k2)) = W := hW.symm
  rw [hW']
  rw [← hW] at hB1 hB2 bel r0 r1 r2 r3 r4 r5 r6 r7 r8
  clear hW hW' z0 z1 z2 z3 z4 z5 z6 z7 z8 hfz ho7 hb8
  have hb1 := hB1.bts (isBytes_part l HBL.out _ _)
  have hb2 := hB2.bts (isBytes_part l HBL.out _ _)
  clear hB1 hB2
  go_wp2
  refine bodyPost_ret (v := .tuple #[pcV (pcOf l) (.slice a1 (pcOf l).opts.length k1) (.slice a2 (pcOf l).data.length k2), .int .i64 0]) ?_ rfl ?_
  · simp [results, Try.results31, go_sem, r0, r1, r2, r3, r4, r5, r6, r7, r8]
  exact ⟨_, _, _, _, rfl, hb1, hb2, bel⟩
end Go.Proofs.Ytdejjokgchbgnaa
