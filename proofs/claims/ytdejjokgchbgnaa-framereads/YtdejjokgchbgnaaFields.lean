/- The contract of fields. -/
import Derived.Test.YtdejjokgchbgnaaRow
import Derived.Test.YtdejjokgchbgnaaMeasured
import Derived.Test.YtdejjokgchbgnaaJoin
import Derived.Test.YtdejjokgchbgnaaIpSmall
import Derived.Test.YtdejjokgchbgnaaCatch
import Derived.Deep.RegionHeld3
import Derived.Deep.DrawnRows
set_option maxRecDepth 100000
namespace Go.Proofs.Ytdejjokgchbgnaa
open Go.RowKit
attribute [local go_sem ↓] Go.wp_at_zero Go.wp_at_succ

@[reducible] def zeroC : Array Value := #[.int .i64 0, .int .i64 0, .bool false, .bool false, .int .i64 0, .int .i64 0, .int .i64 0, .int .u32 0, .int .u32 0, .slice none 0 0, .slice none 0 0]

theorem zero_cells {w w0 w' : World} {t : TypeId} (h : w0 = w.alloc (.cells zeroC t)) (hb : Below w0.heap.size w0 w') :
    (w'.cell? ⟨w.heap.size, 0, none⟩ = some (.int .i64 0) ∧ w'.cell? ⟨w.heap.size, 1, none⟩ = some (.int .i64 0) ∧ w'.cell? ⟨w.heap.size, 2, none⟩ = some (.bool false) ∧ w'.cell? ⟨w.heap.size, 3, none⟩ = some (.bool false) ∧
    w'.cell? ⟨w.heap.size, 4, none⟩ = some (.int .i64 0) ∧ w'.cell? ⟨w.heap.size, 5, none⟩ = some (.int .i64 0) ∧ w'.cell? ⟨w.heap.size, 6, none⟩ = some (.int .i64 0) ∧ w'.cell? ⟨w.heap.size, 7, none⟩ = some (.int .u32 0) ∧
    w'.cell? ⟨w.heap.size, 8, none⟩ = some (.int .u32 0) ∧ w'.cell? ⟨w.heap.size, 9, none⟩ = some (.slice none 0 0) ∧ w'.cell? ⟨w.heap.size, 10, none⟩ = some (.slice none 0 0)) ∧ ∀ i, w'.frozen? ⟨w.heap.size, i, none⟩ = false := by
  subst h
  have hc : ∀ i v, zeroC[i]? = some v → w'.cell? ⟨w.heap.size, i, none⟩ = some v := by
    intro i v hv
    refine cell_later hb ?_
    rw [World.cell?_alloc_mark w zeroC t (0, 0) i]; exact hv
  refine ⟨⟨hc 0 _ rfl, hc 1 _ rfl, hc 2 _ rfl, hc 3 _ rfl, hc 4 _ rfl, hc 5 _ rfl, hc 6 _ rfl, hc 7 _ rfl, hc 8 _ rfl, hc 9 _ rfl, hc 10 _ rfl⟩, fun i => ?_⟩
  rw [hb.frozen (by simp), World.frozen?_alloc_mark w zeroC t 0 0 i]; simp

set_option maxHeartbeats 4000000 in
theorem fields_any (b off len cap : Nat) (l : List Int) (w : World) (hA : At w b off len cap l) (g : Good l) :
    Calls Try.prog 42 #[.slice (some ⟨b, off, none⟩) len cap, .int .i64 (hdOf l), .int .i64 (w2 l 2)] w fun e w' =>
      ∃ vo vb, e = .returned (ipV (dgOf l) vo vb) ∧ Owns w' w.heap.size vo (dgOf l).opts ∧ Owns w' w.heap.size vb (dgOf l).body ∧ Below w.heap.size w w' := by
  have HL : Hid (l.length = len) := hA.len
  obtain ⟨g1, g2, g3, g4, g5, g6, g7, g8, g9⟩ := g
  rw [HL.out] at g1 g2 g5 g8
  have x6 := w2_bd l hA.bytes 6
  have x12 := w4_bd l hA.bytes 12
  have x16 := w4_bd l hA.bytes 16
  have hc := hA.cap1
  have n14 := bit14 (w2 l 6) x6.1 x6.2
  have n13 := bit13 (w2 l 6) x6.1 x6.2
  have nm := mask13 (w2 l 6) x6.1 x6.2
  have i1 : ¬ hdOf l < 20 := by omega
  have i2 : ¬ (cap : Int) < hdOf l := by omega
  have i3 : ¬ w2 l 2 < hdOf l := by omega
  have i4 : ¬ (cap : Int) < w2 l 2 := by omega
  have u12 : IntKind.u32.wrap (w4 l 12) = w4 l 12 := u32_id _ x12.1 (by omega)
  have u16 : IntKind.u32.wrap (w4 l 16) = w4 l 16 := u32_id _ x16.1 (by omega)
  have i5 : (0 : Int) ≤ hdOf l := by omega
  have i6 : (0 : Int) ≤ w2 l 2 := by omega
  have i7 : w2 l 2 ≤ (cap : Int) := by omega
  have i8 : hdOf l ≤ (cap : Int) := by omega
  have e1 : getV l 1 1 = b1 l 1 := getV1 l 1 (by rw [HL.out]; omega)
  have e4 : getV l 4 2 = w2 l 4 := getV2 l 4 (by rw [HL.out]; omega)
  have e8 : getV l 8 1 = b1 l 8 := getV1 l 8 (by rw [HL.out]; omega)
  have e9 : getV l 9 1 = b1 l 9 := getV1 l 9 (by rw [HL.out]; omega)
  have e12 : getV l 12 4 = w4 l 12 := getV4 l 12 (by rw [HL.out]; omega)
  have e16 : getV l 16 4 = w4 l 16 := getV4 l 16 (by rw [HL.out]; omega)
  obtain ⟨V1, hsl1, ho1⟩ := slice_part b off len cap 20 (hdOf l) 20 (hdOf l).toNat rfl (by omega) (by omega) (by omega)
  obtain ⟨V2, hsl2, ho2⟩ := slice_part b off len cap (hdOf l) (w2 l 2) (hdOf l).toNat (w2 l 2).toNat (by omega) (by omega) (by omega) (by omega)
  clear g9 g3 g7
  go_enter Try.func42, Try.ntmps42
  go_wp2_with fail
  refine (number2 b off len cap l 6 6 _ (hA.later (below_alloc _ _)) rfl (by omega)).mono ?_
  rintro e w0 ⟨rfl, hw0⟩
  have hb0 : Below w.heap.size w w0 := by rw [hw0]; exact below_alloc _ _
  have hn0 : Below (w0.heap.size) w0 w0 := Below.refl _ _
  have HW : Hid (w0 = _) := hw0
  have hA0 := hA.later hb0
  clear hw0 hn0
  go_wp2_with fail
  go_region_held3 (fun w' => True) (first | trivial | go_keep)
    (first
      | (go_at_call 56; refine (number_yes b off len cap l _ _ _ hA0.cap1 hA0.cap2 hA0.len hA0.bytes (by exact hA0.sees) (by decide) (by unfold holdsB; simp; omega)).mono ?_; rintro e w' ⟨rfl, rfl⟩)
      | (go_at_call_of 58 V1; refine (clone_part V1 b off len cap 20 (hdOf l).toNat l _ ho1 (hA0.later (Below.refl _ _).drew) (by omega) (by omega) (by omega)).mono ?_; rintro e w1 ⟨v1, rfl, hv1, hb1'⟩; obtain ⟨a1, m1, k1, rfl⟩ := (hv1.bts (isBytes_part l hA.bytes _ _)).shape; have hb1 : Below w0.heap.size w0 w1 := below_trans (Below.refl _ _).drew hb1')
      | (go_at_call_of 58 V2; refine (clone_part V2 b off len cap (hdOf l).toNat (w2 l 2).toNat l _ ho2 (hA0.later hb1) (by omega) (by omega) (by omega)).mono ?_; rintro e w2' ⟨v2, rfl, hv2, hb2'⟩; obtain ⟨a2, m2, k2, rfl⟩ := (hv2.bts (isBytes_part l hA.bytes _ _)).shape; have hb2 := below_trans hb1 hb2'; obtain ⟨⟨c0, c1, c2, c3, c4, c5, c6, c7, c8, c9, c10⟩, hfz⟩ := zero_cells HW.out hb2))
  have hs0 := hb1.size
  have hsz0 : w0.heap.size = w.heap.size + 1 := by rw [HW.out]; simp
  obtain ⟨W, hW⟩ : ∃ W, W = (((((((((((w2'.setCell ⟨w.heap.size, 0, none⟩ (.int .i64 (b1 l 1))).setCell ⟨w.heap.size, 1, none⟩ (.int .i64 (w2 l 4))).setCell ⟨w.heap.size, 2, none⟩ (.bool (bit (w2 l 6) 16384))).setCell ⟨w.heap.size, 3, none⟩ (.bool (bit (w2 l 6) 8192))).setCell ⟨w.heap.size, 4, none⟩ (.int .i64 (w2 l 6 % 8192))).setCell ⟨w.heap.size, 5, none⟩ (.int .i64 (b1 l 8))).setCell ⟨w.heap.size, 6, none⟩ (.int .i64 (b1 l 9))).setCell ⟨w.heap.size, 7, none⟩ (.int .u32 (w4 l 12))).setCell ⟨w.heap.size, 8, none⟩ (.int .u32 (w4 l 16))).setCell ⟨w.heap.size, 9, none⟩ (.slice a1 m1 k1)).setCell ⟨w.heap.size, 10, none⟩ (.slice a2 m2 k2)) := ⟨_, rfl⟩
  have hlt : w.heap.size < w0.heap.size := by omega
  have hlt' : w.heap.size < w0.drew.heap.size := hlt
  have hlt2 : w.heap.size < w1.heap.size := by omega
  have B1 : Owns W w0.drew.heap.size (.slice a1 m1 k1) ((l.drop 20).take ((hdOf l).toNat - 20)) := by
    rw [hW]
    exact (((((((((((hv1.later hb2').store hlt' _).store hlt' _).store hlt' _).store hlt' _).store hlt' _).store hlt' _).store hlt' _).store hlt' _).store hlt' _).store hlt' _).store hlt' _
  have B2 : Owns W w1.heap.size (.slice a2 m2 k2) ((l.drop (hdOf l).toNat).take ((w2 l 2).toNat - (hdOf l).toNat)) := by
    rw [hW]
    exact (((((((((((hv2).store hlt2 _).store hlt2 _).store hlt2 _).store hlt2 _).store hlt2 _).store hlt2 _).store hlt2 _).store hlt2 _).store hlt2 _).store hlt2 _).store hlt2 _
  have bel : Below w.heap.size w W := by
    rw [hW]
    have hle : w.heap.size ≤ w.heap.size := Nat.le_refl _
    exact ((((((((((((below_trans hb0 hb2).setCell hle _).setCell hle _).setCell hle _).setCell hle _).setCell hle _).setCell hle _).setCell hle _).setCell hle _).setCell hle _).setCell hle _).setCell hle _)
  have r0 : W.cell? ⟨w.heap.size, 0, none⟩ = some (.int .i64 (b1 l 1)) := by rw [hW]; simp [go_sem, c0]
  have r1 : W.cell? ⟨w.heap.size, 1, none⟩ = some (.int .i64 (w2 l 4)) := by rw [hW]; simp [go_sem, c1]
  have r2 : W.cell? ⟨w.heap.size, 2, none⟩ = some (.bool (bit (w2 l 6) 16384)) := by rw [hW]; simp [go_sem, c2]
  have r3 : W.cell? ⟨w.heap.size, 3, none⟩ = some (.bool (bit (w2 l 6) 8192)) := by rw [hW]; simp [go_sem, c3]
  have r4 : W.cell? ⟨w.heap.size, 4, none⟩ = some (.int .i64 (w2 l 6 % 8192)) := by rw [hW]; simp [go_sem, c4]
  have r5 : W.cell? ⟨w.heap.size, 5, none⟩ = some (.int .i64 (b1 l 8)) := by rw [hW]; simp [go_sem, c5]
  have r6 : W.cell? ⟨w.heap.size, 6, none⟩ = some (.int .i64 (b1 l 9)) := by rw [hW]; simp [go_sem, c6]
  have r7 : W.cell? ⟨w.heap.size, 7, none⟩ = some (.int .u32 (w4 l 12)) := by rw [hW]; simp [go_sem, c7]
  have r8 : W.cell? ⟨w.heap.size, 8, none⟩ = some (.int .u32 (w4 l 16)) := by rw [hW]; simp [go_sem, c8]
  have r9 : W.cell? ⟨w.heap.size, 9, none⟩ = some (.slice a1 m1 k1) := by rw [hW]; simp [go_sem, c9]
  have r10 : W.cell? ⟨w.heap.size, 10, none⟩ = some (.slice a2 m2 k2) := by rw [hW]; simp [go_sem, c10]
  rw [← hW]
  clear hW c0 c1 c2 c3 c4 c5 c6 c7 c8 c9 c10 hfz hv1 hv2 hb1 hb2 hb1' hb2' hb0 hA hA0 hsl1 hsl2 ho1 ho2
  go_wp2
  refine bodyPost_ret (v := ipV (dgOf l) (.slice a1 m1 k1) (.slice a2 m2 k2)) ?_ rfl ?_
  · simp [results, Try.results42, go_sem, r0, r1, r2, r3, r4, r5, r6, r7, r8, r9, r10, dgOf]
  exact ⟨_, _, rfl, B1.low (Nat.le_of_lt hlt'), B2.low (Nat.le_of_lt hlt2), bel⟩
end Go.Proofs.Ytdejjokgchbgnaa
