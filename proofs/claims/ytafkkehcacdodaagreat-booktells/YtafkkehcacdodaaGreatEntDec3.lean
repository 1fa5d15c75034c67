/- The contract of Decode where it answers OK. -/
import Derived.Test.YtafkkehcacdodaaGreatEntDec2
set_option maxRecDepth 100000
namespace Go.Proofs.YtafkkehcacdodaaGreat
open Go.RowKit

set_option maxHeartbeats 4000000 in
theorem decode_ok1 (b off len cap : Nat) (l : List Int) (w : World) (hA : At w b off len cap l) (hbl : b < w.heap.size) (h : whyM l = 0) (h9 : 9 ≤ len) (hk : b1 l 0 = 1) (ht : num ((l.drop 1).take 8) ≤ 1099511627776) (hE : entE l = ⟨1, num ((l.drop 1).take 8), 0, 0, 0⟩) :
    Calls Tryz.prog 65 #[.slice (some ⟨b, off, none⟩) len cap] w fun r w' => r = .returned (.tuple #[enV (entE l), .int .i64 0]) ∧ Below w.heap.size w w' := by
  have hc2 := hA.cap2
  have hc1 := hA.cap1
  have hA0 : At (w.alloc (.cells zEC 73)) b off len cap l := hA.later (below_alloc _ _)
  have H := measured_any _ b off len cap l (w.alloc (.cells zEC 73)) (Nat.le_trans hc1 hc2) hA.len hA.bytes (.inl rfl) hA0.sees
  rw [h] at H
  have HS := fun w1 => start_dc w w1 w.heap.size (w.heap.size + 1) (w.heap.size + 1 + 1) b off len cap l (b1 l 0) rfl rfl rfl hA hbl (by omega)
  rw [hk] at HS
  have ht0 := (num_part_bd l hA.bytes 1 8 18446744073709551616 (by decide)).1
  obtain ⟨t, hgt⟩ : ∃ t, t = num ((l.drop 1).take 8) := ⟨_, rfl⟩
  have Hgt : Hid (t = num ((l.drop 1).take 8)) := hgt
  rw [← hgt] at ht ht0 hE
  clear hgt
  rw [hE]
  clear hA0 hA hE
  go_enter Tryz.func65, Tryz.ntmps65
  go_wp2_with fail
  refine H.mono ?_
  rintro r w1 ⟨rfl, rfl⟩
  go_wp2_with fail
  refine (HS _ rfl).mono ?_
  rintro r w2 ⟨rfl, hsz, hdc⟩
  have HT := take_dc (hdc _ rfl) 8 8 rfl (by decide) (by decide) (by omega)
  rw [← Hgt.out] at HT
  have hti : IntKind.i64.wrap t = t := i64_id _ ht0 (by omega)
  clear hdc HS H h
  go_wp2_with fail
  refine HT.mono ?_
  rintro r w3 ⟨rfl, hd⟩
  obtain ⟨c0, c1, c2, c3, c4⟩ := hd.ent.cells
  have hf := hd.ent.frozen
  have hd' := hd.set (e' := ⟨1, t, 0, 0, 0⟩) 1 (.int .i64 t) rfl
  obtain ⟨g0, g1, g2, g3, g4⟩ := hd.ans.cells
  have gf := hd.ans.frozen
  clear HT hd
  have bel := laid9_below hd'.below ⟨1, t, 0, 0, 0⟩
  obtain ⟨d0, d1, d2, d3, d4⟩ := (laid9_ent hd'.ans ⟨1, t, 0, 0, 0⟩).cells
  obtain ⟨W, hW⟩ : ∃ W, W = laid9 (w3.setCell ⟨w.heap.size + 1 + 1, 1, none⟩ (.int .i64 t)) w.heap.size ⟨1, t, 0, 0, 0⟩ := ⟨_, rfl⟩
  rw [← hW] at bel d0 d1 d2 d3 d4
  clear hd'
  go_wp2
  change bodyPost Tryz.prog Tryz.f65 _ Exit.ret _ (laid9 (w3.setCell ⟨w.heap.size + 1 + 1, 1, none⟩ (.int .i64 t)) w.heap.size ⟨1, t, 0, 0, 0⟩)
  rw [← hW]
  clear hW
  refine bodyPost_ret (v := .tuple #[enV ⟨1, t, 0, 0, 0⟩, .int .i64 0]) ?_ rfl ?_
  · simp [results, Tryz.results65, go_sem, d0, d1, d2, d3, d4]
  exact ⟨rfl, bel⟩

set_option maxHeartbeats 4000000 in
theorem decode_ok2 (b off len cap : Nat) (l : List Int) (w : World) (hA : At w b off len cap l) (hbl : b < w.heap.size) (h : whyM l = 0) (h9 : 19 ≤ len) (hk : b1 l 0 = 2) (ht : num ((l.drop 1).take 8) ≤ 1099511627776) (hE : entE l = ⟨2, num ((l.drop 1).take 8), num ((l.drop 9).take 4), num ((l.drop 13).take 4), num ((l.drop 17).take 2)⟩) :
    Calls Tryz.prog 65 #[.slice (some ⟨b, off, none⟩) len cap] w fun r w' => r = .returned (.tuple #[enV (entE l), .int .i64 0]) ∧ Below w.heap.size w w' := by
  have hc2 := hA.cap2
  have hc1 := hA.cap1
  have hA0 : At (w.alloc (.cells zEC 73)) b off len cap l := hA.later (below_alloc _ _)
  have H := measured_any _ b off len cap l (w.alloc (.cells zEC 73)) (Nat.le_trans hc1 hc2) hA.len hA.bytes (.inl rfl) hA0.sees
  rw [h] at H
  have HS := fun w1 => start_dc w w1 w.heap.size (w.heap.size + 1) (w.heap.size + 1 + 1) b off len cap l (b1 l 0) rfl rfl rfl hA hbl (by omega)
  rw [hk] at HS
  have ht0 := (num_part_bd l hA.bytes 1 8 18446744073709551616 (by decide)).1
  have bds := num_part_bd l hA.bytes 9 4 4294967296 (by decide)
  have bda := num_part_bd l hA.bytes 13 4 4294967296 (by decide)
  have bdbb := num_part_bd l hA.bytes 17 2 65536 (by decide)
  obtain ⟨t, hgt⟩ : ∃ t, t = num ((l.drop 1).take 8) := ⟨_, rfl⟩
  have Hgt : Hid (t = num ((l.drop 1).take 8)) := hgt
  rw [← hgt] at ht ht0 hE
  clear hgt
  obtain ⟨s, hgs⟩ : ∃ s, s = num ((l.drop 9).take 4) := ⟨_, rfl⟩
  have Hgs : Hid (s = num ((l.drop 9).take 4)) := hgs
  rw [← hgs] at bds hE
  clear hgs
  obtain ⟨a, hga⟩ : ∃ a, a = num ((l.drop 13).take 4) := ⟨_, rfl⟩
  have Hga : Hid (a = num ((l.drop 13).take 4)) := hga
  rw [← hga] at bda hE
  clear hga
  obtain ⟨bb, hgbb⟩ : ∃ bb, bb = num ((l.drop 17).take 2) := ⟨_, rfl⟩
  have Hgbb : Hid (bb = num ((l.drop 17).take 2)) := hgbb
  rw [← hgbb] at bdbb hE
  clear hgbb
  rw [hE]
  clear hA0 hA hE
  go_enter Tryz.func65, Tryz.ntmps65
  go_wp2_with fail
  refine H.mono ?_
  rintro r w1 ⟨rfl, rfl⟩
  go_wp2_with fail
  refine (HS _ rfl).mono ?_
  rintro r w2 ⟨rfl, hsz, hdc⟩
  have HT := take_dc (hdc _ rfl) 8 8 rfl (by decide) (by decide) (by omega)
  rw [← Hgt.out] at HT
  have hti : IntKind.i64.wrap t = t := i64_id _ ht0 (by omega)
  clear hdc HS H h
  go_wp2_with fail
  refine HT.mono ?_
  rintro r w3 ⟨rfl, hd⟩
  obtain ⟨c0, c1, c2, c3, c4⟩ := hd.ent.cells
  have hf := hd.ent.frozen
  have hd' := hd.set (e' := ⟨2, t, 0, 0, 0⟩) 1 (.int .i64 t) rfl
  clear HT hd
  have HT := take_dc hd' 4 4 rfl (by decide) (by decide) (by omega)
  rw [← Hgs.out] at HT
  have hwis : IntKind.u32.wrap s = s := u32_id _ bds.1 (by omega)
  clear hd'
  go_wp2_with fail
  refine HT.mono ?_
  rintro r w4 ⟨rfl, hd⟩
  clear c0 c1 c2 c3 c4 hf
  obtain ⟨c0, c1, c2, c3, c4⟩ := hd.ent.cells
  have hf := hd.ent.frozen
  have hd' := hd.set (e' := ⟨2, t, s, 0, 0⟩) 2 (.int .u32 s) rfl
  clear HT hd
  have HT := take_dc hd' 4 4 rfl (by decide) (by decide) (by omega)
  rw [← Hga.out] at HT
  have hwia : IntKind.u32.wrap a = a := u32_id _ bda.1 (by omega)
  clear hd'
  go_wp2_with fail
  refine HT.mono ?_
  rintro r w5 ⟨rfl, hd⟩
  clear c0 c1 c2 c3 c4 hf
  obtain ⟨c0, c1, c2, c3, c4⟩ := hd.ent.cells
  have hf := hd.ent.frozen
  have hd' := hd.set (e' := ⟨2, t, s, a, 0⟩) 3 (.int .u32 a) rfl
  clear HT hd
  have HT := take_dc hd' 2 2 rfl (by decide) (by decide) (by omega)
  rw [← Hgbb.out] at HT
  have hwibb : IntKind.i64.wrap bb = bb := i64_id _ bdbb.1 (by omega)
  clear hd'
  go_wp2_with fail
  refine HT.mono ?_
  rintro r w6 ⟨rfl, hd⟩
  clear c0 c1 c2 c3 c4 hf
  obtain ⟨c0, c1, c2, c3, c4⟩ := hd.ent.cells
  have hf := hd.ent.frozen
  have hd' := hd.set (e' := ⟨2, t, s, a, bb⟩) 4 (.int .i64 bb) rfl
  obtain ⟨g0, g1, g2, g3, g4⟩ := hd.ans.cells
  have gf := hd.ans.frozen
  clear HT hd
  have bel := laid9_below hd'.below ⟨2, t, s, a, bb⟩
  obtain ⟨d0, d1, d2, d3, d4⟩ := (laid9_ent hd'.ans ⟨2, t, s, a, bb⟩).cells
  obtain ⟨W, hW⟩ : ∃ W, W = laid9 (w6.setCell ⟨w.heap.size + 1 + 1, 4, none⟩ (.int .i64 bb)) w.heap.size ⟨2, t, s, a, bb⟩ := ⟨_, rfl⟩
  rw [← hW] at bel d0 d1 d2 d3 d4
  clear hd'
  go_wp2
  change bodyPost Tryz.prog Tryz.f65 _ Exit.ret _ (laid9 (w6.setCell ⟨w.heap.size + 1 + 1, 4, none⟩ (.int .i64 bb)) w.heap.size ⟨2, t, s, a, bb⟩)
  rw [← hW]
  clear hW
  refine bodyPost_ret (v := .tuple #[enV ⟨2, t, s, a, bb⟩, .int .i64 0]) ?_ rfl ?_
  · simp [results, Tryz.results65, go_sem, d0, d1, d2, d3, d4]
  exact ⟨rfl, bel⟩

set_option maxHeartbeats 4000000 in
theorem decode_ok3 (b off len cap : Nat) (l : List Int) (w : World) (hA : At w b off len cap l) (hbl : b < w.heap.size) (h : whyM l = 0) (h9 : 15 ≤ len) (hk : b1 l 0 = 3) (ht : num ((l.drop 1).take 8) ≤ 1099511627776) (hE : entE l = ⟨3, num ((l.drop 1).take 8), 0, num ((l.drop 9).take 4), num ((l.drop 13).take 2)⟩) :
    Calls Tryz.prog 65 #[.slice (some ⟨b, off, none⟩) len cap] w fun r w' => r = .returned (.tuple #[enV (entE l), .int .i64 0]) ∧ Below w.heap.size w w' := by
  have hc2 := hA.cap2
  have hc1 := hA.cap1
  have hA0 : At (w.alloc (.cells zEC 73)) b off len cap l := hA.later (below_alloc _ _)
  have H := measured_any _ b off len cap l (w.alloc (.cells zEC 73)) (Nat.le_trans hc1 hc2) hA.len hA.bytes (.inl rfl) hA0.sees
  rw [h] at H
  have HS := fun w1 => start_dc w w1 w.heap.size (w.heap.size + 1) (w.heap.size + 1 + 1) b off len cap l (b1 l 0) rfl rfl rfl hA hbl (by omega)
  rw [hk] at HS
  have ht0 := (num_part_bd l hA.bytes 1 8 18446744073709551616 (by decide)).1
  have bda := num_part_bd l hA.bytes 9 4 4294967296 (by decide)
  have bdbb := num_part_bd l hA.bytes 13 2 65536 (by decide)
  obtain ⟨t, hgt⟩ : ∃ t, t = num ((l.drop 1).take 8) := ⟨_, rfl⟩
  have Hgt : Hid (t = num ((l.drop 1).take 8)) := hgt
  rw [← hgt] at ht ht0 hE
  clear hgt
  obtain ⟨a, hga⟩ : ∃ a, a = num ((l.drop 9).take 4) := ⟨_, rfl⟩
  have Hga : Hid (a = num ((l.drop 9).take 4)) := hga
  rw [← hga] at bda hE
  clear hga
  obtain ⟨bb, hgbb⟩ : ∃ bb, bb = num ((l.drop 13).take 2) := ⟨_, rfl⟩
  have Hgbb : Hid (bb = num ((l.drop 13).take 2)) := hgbb
  rw [← hgbb] at bdbb hE
  clear hgbb
  rw [hE]
  clear hA0 hA hE
  go_enter Tryz.func65, Tryz.ntmps65
  go_wp2_with fail
  refine H.mono ?_
  rintro r w1 ⟨rfl, rfl⟩
  go_wp2_with fail
  refine (HS _ rfl).mono ?_
  rintro r w2 ⟨rfl, hsz, hdc⟩
  have HT := take_dc (hdc _ rfl) 8 8 rfl (by decide) (by decide) (by omega)
  rw [← Hgt.out] at HT
  have hti : IntKind.i64.wrap t = t := i64_id _ ht0 (by omega)
  clear hdc HS H h
  go_wp2_with fail
  refine HT.mono ?_
  rintro r w3 ⟨rfl, hd⟩
  obtain ⟨c0, c1, c2, c3, c4⟩ := hd.ent.cells
  have hf := hd.ent.frozen
  have hd' := hd.set (e' := ⟨3, t, 0, 0, 0⟩) 1 (.int .i64 t) rfl
  clear HT hd
  have HT := take_dc hd' 4 4 rfl (by decide) (by decide) (by omega)
  rw [← Hga.out] at HT
  have hwia : IntKind.u32.wrap a = a := u32_id _ bda.1 (by omega)
  clear hd'
  go_wp2_with fail
  refine HT.mono ?_
  rintro r w4 ⟨rfl, hd⟩
  clear c0 c1 c2 c3 c4 hf
  obtain ⟨c0, c1, c2, c3, c4⟩ := hd.ent.cells
  have hf := hd.ent.frozen
  have hd' := hd.set (e' := ⟨3, t, 0, a, 0⟩) 3 (.int .u32 a) rfl
  clear HT hd
  have HT := take_dc hd' 2 2 rfl (by decide) (by decide) (by omega)
  rw [← Hgbb.out] at HT
  have hwibb : IntKind.i64.wrap bb = bb := i64_id _ bdbb.1 (by omega)
  clear hd'
  go_wp2_with fail
  refine HT.mono ?_
  rintro r w5 ⟨rfl, hd⟩
  clear c0 c1 c2 c3 c4 hf
  obtain ⟨c0, c1, c2, c3, c4⟩ := hd.ent.cells
  have hf := hd.ent.frozen
  have hd' := hd.set (e' := ⟨3, t, 0, a, bb⟩) 4 (.int .i64 bb) rfl
  obtain ⟨g0, g1, g2, g3, g4⟩ := hd.ans.cells
  have gf := hd.ans.frozen
  clear HT hd
  have bel := laid9_below hd'.below ⟨3, t, 0, a, bb⟩
  obtain ⟨d0, d1, d2, d3, d4⟩ := (laid9_ent hd'.ans ⟨3, t, 0, a, bb⟩).cells
  obtain ⟨W, hW⟩ : ∃ W, W = laid9 (w5.setCell ⟨w.heap.size + 1 + 1, 4, none⟩ (.int .i64 bb)) w.heap.size ⟨3, t, 0, a, bb⟩ := ⟨_, rfl⟩
  rw [← hW] at bel d0 d1 d2 d3 d4
  clear hd'
  go_wp2
  change bodyPost Tryz.prog Tryz.f65 _ Exit.ret _ (laid9 (w5.setCell ⟨w.heap.size + 1 + 1, 4, none⟩ (.int .i64 bb)) w.heap.size ⟨3, t, 0, a, bb⟩)
  rw [← hW]
  clear hW
  refine bodyPost_ret (v := .tuple #[enV ⟨3, t, 0, a, bb⟩, .int .i64 0]) ?_ rfl ?_
  · simp [results, Tryz.results65, go_sem, d0, d1, d2, d3, d4]
  exact ⟨rfl, bel⟩

end Go.Proofs.YtafkkehcacdodaaGreat
