/- The contract of Decode in the document's own answer, where it answers OK; of any bytes. -/
import Derived.Test.YtafkkehcacdodaaGreatEntRDec
set_option maxRecDepth 100000
namespace Go.Proofs.YtafkkehcacdodaaGreat
open Go.RowKit

set_option maxHeartbeats 4000000 in
theorem rdecode_ok1 (b off len cap : Nat) (l : List Int) (w : World) (hA : At w b off len cap l) (h : whyM l = 0) (h9 : 9 ≤ len) (hk : b1 l 0 = 1) (ht : num ((l.drop 1).take 8) ≤ 1099511627776) (hE : entE l = ⟨1, num ((l.drop 1).take 8), 0, 0, 0⟩) :
    Calls Tryz.prog 37 #[.slice (some ⟨b, off, none⟩) len cap] w fun r w' => r = .returned (.tuple #[enV (entE l), .int .i64 0]) ∧ Below w.heap.size w w' := by
  have bel := below_alloc w (.cells zEC 73)
  have hA0 : At (w.alloc (.cells zEC 73)) b off len cap l := hA.later bel
  have hcell : (w.alloc (.cells zEC 73)).cell? ⟨b, off, none⟩ = some (.int .u8 (b1 l 0)) := by have := hA0.sees 0 (by rw [hA.len]; omega); rwa [Nat.add_zero] at this
  obtain ⟨hl, -⟩ := whyM_len h
  rw [hA.len, hk] at hl
  have hl' : (len : Int) = 9 := hl
  have hn1 : ¬ (len : Int) < 9 := by omega
  have hn2 : ¬ 9 < (len : Int) := by omega
  rw [hk] at hcell
  have HT := rget_later hA bel 1 8 1 8 rfl rfl (by decide) (by decide) (by omega)
  have hc1 := hA.cap1
  have hc2 := hA.cap2
  unfold maxLen at hc2
  have ht0 := (num_part_bd l hA.bytes 1 8 18446744073709551616 (by decide)).1
  have hS : ∀ W, Calls Tryz.prog 76 #[.int .i64 1] W fun x w' => x = .returned (.int .i64 9) ∧ w' = W := fun W => rsize_any 1 W
  rw [hE]
  clear hE
  generalize num ((l.drop 1).take 8) = t at *
  have hti : IntKind.i64.wrap t = t := i64_id _ ht0 (by omega)
  clear hA hA0 hl hl' hk h
  go_enter Tryz.func37, Tryz.ntmps37
  go_wp2_with fail
  refine (hS _).mono ?_
  rintro e w1 ⟨rfl, rfl⟩
  go_wp2_with fail
  refine HT.mono ?_
  rintro e w1 ⟨rfl, rfl⟩
  clear HT hS
  have bel2 : Below w.heap.size w ((w.alloc (.cells (enC ⟨1, t, 0, 0, 0⟩) 73)).alloc (.cells (enC ⟨1, t, 0, 0, 0⟩) 73)) := (below_alloc w (.cells (enC ⟨1, t, 0, 0, 0⟩) 73)).alloc (by simp) _
  clear bel
  go_wp2
  refine bodyPost_ret (v := .tuple #[enV ⟨1, t, 0, 0, 0⟩, .int .i64 0]) ?_ rfl ?_
  · simp [results, Tryz.results37, go_sem]
  · exact ⟨rfl, bel2⟩

set_option maxHeartbeats 4000000 in
theorem rdecode_ok2 (b off len cap : Nat) (l : List Int) (w : World) (hA : At w b off len cap l) (h : whyM l = 0) (h9 : 19 ≤ len) (hk : b1 l 0 = 2) (ht : num ((l.drop 1).take 8) ≤ 1099511627776) (hE : entE l = ⟨2, num ((l.drop 1).take 8), num ((l.drop 9).take 4), num ((l.drop 13).take 4), num ((l.drop 17).take 2)⟩) :
    Calls Tryz.prog 37 #[.slice (some ⟨b, off, none⟩) len cap] w fun r w' => r = .returned (.tuple #[enV (entE l), .int .i64 0]) ∧ Below w.heap.size w w' := by
  have bel := below_alloc w (.cells zEC 73)
  have hA0 : At (w.alloc (.cells zEC 73)) b off len cap l := hA.later bel
  have hcell : (w.alloc (.cells zEC 73)).cell? ⟨b, off, none⟩ = some (.int .u8 (b1 l 0)) := by have := hA0.sees 0 (by rw [hA.len]; omega); rwa [Nat.add_zero] at this
  obtain ⟨hl, -⟩ := whyM_len h
  rw [hA.len, hk] at hl
  have hl' : (len : Int) = 19 := hl
  have hn1 : ¬ (len : Int) < 19 := by omega
  have hn2 : ¬ 19 < (len : Int) := by omega
  rw [hk] at hcell
  have HT := rget_later hA bel 1 8 1 8 rfl rfl (by decide) (by decide) (by omega)
  have hc1 := hA.cap1
  have hc2 := hA.cap2
  unfold maxLen at hc2
  have ht0 := (num_part_bd l hA.bytes 1 8 18446744073709551616 (by decide)).1
  have hS : ∀ W, Calls Tryz.prog 76 #[.int .i64 2] W fun x w' => x = .returned (.int .i64 19) ∧ w' = W := fun W => rsize_any 2 W
  have bds := num_part_bd l hA.bytes 9 4 4294967296 (by decide)
  have HGs := fun W (hW : Below w.heap.size w W) => rget_later hA hW 9 4 9 4 rfl rfl (by decide) (by decide) (by omega)
  have bda := num_part_bd l hA.bytes 13 4 4294967296 (by decide)
  have HGa := fun W (hW : Below w.heap.size w W) => rget_later hA hW 13 4 13 4 rfl rfl (by decide) (by decide) (by omega)
  have bdbb := num_part_bd l hA.bytes 17 2 65536 (by decide)
  have HGbb := fun W (hW : Below w.heap.size w W) => rget_later hA hW 17 2 17 2 rfl rfl (by decide) (by decide) (by omega)
  rw [hE]
  clear hE
  generalize num ((l.drop 1).take 8) = t at *
  generalize num ((l.drop 9).take 4) = s at *
  generalize num ((l.drop 13).take 4) = a at *
  generalize num ((l.drop 17).take 2) = bb at *
  have hti : IntKind.i64.wrap t = t := i64_id _ ht0 (by omega)
  have hwis : IntKind.u32.wrap s = s := u32_id _ bds.1 (by omega)
  have hwia : IntKind.u32.wrap a = a := u32_id _ bda.1 (by omega)
  have hwibb : IntKind.i64.wrap bb = bb := i64_id _ bdbb.1 (by omega)
  obtain ⟨w2, hw2⟩ : ∃ W, W = (w.alloc (.cells zEC 73)).alloc (.cells #[.int .i64 2, .int .i64 t, .int .u32 0, .int .u32 0, .int .i64 0] 73) := ⟨_, rfl⟩
  have hZ : Ent9 w2 w.heap.size En.zero := by
    unfold Ent9
    rw [hw2, Below.heap_alloc _ _ _ (by simp)]
    exact heap_alloc_new _ _
  have hX : Ent9 w2 (w.heap.size + 1) ⟨2, t, 0, 0, 0⟩ := by
    unfold Ent9
    rw [hw2, show w.heap.size + 1 = (w.alloc (.cells zEC 73)).heap.size by simp]
    exact heap_alloc_new _ _
  have b2 : Below w.heap.size w w2 := by rw [hw2]; exact bel.alloc (by simp) _
  obtain ⟨c0, c1, c2, c3, c4⟩ := hX.cells
  have cf := hX.frozen
  obtain ⟨g0, g1, g2, g3, g4⟩ := hZ.cells
  have gf := hZ.frozen
  have b3 : Below w.heap.size w (w2.setCell ⟨w.heap.size + 1, 2, none⟩ (.int .u32 s)) := b2.setCell (Nat.le_succ _) _
  have hZ3 : Ent9 (w2.setCell ⟨w.heap.size + 1, 2, none⟩ (.int .u32 s)) w.heap.size En.zero := hZ.other (heap_setCell_other w2 ⟨w.heap.size + 1, 2, none⟩ _ _ (by show w.heap.size ≠ w.heap.size + 1; omega))
  have b4 : Below w.heap.size w ((w2.setCell ⟨w.heap.size + 1, 2, none⟩ (.int .u32 s)).setCell ⟨w.heap.size + 1, 3, none⟩ (.int .u32 a)) := b3.setCell (Nat.le_succ _) _
  have hZ4 : Ent9 ((w2.setCell ⟨w.heap.size + 1, 2, none⟩ (.int .u32 s)).setCell ⟨w.heap.size + 1, 3, none⟩ (.int .u32 a)) w.heap.size En.zero := hZ3.other (heap_setCell_other (w2.setCell ⟨w.heap.size + 1, 2, none⟩ (.int .u32 s)) ⟨w.heap.size + 1, 3, none⟩ _ _ (by show w.heap.size ≠ w.heap.size + 1; omega))
  have b5 : Below w.heap.size w (((w2.setCell ⟨w.heap.size + 1, 2, none⟩ (.int .u32 s)).setCell ⟨w.heap.size + 1, 3, none⟩ (.int .u32 a)).setCell ⟨w.heap.size + 1, 4, none⟩ (.int .i64 bb)) := b4.setCell (Nat.le_succ _) _
  have hZ5 : Ent9 (((w2.setCell ⟨w.heap.size + 1, 2, none⟩ (.int .u32 s)).setCell ⟨w.heap.size + 1, 3, none⟩ (.int .u32 a)).setCell ⟨w.heap.size + 1, 4, none⟩ (.int .i64 bb)) w.heap.size En.zero := hZ4.other (heap_setCell_other ((w2.setCell ⟨w.heap.size + 1, 2, none⟩ (.int .u32 s)).setCell ⟨w.heap.size + 1, 3, none⟩ (.int .u32 a)) ⟨w.heap.size + 1, 4, none⟩ _ _ (by show w.heap.size ≠ w.heap.size + 1; omega))
  have HCs := HGs _ b2
  have HCa := HGa _ b3
  have HCbb := HGbb _ b3
  have bel9 := laid9_below b5 ⟨2, t, s, a, bb⟩
  obtain ⟨d0, d1, d2, d3, d4⟩ := (laid9_ent hZ5 ⟨2, t, s, a, bb⟩).cells
  obtain ⟨W, hW⟩ : ∃ W, W = laid9 (((w2.setCell ⟨w.heap.size + 1, 2, none⟩ (.int .u32 s)).setCell ⟨w.heap.size + 1, 3, none⟩ (.int .u32 a)).setCell ⟨w.heap.size + 1, 4, none⟩ (.int .i64 bb)) w.heap.size ⟨2, t, s, a, bb⟩ := ⟨_, rfl⟩
  rw [← hW] at bel9 d0 d1 d2 d3 d4
  have HW2 : Hid (w2 = (w.alloc (.cells zEC 73)).alloc (.cells #[.int .i64 2, .int .i64 t, .int .u32 0, .int .u32 0, .int .i64 0] 73)) := hw2
  have HW : Hid (W = laid9 (((w2.setCell ⟨w.heap.size + 1, 2, none⟩ (.int .u32 s)).setCell ⟨w.heap.size + 1, 3, none⟩ (.int .u32 a)).setCell ⟨w.heap.size + 1, 4, none⟩ (.int .i64 bb)) w.heap.size ⟨2, t, s, a, bb⟩) := hW
  clear hw2 hW HGs HGa HGbb hX hZ hZ3 b3 hZ4 b4 hZ5 b5 b2
  clear hA hA0 hl hl' hk h
  go_enter Tryz.func37, Tryz.ntmps37
  go_wp2_with fail
  refine (hS _).mono ?_
  rintro e w1 ⟨rfl, rfl⟩
  go_wp2_with fail
  refine HT.mono ?_
  rintro e w1 ⟨rfl, rfl⟩
  clear HT hS
  go_wp2_with fail
  rw [← HW2.out]
  clear hcell bel
  refine HCs.mono ?_
  rintro e w1 ⟨rfl, hw1⟩
  have hw1 := hw1.symm
  subst hw1
  clear HCs
  go_wp2_with fail
  refine HCa.mono ?_
  rintro e w1 ⟨rfl, hw1⟩
  have hw1 := hw1.symm
  subst hw1
  clear HCa
  go_wp2_with fail
  refine HCbb.mono ?_
  rintro e w1 ⟨rfl, hw1⟩
  have hw1 := hw1.symm
  subst hw1
  clear HCbb
  go_wp2
  change bodyPost Tryz.prog Tryz.f37 _ Exit.ret _ (laid9 (((w2.setCell ⟨w.heap.size + 1, 2, none⟩ (.int .u32 s)).setCell ⟨w.heap.size + 1, 3, none⟩ (.int .u32 a)).setCell ⟨w.heap.size + 1, 4, none⟩ (.int .i64 bb)) w.heap.size ⟨2, t, s, a, bb⟩)
  rw [← HW.out]
  clear HW
  refine bodyPost_ret (v := .tuple #[enV ⟨2, t, s, a, bb⟩, .int .i64 0]) ?_ rfl ?_
  · simp [results, Tryz.results37, go_sem, d0, d1, d2, d3, d4]
  exact ⟨rfl, bel9⟩

set_option maxHeartbeats 4000000 in
theorem rdecode_ok3 (b off len cap : Nat) (l : List Int) (w : World) (hA : At w b off len cap l) (h : whyM l = 0) (h9 : 15 ≤ len) (hk : b1 l 0 = 3) (ht : num ((l.drop 1).take 8) ≤ 1099511627776) (hE : entE l = ⟨3, num ((l.drop 1).take 8), 0, num ((l.drop 9).take 4), num ((l.drop 13).take 2)⟩) :
    Calls Tryz.prog 37 #[.slice (some ⟨b, off, none⟩) len cap] w fun r w' => r = .returned (.tuple #[enV (entE l), .int .i64 0]) ∧ Below w.heap.size w w' := by
  have bel := below_alloc w (.cells zEC 73)
  have hA0 : At (w.alloc (.cells zEC 73)) b off len cap l := hA.later bel
  have hcell : (w.alloc (.cells zEC 73)).cell? ⟨b, off, none⟩ = some (.int .u8 (b1 l 0)) := by have := hA0.sees 0 (by rw [hA.len]; omega); rwa [Nat.add_zero] at this
  obtain ⟨hl, -⟩ := whyM_len h
  rw [hA.len, hk] at hl
  have hl' : (len : Int) = 15 := hl
  have hn1 : ¬ (len : Int) < 15 := by omega
  have hn2 : ¬ 15 < (len : Int) := by omega
  rw [hk] at hcell
  have HT := rget_later hA bel 1 8 1 8 rfl rfl (by decide) (by decide) (by omega)
  have hc1 := hA.cap1
  have hc2 := hA.cap2
  unfold maxLen at hc2
  have ht0 := (num_part_bd l hA.bytes 1 8 18446744073709551616 (by decide)).1
  have hS : ∀ W, Calls Tryz.prog 76 #[.int .i64 3] W fun x w' => x = .returned (.int .i64 15) ∧ w' = W := fun W => rsize_any 3 W
  have bda := num_part_bd l hA.bytes 9 4 4294967296 (by decide)
  have HGa := fun W (hW : Below w.heap.size w W) => rget_later hA hW 9 4 9 4 rfl rfl (by decide) (by decide) (by omega)
  have bdbb := num_part_bd l hA.bytes 13 2 65536 (by decide)
  have HGbb := fun W (hW : Below w.heap.size w W) => rget_later hA hW 13 2 13 2 rfl rfl (by decide) (by decide) (by omega)
  rw [hE]
  clear hE
  generalize num ((l.drop 1).take 8) = t at *
  generalize num ((l.drop 9).take 4) = a at *
  generalize num ((l.drop 13).take 2) = bb at *
  have hti : IntKind.i64.wrap t = t := i64_id _ ht0 (by omega)
  have hwia : IntKind.u32.wrap a = a := u32_id _ bda.1 (by omega)
  have hwibb : IntKind.i64.wrap bb = bb := i64_id _ bdbb.1 (by omega)
  obtain ⟨w2, hw2⟩ : ∃ W, W = (w.alloc (.cells zEC 73)).alloc (.cells #[.int .i64 3, .int .i64 t, .int .u32 0, .int .u32 0, .int .i64 0] 73) := ⟨_, rfl⟩
  have hZ : Ent9 w2 w.heap.size En.zero := by
    unfold Ent9
    rw [hw2, Below.heap_alloc _ _ _ (by simp)]
    exact heap_alloc_new _ _
  have hX : Ent9 w2 (w.heap.size + 1) ⟨3, t, 0, 0, 0⟩ := by
    unfold Ent9
    rw [hw2, show w.heap.size + 1 = (w.alloc (.cells zEC 73)).heap.size by simp]
    exact heap_alloc_new _ _
  have b2 : Below w.heap.size w w2 := by rw [hw2]; exact bel.alloc (by simp) _
  obtain ⟨c0, c1, c2, c3, c4⟩ := hX.cells
  have cf := hX.frozen
  obtain ⟨g0, g1, g2, g3, g4⟩ := hZ.cells
  have gf := hZ.frozen
  have b3 : Below w.heap.size w (w2.setCell ⟨w.heap.size + 1, 3, none⟩ (.int .u32 a)) := b2.setCell (Nat.le_succ _) _
  have hZ3 : Ent9 (w2.setCell ⟨w.heap.size + 1, 3, none⟩ (.int .u32 a)) w.heap.size En.zero := hZ.other (heap_setCell_other w2 ⟨w.heap.size + 1, 3, none⟩ _ _ (by show w.heap.size ≠ w.heap.size + 1; omega))
  have b4 : Below w.heap.size w ((w2.setCell ⟨w.heap.size + 1, 3, none⟩ (.int .u32 a)).setCell ⟨w.heap.size + 1, 4, none⟩ (.int .i64 bb)) := b3.setCell (Nat.le_succ _) _
  have hZ4 : Ent9 ((w2.setCell ⟨w.heap.size + 1, 3, none⟩ (.int .u32 a)).setCell ⟨w.heap.size + 1, 4, none⟩ (.int .i64 bb)) w.heap.size En.zero := hZ3.other (heap_setCell_other (w2.setCell ⟨w.heap.size + 1, 3, none⟩ (.int .u32 a)) ⟨w.heap.size + 1, 4, none⟩ _ _ (by show w.heap.size ≠ w.heap.size + 1; omega))
  have HCa := HGa _ b2
  have HCbb := HGbb _ b2
  have bel9 := laid9_below b4 ⟨3, t, 0, a, bb⟩
  obtain ⟨d0, d1, d2, d3, d4⟩ := (laid9_ent hZ4 ⟨3, t, 0, a, bb⟩).cells
  obtain ⟨W, hW⟩ : ∃ W, W = laid9 ((w2.setCell ⟨w.heap.size + 1, 3, none⟩ (.int .u32 a)).setCell ⟨w.heap.size + 1, 4, none⟩ (.int .i64 bb)) w.heap.size ⟨3, t, 0, a, bb⟩ := ⟨_, rfl⟩
  rw [← hW] at bel9 d0 d1 d2 d3 d4
  have HW2 : Hid (w2 = (w.alloc (.cells zEC 73)).alloc (.cells #[.int .i64 3, .int .i64 t, .int .u32 0, .int .u32 0, .int .i64 0] 73)) := hw2
  have HW : Hid (W = laid9 ((w2.setCell ⟨w.heap.size + 1, 3, none⟩ (.int .u32 a)).setCell ⟨w.heap.size + 1, 4, none⟩ (.int .i64 bb)) w.heap.size ⟨3, t, 0, a, bb⟩) := hW
  clear hw2 hW HGa HGbb hX hZ hZ3 b3 hZ4 b4 b2
  clear hA hA0 hl hl' hk h
  go_enter Tryz.func37, Tryz.ntmps37
  go_wp2_with fail
  refine (hS _).mono ?_
  rintro e w1 ⟨rfl, rfl⟩
  go_wp2_with fail
  refine HT.mono ?_
  rintro e w1 ⟨rfl, rfl⟩
  clear HT hS
  go_wp2_with fail
  rw [← HW2.out]
  clear hcell bel
  refine HCa.mono ?_
  rintro e w1 ⟨rfl, hw1⟩
  have hw1 := hw1.symm
  subst hw1
  clear HCa
  go_wp2_with fail
  refine HCbb.mono ?_
  rintro e w1 ⟨rfl, hw1⟩
  have hw1 := hw1.symm
  subst hw1
  clear HCbb
  go_wp2
  change bodyPost Tryz.prog Tryz.f37 _ Exit.ret _ (laid9 ((w2.setCell ⟨w.heap.size + 1, 3, none⟩ (.int .u32 a)).setCell ⟨w.heap.size + 1, 4, none⟩ (.int .i64 bb)) w.heap.size ⟨3, t, 0, a, bb⟩)
  rw [← HW.out]
  clear HW
  refine bodyPost_ret (v := .tuple #[enV ⟨3, t, 0, a, bb⟩, .int .i64 0]) ?_ rfl ?_
  · simp [results, Tryz.results37, go_sem, d0, d1, d2, d3, d4]
  exact ⟨rfl, bel9⟩

theorem rdecode_any (v : Value) (l : List Int) (w : World) (h : Bts w v l) :
    Calls Tryz.prog 37 #[v] w fun r w' => r = .returned (.tuple #[enV (entE l), .int .i64 (whyE l)]) ∧ Below w.heap.size w w' := by
  obtain ⟨a, cap, b, off, rfl, h2, h3, h4, h5, h6⟩ := h
  by_cases hM : whyM l = 0
  case neg =>
    have hE : whyE l = whyM l := by rw [whyE_M, if_pos hM]
    rw [hE, entE_no (by rw [hE]; exact hM)]
    exact rdecode_no a b off l.length cap l w (Nat.le_trans h2 h3) rfl h4 h5 h6 hM
  obtain ⟨hl, hk⟩ := whyM_len hM
  have hne : l ≠ [] := by rintro rfl; revert hl; rcases hk with k | k | k <;> rw [k] <;> decide
  have ha : a = some ⟨b, off, none⟩ := by
    rcases h5 with h | h
    · exact h
    · exact absurd h hne
  subst ha
  have hA : At w b off l.length cap l := ⟨h2, h3, rfl, h4, h6⟩
  by_cases ht : 1099511627776 < num ((l.drop 1).take 8)
  · have hE : whyE l = 1 := by rw [whyE_M, if_neg (by simpa using hM), if_pos ht]
    rw [hE, entE_no (by rw [hE]; decide)]
    exact rdecode_late b off l.length cap l w hA hM (by rcases hk with k | k | k <;> rw [k] at hl <;> simp [sizeK] at hl <;> omega) ht
  · have hE : whyE l = 0 := by rw [whyE_M, if_neg (by simpa using hM), if_neg ht]
    rw [hE]
    rcases hk with k | k | k
    · exact rdecode_ok1 b off l.length cap l w hA hM (by rw [k] at hl; simp [sizeK] at hl; omega) k (by omega) (entE_1 hE k)
    · exact rdecode_ok2 b off l.length cap l w hA hM (by rw [k] at hl; simp [sizeK] at hl; omega) k (by omega) (entE_2 hE k)
    · exact rdecode_ok3 b off l.length cap l w hA hM (by rw [k] at hl; simp [sizeK] at hl; omega) k (by omega) (entE_3 hE k)

end Go.Proofs.YtafkkehcacdodaaGreat
