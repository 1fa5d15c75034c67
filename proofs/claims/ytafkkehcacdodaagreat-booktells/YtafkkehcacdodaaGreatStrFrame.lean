/- Frame. -/
import Derived.Test.YtafkkehcacdodaaGreatStrConcat
set_option maxRecDepth 100000
namespace Go.Proofs.YtafkkehcacdodaaGreat
open Go.RowKit

theorem lay_frame (b : List Int) : (lay (90 :: (b.length : Int) :: (b ++ [0, 0, 0, 0, 0])) (2 + b.length) 4 (crcV b)).set (b.length + 6) 165 = frameB b := by
  have hs : ∀ (i : Nat) (t : List Int) (x : Int), (90 :: (b.length : Int) :: (b ++ t)).set (2 + b.length + i) x = 90 :: (b.length : Int) :: (b ++ t.set i x) := by
    intro i t x
    rw [show 2 + b.length + i = (b.length + i) + 1 + 1 by omega, List.set_cons_succ, List.set_cons_succ, List.set_append_right (b.length + i) x (by omega)]
    simp
  simp only [lay]
  rw [hs 3, hs 2, hs 1, hs 0, show b.length + 6 = 2 + b.length + 4 by omega, hs 4]
  simp only [frameB, four, List.set_cons_zero, List.set_cons_succ, List.cons_append, List.nil_append]
  have e1 : crcV b / 256 / 256 = crcV b / 65536 := by omega
  have e2 : crcV b / 256 / 256 / 256 = crcV b / 16777216 := by omega
  rw [e2, e1]

theorem frameE_zero {b : List Int} (h1 : 1 ≤ b.length) (h2 : b.length ≤ 56) : frameE b = 0 := by
  unfold frameE; rw [if_neg (by omega), if_neg (by omega)]

theorem frameE_len {b : List Int} (h : frameE b = 0) : 1 ≤ b.length ∧ b.length ≤ 56 := by
  unfold frameE at h
  split at h
  · cases h
  · split at h
    · cases h
    · omega

set_option maxHeartbeats 1000000 in
theorem frame_no (w : World) (v : Value) (b : List Int) (h : Bts w v b) (hE : frameE b ≠ 0) :
    Calls Tryz.prog 108 #[v] w fun e w' => e = .returned (.tuple #[.slice none 0 0, .int .i64 (frameE b)]) ∧ w' = w := by
  obtain ⟨a, c, rfl, hl, hm, _⟩ := bts_src h
  clear h
  unfold maxLen at hm
  by_cases h0 : b.length = 0
  · have HE : Hid (frameE b = 1) := by show _ = _; unfold frameE; rw [if_pos h0]
    rw [h0]
    clear hE
    go_enter Tryz.func108, Tryz.ntmps108
    go_wp2
    go_ret2
    exact ⟨by rw [HE.out]; rfl, rfl⟩
  · by_cases h56 : 56 < b.length
    · have HE : Hid (frameE b = 3) := by show _ = _; unfold frameE; rw [if_neg h0, if_pos h56]
      have h0I : ¬ (b.length : Int) = 0 := by omega
      have h56I : (56 : Int) < b.length := by omega
      clear hE
      generalize b.length = n at *
      go_enter Tryz.func108, Tryz.ntmps108
      go_wp2
      go_ret2
      exact ⟨by rw [HE.out]; rfl, rfl⟩
    · exact absurd (frameE_zero (by omega) (by omega)) hE

theorem holds8_mono {w : World} {N M G len cap : Nat} {l : List Int} (h : Holds8 w N G len cap l) (hM : M ≤ N) : Holds8 w M G len cap l := by
  refine ⟨h.1, h.2.1, ?_⟩
  rcases h.2.2 with h0 | ⟨g, c, cur, hv, hg, r⟩
  · exact .inl h0
  · exact .inr ⟨g, c, cur, hv, Nat.le_trans hM hg, r⟩

theorem made8 (n : Nat) : (madeCells (Value.int .u8 0).cells (n * 1)).toList = bytesV (zeros n) := by
  apply List.ext_getElem?
  intro j
  by_cases hj : j < n
  · simp [madeCells, hj, Value.cells, zeros, Nat.mod_one]
  · simp [madeCells, hj, zeros]

theorem pts_three {w : World} {v1 v2 v3 : Value} {l1 l2 l3 : List Int} (t : TypeId) (h1 : Bts w v1 l1) (h2 : Bts w v2 l2) (h3 : Bts w v3 l3) : Pts (w.alloc (.cells #[v1, v2, v3] t)) w.heap.size 0 [l1, l2, l3] := by
  have b := below_alloc w (.cells #[v1, v2, v3] t)
  have hb := blk_new w #[v1, v2, v3] t
  intro i hi
  have : i = 0 ∨ i = 1 ∨ i = 2 := by simp at hi; omega
  rcases this with rfl | rfl | rfl
  · exact ⟨v1, hb.cell 0, h1.later b⟩
  · exact ⟨v2, hb.cell 1, h2.later b⟩
  · exact ⟨v3, hb.cell 2, h3.later b⟩

set_option maxHeartbeats 2000000 in
theorem frame_ok (w : World) (v : Value) (b : List Int) (h : Bts w v b) (h1 : 1 ≤ b.length) (h2 : b.length ≤ 56) :
    Calls Tryz.prog 108 #[v] w fun e w' => ∃ G, e = .returned (.tuple #[.slice (some ⟨G, 0, none⟩) (b.length + 7) (b.length + 7), .int .i64 0]) ∧ Holds8 w' w.heap.size G (b.length + 7) (b.length + 7) (frameB b) ∧ Below w.heap.size w w' := by
  have hbb : isBytes b := by obtain ⟨_, _, _, _, _, _, _, hb, _⟩ := h; exact hb
  have HV : Hid (Bts w v b) := h
  obtain ⟨a, c, e, hl, hm, _⟩ := bts_src h
  subst e
  unfold maxLen at hm
  have h0I : ¬ (b.length : Int) = 0 := by omega
  have h56I : ¬ (56 : Int) < b.length := by omega
  have hw5 : isBytes [0, 0, 0, 0, 0] := by intro z hz; simp at hz; omega
  have hw2 : isBytes [90, (b.length : Int)] := by intro z hz; simp at hz; omega
  have HFL : Hid ([[90, (b.length : Int)], b, [0, 0, 0, 0, 0]].flatten = 90 :: (b.length : Int) :: (b ++ [0, 0, 0, 0, 0])) := by show _ = _; simp
  have HLF : Hid ((90 :: (b.length : Int) :: (b ++ [0, 0, 0, 0, 0])).length = b.length + 7) := by show _ = _; simp
  have HLAY : Hid ((lay (90 :: (b.length : Int) :: (b ++ [0, 0, 0, 0, 0])) (2 + b.length) 4 (crcV b)).set (b.length + 6) 165 = frameB b) := lay_frame b
  obtain ⟨i0, hi, hz0, hz1, hz2⟩ := info_parts info5
  have HP : Hid (∀ w2 : World, (w.alloc (.cells #[.int .u8 90, .int .u8 b.length] 5)).grownBy w2 none → w2.ownsRow (w.heap.size + 1) 5 1 (.slice (some ⟨w.heap.size + 1, 0, none⟩) 5 5) 5 (madeCells (Value.int .u8 0).cells (5 * 1)).toList →
      Below w.heap.size w w2 ∧ Pts (w2.alloc (.cells #[.slice (some ⟨w.heap.size, 0, none⟩) 2 2, .slice a b.length c, .slice (some ⟨w.heap.size + 1, 0, none⟩) 5 5] 39)) w2.heap.size 0 [[90, (b.length : Int)], b, [0, 0, 0, 0, 0]]) := by
    intro w2 hg ho
    have B1 := below_alloc w (.cells #[.int .u8 90, .int .u8 b.length] 5)
    have hb' : Below (w.alloc (.cells #[.int .u8 90, .int .u8 b.length] 5)).heap.size (w.alloc (.cells #[.int .u8 90, .int .u8 b.length] 5)) w2 := (Below.refl _ _).grown hg (Nat.le_refl _) (fun k hk => by cases hk)
    refine ⟨below_trans B1 hb', pts_three _ ?_ ((HV.out.later B1).later hb') ?_⟩
    · exact (blk_bts (l := [90, (b.length : Int)]) (blk_new w _ 5) hw2 (by simp [maxLen])).later hb'
    · have e : (madeCells (Value.int .u8 0).cells (5 * 1)).toList = bytesV [0, 0, 0, 0, 0] := made8 5
      rw [e] at ho
      have : Owns w2 (w.heap.size + 1) (.slice (some ⟨w.heap.size + 1, 0, none⟩) 5 5) [0, 0, 0, 0, 0] := ho
      exact this.bts hw5
  have hcv := crcV_bd b hbb
  have HC : Hid (∀ w3, Below w.heap.size w w3 → Calls Tryz.prog 116 #[.slice a b.length c] w3 fun e w' => e = .returned (.int .u32 (crcV b)) ∧ Below w3.heap.size w3 w') := by
    intro w3 hb
    obtain ⟨a', c', b', off', e, q1, q2, q3, q4, q5⟩ := HV.out.later hb
    simp only [Value.slice.injEq, true_and] at e
    obtain ⟨rfl, rfl⟩ := e
    exact crc_any a b' off' b.length c b w3 q1 q2 rfl q3 q4 q5
  generalize crcV b = X at *
  have HL1 : Hid (b.length + 7 ≤ 140737488351232) := by show _ ≤ _; omega
  clear h
  go_enter Tryz.func108, Tryz.ntmps108
  go_wp2_with (at_make; refine wpList_make_full _ rfl _ _ 39 rfl (w.heap.size + 1) 5 i0 (.int .u8 0) 1 Tryz.underlying39 hi hz0 hz1 .i64 .i64 _ _ 5 rfl rfl rfl rfl (by rw [hz2]; omega) (by unfold maxLen; omega) (by simp) ?_; intro w2 hown hgrow)
  rw [World.size_alloc] at hown
  obtain ⟨hB2, hP2⟩ := HP.out w2 hgrow hown
  refine (concat_any w2.heap.size 0 3 [[90, (b.length : Int)], b, [0, 0, 0, 0, 0]] _ (by simp) (by decide) hP2 ?_ (by rw [HFL.out, HLF.out]; omega) (by rw [HFL.out, HLF.out]; omega)).mono ?_
  · intro i hi
    have : i = 0 ∨ i = 1 ∨ i = 2 := by simp at hi; omega
    rcases this with rfl | rfl | rfl
    · simp
    · show b ≠ []
      intro e
      rw [e] at h1
      simp at h1
    · simp
  rintro e w3 ⟨v3, rfl, hO3, hB3⟩
  rw [HFL.out] at hO3
  obtain ⟨G, cap, hv3, hH⟩ := holds8_of_owns hO3 HLF.out (by omega)
  subst hv3
  have hB03 : Below w.heap.size w w3 := hB2.trans (((below_alloc w2 _).trans (hB3.mono (by simp))).mono hB2.size)
  have HO3 : Hid (Owns w3 (w2.alloc (.cells #[.slice (some ⟨w.heap.size, 0, none⟩) 2 2, .slice a b.length c, .slice (some ⟨w.heap.size + 1, 0, none⟩) 5 5] 39)).heap.size (.slice (some ⟨G, 0, none⟩) (b.length + 7) cap) (90 :: (b.length : Int) :: (b ++ [0, 0, 0, 0, 0]))) := hO3
  have HH3 : Hid (Holds8 w3 (w2.alloc (.cells #[.slice (some ⟨w.heap.size, 0, none⟩) 2 2, .slice a b.length c, .slice (some ⟨w.heap.size + 1, 0, none⟩) 5 5] 39)).heap.size G (b.length + 7) cap (90 :: (b.length : Int) :: (b ++ [0, 0, 0, 0, 0]))) := hH
  clear hO3 hH hB2 hP2 hB3 hown hgrow
  have HC3 := HC.out w3 hB03
  go_wp2_with (go_at_call 116; refine HC3.mono ?_; rintro e w4 ⟨rfl, hB4⟩)
  have hS4 : Sees w4 G 0 (90 :: (b.length : Int) :: (b ++ [0, 0, 0, 0, 0])) := fun i hi => by
    rw [Nat.zero_add]
    exact cell_later hB4 (HH3.out.cell i (by rw [HLF.out] at hi; exact hi))
  have hB04 : Below w.heap.size w w4 := hB03.trans (hB4.mono hB03.size)
  refine (put_yes3 G 0 (b.length + 7) cap _ (2 + (b.length : Int)) (2 + b.length) 4 4 X w4 (by omega) rfl HLF.out hS4 (by omega) (by omega) (by omega) hcv.1 (by omega) HL1.out).mono ?_
  rintro e w5 ⟨G5, rfl, hH5, hB5⟩
  have hB05 : Below w.heap.size w w5 := hB04.trans (hB5.mono hB04.size)
  have hsz4 : w.heap.size ≤ w4.heap.size := hB04.size
  have hc5 := hH5.cell (b.length + 6) (by omega)
  have hf5 : w5.frozen? ⟨G5, b.length + 6, none⟩ = false := hH5.2.frozenAt (b.length + 6)
  have hg5 : w4.heap.size ≤ G5 := hH5.base
  have HH5 : Hid (Holds8 (w5.setCell ⟨G5, b.length + 6, none⟩ (.int .u8 165)) w4.heap.size G5 (b.length + 7) (b.length + 7) (frameB b)) := by
    show Holds8 _ _ _ _ _ _
    rw [← HLAY.out]
    exact hH5.store (b.length + 6) 165
  have HB5 : Hid (Below w.heap.size w (w5.setCell ⟨G5, b.length + 6, none⟩ (.int .u8 165))) := hB05.setCell (by show w.heap.size ≤ G5; omega) _
  clear hH5 hB5 hB05 hB04 hS4 hB4 hB03
  go_wp2
  go_ret2
  exact ⟨G5, by go_num, holds8_mono HH5.out hsz4, HB5.out⟩

end Go.Proofs.YtafkkehcacdodaaGreat
