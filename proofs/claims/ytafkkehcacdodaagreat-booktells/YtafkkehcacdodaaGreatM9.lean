/- Bytes one behind the other: slices.Grow of nothing, slices.Concat; slices.Clone of bytes. -/
import Derived.Test.YtafkkehcacdodaaGreatM8
import Derived.Lib.AppendZerosOnto
set_option maxRecDepth 100000
namespace Go.Proofs.YtafkkehcacdodaaGreat
open Go.RowKit

theorem owns_empty {w : World} {base g cap : Nat} {cur : Array Value} (hb : base ≤ g) (hg : w.heap[g]? = some (.cells cur 5 (0, 0))) (hc : cap ≤ maxLen) (hs : cur.size = cap) : Owns w base (.slice (some ⟨g, 0, none⟩) 0 cap) [] :=
  ⟨rfl, .inr ⟨g, cap, cur, rfl, hb, hg, Nat.zero_le _, hc, by simp [hs], by simp⟩⟩

set_option maxHeartbeats 1000000 in
theorem grow_nil (w : World) (N : Int) (n : Nat) (hN : N = n) (h1 : 1 ≤ n) (h2 : n ≤ 1000000) :
    Calls Tryz.prog 144 #[.slice none 0 0, .int .i64 N] w fun e w' => ∃ v, e = .returned v ∧ Owns w' w.heap.size v [] ∧ Below w.heap.size w w' := by
  subst hN
  obtain ⟨i0, hi, hz0, hz1, hz2⟩ := info_parts info5
  have hold : (Builtin.firstCells i0.size 0 (.slice none 0 0)).run Tryz.prog w.drew = .ok ([] : List Value).toArray w.drew := by
    simp [Builtin.firstCells]
  have hr := Lib.run_append_grow_zeros (P := Tryz.prog) w 39 3 39 5 i0 (.int .u8 0) .i64 .i64 Tryz.underlying39 Tryz.underlying3 hi hz0 none 0 0 [] hold n (by omega) (by rw [hz1]; omega) (by omega) (by omega) (by rw [hz2]; omega) (growslice_fits (by omega) (by rw [hz2]; omega))
  have hG1 := grownCap_ge w (0 + n) 0 5
  have hG2 := grownCap_le_maxLen w (0 + n) 0 5 (by unfold maxLen; omega)
  rw [Nat.zero_add] at hr hG1 hG2
  generalize hG : grownCap w n 0 5 = G at *
  clear hG
  have HC : Hid ((([] : List Value).toArray ++ Builtin.zeroCells (Value.int .u8 0).cells n ++ Builtin.zeroCells (Value.int .u8 0).cells (G - n)).size = G) := by
    show _ = _
    simp [Builtin.zeroCells, Value.cells]; omega
  generalize (([] : List Value).toArray ++ Builtin.zeroCells (Value.int .u8 0).cells n ++ Builtin.zeroCells (Value.int .u8 0).cells (G - n)) = C at *
  have HGM : Hid (G ≤ maxLen) := hG2
  unfold maxLen at hG2
  have h1I : (0 : Int) < n := by omega
  go_enter Tryz.func144, Tryz.ntmps144
  go_wp2_with (at_builtin; refine Lib.wpList_append_run _ rfl _ _ _ _ rfl _ _ rfl rfl _ _ hr ?_)
  all_goals
    go_ret
    exact ⟨_, rfl, owns_empty (Nat.le_refl _) (heap_alloc_new _ _) HGM.out HC.out, (below_alloc w _).drew⟩

theorem flat_byte {ls : List (List Int)} {w : World} {B O : Nat} (hp : Pts w B O ls) : isBytes ls.flatten := by
  intro z hz
  obtain ⟨l, hl, hz⟩ := List.mem_flatten.1 hz
  obtain ⟨i, hi, rfl⟩ := List.mem_iff_getElem.1 hl
  obtain ⟨v, _, hb⟩ := hp i hi
  rw [List.getD_eq_getElem?_getD, List.getElem?_eq_getElem hi] at hb
  obtain ⟨_, _, _, _, _, _, _, h, _⟩ := hb
  exact h z hz

set_option maxHeartbeats 2000000 in
theorem concat_any (B O cap : Nat) (ls : List (List Int)) (w : World) (hc : ls.length ≤ cap) (hm : cap ≤ maxLen) (hp : Pts w B O ls) (hne : ∀ i, i < ls.length → ls.getD i [] ≠ []) (h1 : 1 ≤ ls.flatten.length) (hbig : ls.flatten.length ≤ 1000000) :
    Calls Tryz.prog 126 #[.slice (some ⟨B, O, none⟩) ls.length cap] w fun e w' => ∃ v, e = .returned v ∧ Owns w' w.heap.size v ls.flatten ∧ Below w.heap.size w w' := by
  obtain ⟨i0, hi, hz0, hz1, hz2⟩ := info_parts info5
  unfold maxLen at hm
  go_enter Tryz.func126, Tryz.ntmps126
  go_wp2
  go_loop [3, 11] (fun t i => ∃ k : Nat, k ≤ ls.length ∧ i = .int .i64 k ∧ t = .int .i64 (ls.take k).flatten.length) (fun _ i => ls.length - (intOf i).toNat)
  case atStart => exact ⟨0, Nat.zero_le _, rfl, rfl⟩
  case round =>
    obtain ⟨k, hk, rfl, rfl⟩ := hrel
    by_cases hlt : k < ls.length
    · obtain ⟨v, hcell, a, c1, b, off, rfl, q1, q2, q3, q4, q5⟩ := hp k hlt
      have hltI : (k : Int) < (ls.length : Int) := by omega
      have hfl := flatten_take_snoc ls k hlt
      have hle := flatten_take_le ls (k + 1)
      have HF : Hid ((ls.take (k + 1)).flatten.length = (ls.take k).flatten.length + (ls.getD k []).length) := by show _ = _; rw [hfl, List.length_append]
      have hfl2 : (ls.take k).flatten.length + (ls.getD k []).length ≤ 1000000 := by rw [← HF.out]; omega
      clear hfl hle q3 q4 q5
      generalize (ls.getD k []).length = g at *
      generalize (ls.take k).flatten.length = F at *
      unfold maxLen at q2
      go_wp2
      go_round
      case rel => exact ⟨k + 1, by omega, by go_num, by rw [HF.out]; go_num⟩
      case measure => simp [intOf]; omega
    · have hke : k = ls.length := by omega
      subst hke
      have e0 : (List.take ls.length ls) = ls := List.take_length
      rw [e0]
      clear e0
      obtain ⟨T, hT⟩ : ∃ T, T = ls.flatten.length := ⟨_, rfl⟩
      rw [← hT] at h1 hbig ⊢
      have HT0 : Hid (T = ls.flatten.length) := hT
      clear hT
      have HG := grow_nil w (T : Int) T rfl h1 hbig
      go_wp2_with (go_at_call 144; refine HG.mono ?_; rintro e w1 ⟨v1, rfl, hO, hB⟩)
      go_loopw [6, 27] (fun v i wr => ∃ k : Nat, k ≤ ls.length ∧ i = .int .i64 k ∧ Owns wr w.heap.size v (ls.take k).flatten ∧ Below w.heap.size w wr) (fun _ i _ => ls.length - (intOf i).toNat)
      case atStart => exact ⟨0, Nat.zero_le _, rfl, by simpa using hO, hB⟩
      case round =>
        obtain ⟨k, hk, rfl, hown, hbel⟩ := hrel
        by_cases hlt : k < ls.length
        · obtain ⟨u, hcell, hbt⟩ := hp k hlt
          have hltI : (k : Int) < (ls.length : Int) := by omega
          have hcell' := cell_later hbel hcell
          have hfl := flatten_take_snoc ls k hlt
          have hle := flatten_take_le ls (k + 1)
          have HF : Hid ((ls.take (k + 1)).flatten = (ls.take k).flatten ++ ls.getD k []) := hfl
          have hfl2 : (ls.take k).flatten.length + (ls.getD k []).length ≤ 1000000 := by have := HT0.out; rw [hfl, List.length_append] at hle; omega
          have hnek := hne k hlt
          generalize hG : ls.getD k [] = g at *
          clear hG
          obtain ⟨a, c, rfl, hl, hmc, hsrc⟩ := bts_src (hbt.later hbel)
          rcases hsrc with ⟨ad, rfl, hsrc⟩ | h0
          case inr => exact absurd (List.eq_nil_of_length_eq_zero h0) hnek
          obtain ⟨v', w2, hrun, ho, hg, _⟩ := run_append_own (P := Tryz.prog) wr w.heap.size 39 39 5 i0 (.int .u8 0) 1 1 Tryz.underlying39 hi hz0 hz1 hz2 rfl (by decide) _ _ _ hown ad g.length c (bytesV g) (by simp) hsrc (ones_bytes _) (by unfold maxLen; omega) (by omega) hbel.size
          have R1 : Hid (Owns w2 w.heap.size v' (ls.take (k + 1)).flatten) := by
            show Owns _ _ _ _
            unfold Owns; rw [HF.out, List.length_append, List.map_append]; exact ho
          have R2 : Hid (Below w.heap.size w w2) := hbel.grown hg hbel.size (fun j hj => (hown.lt j hj).1)
          unfold maxLen at hmc
          clear ho hg hfl hle hfl2 hnek hsrc hbt hcell hown hbel
          go_wp2_with (at_builtin; refine wpl_append_run rfl _ _ 39 rfl _ _ rfl rfl hrun ?_)
          go_roundw
          case rel => exact ⟨k + 1, by omega, by go_num, R1.out, R2.out⟩
          case measure => simp [intOf]; omega
        · have hke : k = ls.length := by omega
          subst hke
          rw [List.take_length] at hown
          go_wp2
          go_ret
          exact ⟨_, rfl, hown, hbel⟩

theorem run_equalIn_bytes (d : Nat) (w : World) (a : Addr) (l c : Nat) : (Op.equalIn (d + 1) 39 (.slice (some a) l c) (.slice none 0 0)).run Tryz.prog w = .ok false w := by
  simp [Op.equalIn, run_underlying Tryz.underlying39]
theorem run_equal_bytes (w : World) (a : Addr) (l c : Nat) : (Op.equal 39 (.slice (some a) l c) (.slice none 0 0)).run Tryz.prog w = .ok false w := run_equalIn_bytes 9999 w a l c
theorem run_eql_bytes (w : World) (a : Addr) (l c : Nat) : (binOp .eql 39 (.slice (some a) l c) (.slice none 0 0)).run Tryz.prog w = .ok (.bool false) w := by
  simp only [binOp]
  simp [run_equal_bytes w a l c]

set_option maxHeartbeats 1000000 in
theorem clone8_ok (w : World) (v : Value) (l : List Int) (h : Bts w v l) (hne : l ≠ []) (hbig : l.length ≤ 1000000) :
    Calls Tryz.prog 72 #[v] w fun e w' => ∃ v', e = .returned v' ∧ Owns w' w.heap.size v' l ∧ Below w.heap.size w w' := by
  obtain ⟨i0, hi, hz0, hz1, hz2⟩ := info_parts info5
  have hB : Below w.heap.size w (w.alloc (.cells #[] 5)) := below_alloc _ _
  obtain ⟨a, c, rfl, hl, hmc, hsrc⟩ := bts_src (h.later hB)
  rcases hsrc with ⟨ad, rfl, hsrc⟩ | h0
  case inr => exact absurd (List.eq_nil_of_length_eq_zero h0) hne
  have hown : (w.alloc (.cells #[] 5)).ownsRow w.heap.size 5 1 (.slice (some ⟨w.heap.size, 0, none⟩) 0 0) 0 [] := World.ownsRow_made w #[] 0 (Nat.le_refl _) (by decide) rfl
  obtain ⟨v', w1, hrun, ho, hg, _⟩ := run_append_own (P := Tryz.prog) (w.alloc (.cells #[] 5)) w.heap.size 39 39 5 i0 (.int .u8 0) 1 1 Tryz.underlying39 hi hz0 hz1 hz2 rfl (by decide) (.slice (some ⟨w.heap.size, 0, none⟩) 0 0) 0 [] hown ad l.length c (bytesV l) (by simp) hsrc (ones_bytes _) (by unfold maxLen; omega) (by omega) (by simp)
  rw [Nat.zero_add, List.nil_append] at ho
  have HO : Hid (Owns w1 w.heap.size v' l) := ho
  have HB : Hid (Below w.heap.size w w1) := hB.grown hg (by simp) (fun k hk => by simp [Value.ownBlock] at hk; omega)
  clear ho hg hB hown hsrc h hi hz0 hz1 hz2
  unfold maxLen at hmc
  have heq := run_eql_bytes
  go_enter Tryz.func72, Tryz.ntmps72
  go_wp2_with (at_builtin; refine wpl_append_run rfl _ _ 39 rfl _ _ rfl rfl hrun ?_)
  go_ret
  exact ⟨_, rfl, HO.out, HB.out⟩

end Go.Proofs.YtafkkehcacdodaaGreat

namespace Go.Proofs.YtafkkehcacdodaaGreat
open Go.RowKit

theorem lay_frame (b : List Int) : (lay (90 :: (b.length : Int) :: (b ++ [0, 0, 0, 0, 0])) (2 + b.length) 4 (crcV b)).set (b.length + 6) 165 = frameB b := by
  have hs : ∀ (i : Nat) (t : List Int) (x : Int), (90 :: (b.length : Int) :: (b ++ t)).set (2 + b.length + i) x = 90 :: (b.length : Int) :: (b ++ t.set i x) := by
    intro i t x
    rw [show 2 + b.length + i = (b.length + i) + 1 + 1 by omega, List.set_cons_succ, List.set_cons_succ, List.set_append_right (b.length + i) x (by omega)]
    simp
  simp only [lay]
  rw [hs 3, hs 2, hs 1, hs 0, show b.length + 6 = 2 + b.length + 4 by omega, hs 4]
  simp only [frameB, four, List.set_cons_zero, List.set_cons_succ, List.cons_append, List.nil_append]
  have e1 : crcV b / 256 / 256 = crcV b / 65536 := by omega
  have e2 : crcV b / 256 / 256 / 256 = crcV b / 16777216 := by omega
  rw [e2, e1]

theorem frameE_zero {b : List Int} (h1 : 1 ≤ b.length) (h2 : b.length ≤ 56) : frameE b = 0 := by
  unfold frameE; rw [if_neg (by omega), if_neg (by omega)]

theorem frameE_len {b : List Int} (h : frameE b = 0) : 1 ≤ b.length ∧ b.length ≤ 56 := by
  unfold frameE at h
  split at h
  · cases h
  · split at h
    · cases h
    · omega

set_option maxHeartbeats 1000000 in
theorem frame_no (w : World) (v : Value) (b : List Int) (h : Bts w v b) (hE : frameE b ≠ 0) :
    Calls Tryz.prog 108 #[v] w fun e w' => e = .returned (.tuple #[.slice none 0 0, .int .i64 (frameE b)]) ∧ w' = w := by
  obtain ⟨a, c, rfl, hl, hm, _⟩ := bts_src h
  clear h
  unfold maxLen at hm
  by_cases h0 : b.length = 0
  · have HE : Hid (frameE b = 1) := by show _ = _; unfold frameE; rw [if_pos h0]
    rw [h0]
    clear hE
    go_enter Tryz.func108, Tryz.ntmps108
    go_wp2
    go_ret2
    exact ⟨by rw [HE.out]; rfl, rfl⟩
  · by_cases h56 : 56 < b.length
    · have HE : Hid (frameE b = 3) := by show _ = _; unfold frameE; rw [if_neg h0, if_pos h56]
      have h0I : ¬ (b.length : Int) = 0 := by omega
      have h56I : (56 : Int) < b.length := by omega
      clear hE
      generalize b.length = n at *
      go_enter Tryz.func108, Tryz.ntmps108
      go_wp2
      go_ret2
      exact ⟨by rw [HE.out]; rfl, rfl⟩
    · exact absurd (frameE_zero (by omega) (by omega)) hE

theorem holds8_mono {w : World} {N M G len cap : Nat} {l : List Int} (h : Holds8 w N G len cap l) (hM : M ≤ N) : Holds8 w M G len cap l := by
  refine ⟨h.1, h.2.1, ?_⟩
  rcases h.2.2 with h0 | ⟨g, c, cur, hv, hg, r⟩
  · exact .inl h0
  · exact .inr ⟨g, c, cur, hv, Nat.le_trans hM hg, r⟩

theorem made8 (n : Nat) : (madeCells (Value.int .u8 0).cells (n * 1)).toList = bytesV (zeros n) := by
  apply List.ext_getElem?
  intro j
  by_cases hj : j < n
  · simp [madeCells, hj, Value.cells, zeros, Nat.mod_one]
  · simp [madeCells, hj, zeros]

theorem pts_three {w : World} {v1 v2 v3 : Value} {l1 l2 l3 : List Int} (t : TypeId) (h1 : Bts w v1 l1) (h2 : Bts w v2 l2) (h3 : Bts w v3 l3) : Pts (w.alloc (.cells #[v1, v2, v3] t)) w.heap.size 0 [l1, l2, l3] := by
  have b := below_alloc w (.cells #[v1, v2, v3] t)
  have hb := blk_new w #[v1, v2, v3] t
  intro i hi
  have : i = 0 ∨ i = 1 ∨ i = 2 := by simp at hi; omega
  rcases this with rfl | rfl | rfl
  · exact ⟨v1, hb.cell 0, h1.later b⟩
  · exact ⟨v2, hb.cell 1, h2.later b⟩
  · exact ⟨v3, hb.cell 2, h3.later b⟩

set_option maxHeartbeats 2000000 in
theorem frame_ok (w : World) (v : Value) (b : List Int) (h : Bts w v b) (h1 : 1 ≤ b.length) (h2 : b.length ≤ 56) :
    Calls Tryz.prog 108 #[v] w fun e w' => ∃ G, e = .returned (.tuple #[.slice (some ⟨G, 0, none⟩) (b.length + 7) (b.length + 7), .int .i64 0]) ∧ Holds8 w' w.heap.size G (b.length + 7) (b.length + 7) (frameB b) ∧ Below w.heap.size w w' := by
  have hbb : isBytes b := by obtain ⟨_, _, _, _, _, _, _, hb, _⟩ := h; exact hb
  have HV : Hid (Bts w v b) := h
  obtain ⟨a, c, e, hl, hm, _⟩ := bts_src h
  subst e
  unfold maxLen at hm
  have h0I : ¬ (b.length : Int) = 0 := by omega
  have h56I : ¬ (56 : Int) < b.length := by omega
  have hw5 : isBytes [0, 0, 0, 0, 0] := by intro z hz; simp at hz; omega
  have hw2 : isBytes [90, (b.length : Int)] := by intro z hz; simp at hz; omega
  have HFL : Hid ([[90, (b.length : Int)], b, [0, 0, 0, 0, 0]].flatten = 90 :: (b.length : Int) :: (b ++ [0, 0, 0, 0, 0])) := by show _ = _; simp
  have HLF : Hid ((90 :: (b.length : Int) :: (b ++ [0, 0, 0, 0, 0])).length = b.length + 7) := by show _ = _; simp
  have HLAY : Hid ((lay (90 :: (b.length : Int) :: (b ++ [0, 0, 0, 0, 0])) (2 + b.length) 4 (crcV b)).set (b.length + 6) 165 = frameB b) := lay_frame b
  obtain ⟨i0, hi, hz0, hz1, hz2⟩ := info_parts info5
  have HP : Hid (∀ w2 : World, (w.alloc (.cells #[.int .u8 90, .int .u8 b.length] 5)).grownBy w2 none → w2.ownsRow (w.heap.size + 1) 5 1 (.slice (some ⟨w.heap.size + 1, 0, none⟩) 5 5) 5 (madeCells (Value.int .u8 0).cells (5 * 1)).toList →
      Below w.heap.size w w2 ∧ Pts (w2.alloc (.cells #[.slice (some ⟨w.heap.size, 0, none⟩) 2 2, .slice a b.length c, .slice (some ⟨w.heap.size + 1, 0, none⟩) 5 5] 39)) w2.heap.size 0 [[90, (b.length : Int)], b, [0, 0, 0, 0, 0]]) := by
    intro w2 hg ho
    have B1 := below_alloc w (.cells #[.int .u8 90, .int .u8 b.length] 5)
    have hb' : Below (w.alloc (.cells #[.int .u8 90, .int .u8 b.length] 5)).heap.size (w.alloc (.cells #[.int .u8 90, .int .u8 b.length] 5)) w2 := (Below.refl _ _).grown hg (Nat.le_refl _) (fun k hk => by cases hk)
    refine ⟨below_trans B1 hb', pts_three _ ?_ ((HV.out.later B1).later hb') ?_⟩
    · exact (blk_bts (l := [90, (b.length : Int)]) (blk_new w _ 5) hw2 (by simp [maxLen])).later hb'
    · have e : (madeCells (Value.int .u8 0).cells (5 * 1)).toList = bytesV [0, 0, 0, 0, 0] := made8 5
      rw [e] at ho
      have : Owns w2 (w.heap.size + 1) (.slice (some ⟨w.heap.size + 1, 0, none⟩) 5 5) [0, 0, 0, 0, 0] := ho
      exact this.bts hw5
  have hcv := crcV_bd b hbb
  have HC : Hid (∀ w3, Below w.heap.size w w3 → Calls Tryz.prog 116 #[.slice a b.length c] w3 fun e w' => e = .returned (.int .u32 (crcV b)) ∧ Below w3.heap.size w3 w') := by
    intro w3 hb
    obtain ⟨a', c', b', off', e, q1, q2, q3, q4, q5⟩ := HV.out.later hb
    simp only [Value.slice.injEq, true_and] at e
    obtain ⟨rfl, rfl⟩ := e
    exact crc_any a b' off' b.length c b w3 q1 q2 rfl q3 q4 q5
  generalize crcV b = X at *
  have HL1 : Hid (b.length + 7 ≤ 140737488351232) := by show _ ≤ _; omega
  clear h
  go_enter Tryz.func108, Tryz.ntmps108
  go_wp2_with (at_make; refine wpList_make_full _ rfl _ _ 39 rfl (w.heap.size + 1) 5 i0 (.int .u8 0) 1 Tryz.underlying39 hi hz0 hz1 .i64 .i64 _ _ 5 rfl rfl rfl rfl (by rw [hz2]; omega) (by unfold maxLen; omega) (by simp) ?_; intro w2 hown hgrow)
  rw [World.size_alloc] at hown
  obtain ⟨hB2, hP2⟩ := HP.out w2 hgrow hown
  refine (concat_any w2.heap.size 0 3 [[90, (b.length : Int)], b, [0, 0, 0, 0, 0]] _ (by simp) (by decide) hP2 ?_ (by rw [HFL.out, HLF.out]; omega) (by rw [HFL.out, HLF.out]; omega)).mono ?_
  · intro i hi
    have : i = 0 ∨ i = 1 ∨ i = 2 := by simp at hi; omega
    rcases this with rfl | rfl | rfl
    · simp
    · show b ≠ []
      intro e
      rw [e] at h1
      simp at h1
    · simp
  rintro e w3 ⟨v3, rfl, hO3, hB3⟩
  rw [HFL.out] at hO3
  obtain ⟨G, cap, hv3, hH⟩ := holds8_of_owns hO3 HLF.out (by omega)
  subst hv3
  have hB03 : Below w.heap.size w w3 := hB2.trans (((below_alloc w2 _).trans (hB3.mono (by simp))).mono hB2.size)
  have HO3 : Hid (Owns w3 (w2.alloc (.cells #[.slice (some ⟨w.heap.size, 0, none⟩) 2 2, .slice a b.length c, .slice (some ⟨w.heap.size + 1, 0, none⟩) 5 5] 39)).heap.size (.slice (some ⟨G, 0, none⟩) (b.length + 7) cap) (90 :: (b.length : Int) :: (b ++ [0, 0, 0, 0, 0]))) := hO3
  have HH3 : Hid (Holds8 w3 (w2.alloc (.cells #[.slice (some ⟨w.heap.size, 0, none⟩) 2 2, .slice a b.length c, .slice (some ⟨w.heap.size + 1, 0, none⟩) 5 5] 39)).heap.size G (b.length + 7) cap (90 :: (b.length : Int) :: (b ++ [0, 0, 0, 0, 0]))) := hH
  clear hO3 hH hB2 hP2 hB3 hown hgrow
  have HC3 := HC.out w3 hB03
  go_wp2_with (go_at_call 116; refine HC3.mono ?_; rintro e w4 ⟨rfl, hB4⟩)
  have hS4 : Sees w4 G 0 (90 :: (b.length : Int) :: (b ++ [0, 0, 0, 0, 0])) := fun i hi => by
    rw [Nat.zero_add]
    exact cell_later hB4 (HH3.out.cell i (by rw [HLF.out] at hi; exact hi))
  have hB04 : Below w.heap.size w w4 := hB03.trans (hB4.mono hB03.size)
  refine (put_yes3 G 0 (b.length + 7) cap _ (2 + (b.length : Int)) (2 + b.length) 4 4 X w4 (by omega) rfl HLF.out hS4 (by omega) (by omega) (by omega) hcv.1 (by omega) HL1.out).mono ?_
  rintro e w5 ⟨G5, rfl, hH5, hB5⟩
  have hB05 : Below w.heap.size w w5 := hB04.trans (hB5.mono hB04.size)
  have hsz4 : w.heap.size ≤ w4.heap.size := hB04.size
  have hc5 := hH5.cell (b.length + 6) (by omega)
  have hf5 : w5.frozen? ⟨G5, b.length + 6, none⟩ = false := hH5.2.frozenAt (b.length + 6)
  have hg5 : w4.heap.size ≤ G5 := hH5.base
  have HH5 : Hid (Holds8 (w5.setCell ⟨G5, b.length + 6, none⟩ (.int .u8 165)) w4.heap.size G5 (b.length + 7) (b.length + 7) (frameB b)) := by
    show Holds8 _ _ _ _ _ _
    rw [← HLAY.out]
    exact hH5.store (b.length + 6) 165
  have HB5 : Hid (Below w.heap.size w (w5.setCell ⟨G5, b.length + 6, none⟩ (.int .u8 165))) := hB05.setCell (by show w.heap.size ≤ G5; omega) _
  clear hH5 hB5 hB05 hB04 hS4 hB4 hB03
  go_wp2
  go_ret2
  exact ⟨G5, by go_num, holds8_mono HH5.out hsz4, HB5.out⟩

end Go.Proofs.YtafkkehcacdodaaGreat

namespace Go.Proofs.YtafkkehcacdodaaGreat
open Go.RowKit

/-- The cell of the reader: a slice that shows bytes. -/
structure Rdr (w : World) (R : Nat) (A : Option Addr) (b off cap : Nat) (l : List Int) : Prop where
  cell : w.cell? ⟨R, 0, none⟩ = some (.slice A l.length cap)
  frz : w.frozen? ⟨R, 0, none⟩ = false
  le : l.length ≤ cap
  mx : cap ≤ maxLen
  bt : isBytes l
  ad : A = some ⟨b, off, none⟩ ∨ l = []
  sees : Sees w b off l
  ne : l ≠ [] → b ≠ R

theorem sees_part {w : World} {b off : Nat} {l : List Int} (h : Sees w b off l) (p n : Nat) (hp : p + n ≤ l.length) : Sees w b (off + p) ((l.drop p).take n) := fun i hi => by
  have hi' : i < n := by simp at hi; omega
  have := h (p + i) (by omega)
  rw [Nat.add_assoc, this]
  simp [List.getD, hi']

theorem get_yesI (b off len cap : Nat) (l : List Int) (q : Int) (p : Nat) (m : Int) (n : Nat) (w : World) (hq : q = p) (hm : m = n) (hl : len ≤ maxLen) (hc : len ≤ cap) (hcm : cap ≤ maxLen) (hL : l.length = len) (hb : isBytes l)
    (hs : Sees w b off l) (h1 : 1 ≤ n) (h2 : n ≤ 8) (h3 : p + n ≤ len) :
    Calls Tryz.prog 115 #[.slice (some ⟨b, off, none⟩) len cap, .int .i64 q, .int .i64 m] w fun e w' => e = .returned (.tuple #[.int .u64 (num ((l.drop p).take n)), .bool true]) ∧ w' = w := by
  subst hq; subst hm
  exact get_yes b off len cap l p n w hl hc hcm hL hb hs h1 h2 h3

theorem okB_eq {l : List Int} (h1 : 2 ≤ l.length) (h2 : l.getD 0 0 = 90) (h3 : 1 ≤ l.getD 1 0) (h4 : l.getD 1 0 ≤ 56) (h5 : (l.getD 1 0).toNat + 7 ≤ l.length) (h6 : l.getD ((l.getD 1 0).toNat + 6) 0 = 165) :
    okB l = decide (num ((l.drop ((l.getD 1 0).toNat + 2)).take 4) = crcV ((l.drop 2).take (l.getD 1 0).toNat)) := by
  unfold okB
  exact decide_eq_decide.2 ⟨fun h => h.2.2.2.2.2.2, fun h => ⟨h1, h2, h3, h4, h5, h6, h⟩⟩

set_option maxHeartbeats 2000000 in
theorem next_no (w : World) (R : Nat) (A : Option Addr) (b off cap : Nat) (l : List Int) (h : Rdr w R A b off cap l) (hk : okB l = false) :
    Calls Tryz.prog 95 #[.pointer (some ⟨R, 0, none⟩)] w fun e w' => e = .returned (.tuple #[.slice none 0 0, .bool false]) ∧ Below w.heap.size w w' := by
  have hc := h.cell
  have hle := h.le
  have hm := h.mx
  unfold maxLen at hm
  by_cases h2 : l.length < 2
  · have h2I : (l.length : Int) < 2 := by omega
    clear h hk
    go_enter Tryz.func95, Tryz.ntmps95
    go_wp2
    go_ret2
    exact ⟨rfl, Below.refl _ _⟩
  have h2I : ¬ (l.length : Int) < 2 := by omega
  rcases h.ad with rfl | hnil
  case inr => rw [hnil] at h2; simp at h2
  have c0 := h.sees 0 (by omega)
  have c1 := h.sees 1 (by omega)
  rw [Nat.add_zero] at c0
  obtain ⟨b0, b1⟩ := getD_byte l h.bt 1
  by_cases h90 : l.getD 0 0 = 90
  case neg =>
    have h90' : (l.getD 0 0 != 90) = true := by simpa using h90
    clear h hk
    generalize l.getD 0 0 = x0 at *
    have h0 : 0 < l.length := by omega
    go_enter Tryz.func95, Tryz.ntmps95
    go_wp2
    go_ret2
    exact ⟨rfl, Below.refl _ _⟩
  have h0 : 0 < l.length := by omega
  have h1I : (1 : Int) < l.length := by omega
  rw [h90] at c0
  obtain ⟨N, hN⟩ : ∃ N : Nat, l.getD 1 0 = (N : Int) := ⟨_, (Int.toNat_of_nonneg b0).symm⟩
  rw [hN] at c1 b1
  by_cases k1 : N = 0
  · subst k1
    clear h hk hN
    go_enter Tryz.func95, Tryz.ntmps95
    go_wp2
    go_ret2
    exact ⟨rfl, Below.refl _ _⟩
  have k1I : ¬ (N : Int) = 0 := by omega
  by_cases k2 : 56 < N
  · have k2I : (56 : Int) < N := by omega
    clear h hk hN
    go_enter Tryz.func95, Tryz.ntmps95
    go_wp2
    go_ret2
    exact ⟨rfl, Below.refl _ _⟩
  have k2I : ¬ (56 : Int) < N := by omega
  by_cases k3 : l.length < N + 7
  · have k3I : (l.length : Int) < N + 7 := by omega
    clear h hk hN
    go_enter Tryz.func95, Tryz.ntmps95
    go_wp2
    go_ret2
    exact ⟨rfl, Below.refl _ _⟩
  have k3I : ¬ (l.length : Int) < N + 7 := by omega
  have c6 := h.sees (N + 6) (by omega)
  rw [show off + (N + 6) = off + (2 + N + 4) by omega] at c6
  by_cases k4 : l.getD (N + 6) 0 = 165
  case neg =>
    have k4' : (l.getD (N + 6) 0 != 165) = true := by simpa using k4
    clear h hk hN
    generalize l.getD (N + 6) 0 = x6 at *
    go_enter Tryz.func95, Tryz.ntmps95
    go_wp2
    go_ret2
    exact ⟨rfl, Below.refl _ _⟩
  rw [k4] at c6
  have HG := get_yesI b off l.length cap l (2 + (N : Int)) (2 + N) 4 4 w (by omega) rfl (by unfold maxLen; omega) hle h.mx rfl h.bt h.sees (by omega) (by omega) (by omega)
  have hml : ((l.drop 2).take N).length = N := by simp; omega
  have hcm : cap - 2 ≤ maxLen := by unfold maxLen; omega
  have HC := crc_any (some ⟨b, off + 2, none⟩) b (off + 2) N (cap - 2) ((l.drop 2).take N) w (by omega) hcm hml (isBytes_part l h.bt 2 N) (.inl rfl) (sees_part h.sees 2 N (by omega))
  have hne : num ((l.drop (2 + N)).take 4) ≠ crcV ((l.drop 2).take N) := by
    intro e
    have := okB_eq (l := l) (by omega) h90 (by omega) (by omega) (by omega) (by rw [hN, Int.toNat_natCast]; exact k4)
    rw [hN, Int.toNat_natCast, hk, Nat.add_comm N 2] at this
    simp [e] at this
  have hcv := crcV_bd _ (isBytes_part l h.bt 2 N)
  generalize num ((l.drop (2 + N)).take 4) = Y at *
  generalize crcV ((l.drop 2).take N) = X at *
  have hne' : (Y != X) = true := by simpa using hne
  have k3' : (N : Int) + 7 ≤ l.length := by omega
  have hcapI : (N : Int) + 7 ≤ cap := by omega
  have k1B : ((N : Int) == 0) = false := by simpa using k1I
  have k3L : ¬ (l.length : Int) < 2 + (N : Int) + 5 := by omega
  clear h hk hN hne hml hcm k1I
  go_enter Tryz.func95, Tryz.ntmps95
  go_wp2_with (first
    | (go_at_call 115; refine HG.mono ?_; rintro e w' ⟨rfl, rfl⟩)
    | (go_at_call 116; refine HC.mono ?_; rintro e w4 ⟨rfl, hB4⟩))
  go_ret2
  exact ⟨rfl, hB4⟩

/-- What next leaves. -/
structure Nxt (w w' : World) (R b : Nat) (l : List Int) (v : Value) : Prop where
  body : Bts w' v (bodyB l)
  rest : ∃ A off cap, Rdr w' R A b off cap (l.drop ((bodyB l).length + 7))
  below : ∀ base, base ≤ R → base ≤ w.heap.size → Below base w w'
  kept : ∀ g, g < w.heap.size → g ≠ R → w'.heap[g]? = w.heap[g]?

set_option maxHeartbeats 2000000 in
theorem next_ok8 (w : World) (R : Nat) (A : Option Addr) (b off cap : Nat) (l : List Int) (h : Rdr w R A b off cap l) (hR : R < w.heap.size) (hb0 : b < w.heap.size) (hk : okB l = true) :
    Calls Tryz.prog 95 #[.pointer (some ⟨R, 0, none⟩)] w fun e w' => ∃ v, e = .returned (.tuple #[v, .bool true]) ∧ Nxt w w' R b l v := by
  have hc := h.cell
  have hf := h.frz
  have hle := h.le
  have hm := h.mx
  unfold maxLen at hm
  obtain ⟨o1, o2, o3, o4, o5, o6, o7⟩ := of_decide_eq_true hk
  obtain ⟨b0, b1⟩ := getD_byte l h.bt 1
  obtain ⟨N, hN⟩ : ∃ N : Nat, l.getD 1 0 = (N : Int) := ⟨_, (Int.toNat_of_nonneg b0).symm⟩
  have HBL := bodyB_len hk
  rw [hN] at o3 o4 o5 o6 o7 b1 HBL
  rw [Int.toNat_natCast] at o5 o6 o7 HBL
  have hbod : bodyB l = (l.drop 2).take N := by unfold bodyB; rw [hN, Int.toNat_natCast]
  rcases h.ad with rfl | hnil
  case inr => rw [hnil] at o1; simp at o1
  have hbR : b ≠ R := h.ne (fun e => by rw [e] at o1; simp at o1)
  have c0 := h.sees 0 (by omega)
  have c1 := h.sees 1 (by omega)
  have c6 := h.sees (N + 6) (by omega)
  rw [Nat.add_zero, o2] at c0
  rw [hN] at c1
  rw [show off + (N + 6) = off + (2 + N + 4) by omega, o6] at c6
  have h0 : 0 < l.length := by omega
  have h1I : (1 : Int) < l.length := by omega
  have h2I : ¬ (l.length : Int) < 2 := by omega
  have k1B : ((N : Int) == 0) = false := by simp; omega
  have k2I : ¬ (56 : Int) < N := by omega
  have k3' : (N : Int) + 7 ≤ l.length := by omega
  have k3L : ¬ (l.length : Int) < 2 + (N : Int) + 5 := by omega
  have hcapI : (N : Int) + 7 ≤ cap := by omega
  have HG := get_yesI b off l.length cap l (2 + (N : Int)) (2 + N) 4 4 w (by omega) rfl (by unfold maxLen; omega) hle h.mx rfl h.bt h.sees (by omega) (by omega) (by omega)
  have hml : ((l.drop 2).take N).length = N := by simp; omega
  have hcm : cap - 2 ≤ maxLen := by unfold maxLen; omega
  have HC := crc_any (some ⟨b, off + 2, none⟩) b (off + 2) N (cap - 2) ((l.drop 2).take N) w (by omega) hcm hml (isBytes_part l h.bt 2 N) (.inl rfl) (sees_part h.sees 2 N (by omega))
  have hcv := crcV_bd _ (isBytes_part l h.bt 2 N)
  rw [Nat.add_comm N 2] at o7
  rw [o7] at HG
  have HN : Hid (∀ (w4 : World) (v' : Value) (A' : Option Addr) (off' cap' : Nat), Below w.heap.size w w4 → v' = .slice A' (l.length - (N + 7)) cap' → l.length - (N + 7) ≤ cap' → cap' ≤ maxLen → ((A' = some ⟨b, off', none⟩ ∧ off' = off + (N + 7)) ∨ l.length = N + 7) →
      Nxt w (w4.setCell ⟨R, 0, none⟩ v') R b l (.slice (some ⟨b, off + 2, none⟩) N (cap - 2))) := by
    intro w4 v' A' off' cap' hB hv' q1 q2 q3
    have hS4 : Sees (w4.setCell ⟨R, 0, none⟩ v') b off l := fun i hi => by
      have := cell_later hB (h.sees i hi)
      rw [World.cell?_setCell_far _ _ _ _ (fun e => hbR e.symm)]
      exact this
    have hcR : w4.cell? ⟨R, 0, none⟩ = _ := cell_later hB h.cell
    have hdl : (l.drop (N + 7)).length = l.length - (N + 7) := by simp
    refine ⟨?_, ⟨A', off', cap', ?_⟩, ?_, fun g h1 h2 => (heap_setCell_other _ _ _ _ h2).trans (hB.block g h1)⟩
    · rw [hbod]
      exact ⟨_, _, b, off + 2, by rw [hml], by rw [hml]; omega, hcm, isBytes_part l h.bt 2 N, .inl rfl, sees_part hS4 2 N (by omega)⟩
    · rw [HBL.1]
      refine ⟨?_, ?_, by rw [hdl]; exact q1, q2, isBytes_drop h.bt _, ?_, ?_, fun _ => hbR⟩
      · rw [hdl, ← hv']
        exact World.cell?_setCell_same' _ _ _ (by rw [hcR]; rfl)
      · rw [World.frozen?_setCell]
        exact (hB.frozen (p := ⟨R, 0, none⟩) hR).trans h.frz
      · rcases q3 with ⟨e, _⟩ | e
        · exact .inl e
        · right; apply List.eq_nil_of_length_eq_zero; rw [hdl]; omega
      · rcases q3 with ⟨_, rfl⟩ | e
        · have := sees_part hS4 (N + 7) (l.length - (N + 7)) (by omega)
          rwa [List.take_of_length_le (by simp)] at this
        · intro i hi; rw [hdl] at hi; omega
    · intro base h1 h2
      exact (hB.mono h2).setCell h1 _
  generalize crcV ((l.drop 2).take N) = X at *
  clear h hk hN hml o7 o6 HBL hbod
  by_cases hce : cap = N + 7
  · have hle2 : l.length = N + 7 := by omega
    rw [hce] at hc hcm HC HG HN
    rw [hle2] at hc HG HN k3' k3L h0 h1I h2I
    clear hce hcapI hle o1 o5 hm
    go_enter Tryz.func95, Tryz.ntmps95
    go_wp2_with (first
      | (go_at_call 115; refine HG.mono ?_; rintro e w' ⟨rfl, rfl⟩)
      | (go_at_call 116; refine HC.mono ?_; rintro e w4 ⟨rfl, hB4⟩; have hc4 := cell_later hB4 hc; have hf4 := (hB4.frozen (p := ⟨R, 0, none⟩) hR).trans hf))
    refine bodyPost_ret (results_tmp2 rfl _ _ _) rfl ?_
    refine ⟨_, rfl, ?_⟩
    have e5 : N + 7 - 2 = N + 5 := by omega
    rw [e5] at HN
    have e0 : N + 2 - (2 + N) = 0 := by omega
    rw [e0]
    exact HN.out w4 _ (some ⟨b, off, none⟩) off 0 hB4 (by rw [Nat.sub_self]) (by omega) (by unfold maxLen; omega) (.inr trivial)
  · have hcg : N + 7 < cap := by omega
    have hcgI : (N : Int) + 7 < cap := by omega
    clear hce hcapI
    go_enter Tryz.func95, Tryz.ntmps95
    go_wp2_with (first
      | (go_at_call 115; refine HG.mono ?_; rintro e w' ⟨rfl, rfl⟩)
      | (go_at_call 116; refine HC.mono ?_; rintro e w4 ⟨rfl, hB4⟩; have hc4 := cell_later hB4 hc; have hf4 := (hB4.frozen (p := ⟨R, 0, none⟩) hR).trans hf))
    refine bodyPost_ret (results_tmp2 rfl _ _ _) rfl ?_
    refine ⟨_, rfl, ?_⟩
    exact HN.out w4 _ (some ⟨b, off + (N + 7), none⟩) (off + (N + 7)) (cap - (N + 7)) hB4 (by congr 1 <;> first | omega | (congr 2; omega)) (by omega) (by unfold maxLen; omega) (.inl ⟨rfl, rfl⟩)

end Go.Proofs.YtafkkehcacdodaaGreat

namespace Go.Proofs.YtafkkehcacdodaaGreat
open Go.RowKit

theorem infoB : (Tryz.prog.info? 39).map (fun i => (i.zero, i.size, i.bytes)) = some (some (.slice none 0 0), 1, 24) := by kernel_rfl

/-- A row of slices, each in memory of its own. -/
structure Lst (w : World) (base : Nat) (v : Value) (vs : List Value) (ls : List (List Int)) : Prop where
  win : Win w 1 v ls.length vs
  blk : ∀ g, v.ownBlock = some g → base ≤ g
  bts : ∀ i, i < ls.length → Bts w (vs.getD i undef) (ls.getD i [])
  ent : ∀ i, i < ls.length → ∀ g, (vs.getD i undef).ownBlock = some g → base ≤ g ∧ g < w.heap.size ∧ v.ownBlock ≠ some g

theorem Lst.later {w w' : World} {base : Nat} {v : Value} {vs : List Value} {ls : List (List Int)} (h : Lst w base v vs ls) (hb : Below w.heap.size w w') : Lst w' base v vs ls :=
  ⟨h.win.later hb, h.blk, fun i hi => (h.bts i hi).later hb, fun i hi g hg => ⟨(h.ent i hi g hg).1, Nat.lt_of_lt_of_le (h.ent i hi g hg).2.1 hb.size, (h.ent i hi g hg).2.2⟩⟩

theorem Lst.mono {w : World} {base base' : Nat} {v : Value} {vs : List Value} {ls : List (List Int)} (h : Lst w base v vs ls) (hb : base' ≤ base) : Lst w base' v vs ls :=
  ⟨h.win, fun g hg => Nat.le_trans hb (h.blk g hg), h.bts, fun i hi g hg => ⟨Nat.le_trans hb (h.ent i hi g hg).1, (h.ent i hi g hg).2⟩⟩

theorem lst_nil (w : World) (base : Nat) : Lst w base (.slice none 0 0) [] [] := ⟨win_nil _ _, fun g hg => by simp [Value.ownBlock] at hg, fun i hi => by simp at hi, fun i hi => by simp at hi⟩

theorem bts_same {w w' : World} {v : Value} {l : List Int} (h : Bts w v l) (e : ∀ g, v.ownBlock = some g → g < w.heap.size → w'.heap[g]? = w.heap[g]?) : Bts w' v l := by
  obtain ⟨a, cap, b, off, rfl, h1, h2, h3, h4, h5⟩ := h
  refine ⟨a, cap, b, off, rfl, h1, h2, h3, h4, ?_⟩
  rcases h4 with rfl | rfl
  · intro i hi
    have hc := h5 i hi
    have hlt : b < w.heap.size := World.block_lt_of_cell? w _ hc
    have := e b rfl hlt
    rw [← hc]
    unfold World.cell?
    simp only [this]
  · intro i hi; simp at hi

theorem getD_snoc_lt {α : Type} (l : List α) (x d : α) (i : Nat) (h : i < l.length) : (l ++ [x]).getD i d = l.getD i d := by
  simp only [List.getD, List.getElem?_append_left h]

theorem getD_snoc_eq {α : Type} (l : List α) (x d : α) : (l ++ [x]).getD l.length d = x := by
  simp [List.getD]

theorem one_of_bts {w : World} {v : Value} {l : List Int} (h : Bts w v l) : v.oneCell' = true := by
  obtain ⟨a, cap, b, off, rfl, _⟩ := h; rfl

theorem Lst.kept {w w' : World} {base : Nat} {v : Value} {vs : List Value} {ls : List (List Int)} (h : Lst w base v vs ls) (hk : ∀ g, base ≤ g → g < w.heap.size → w'.heap[g]? = w.heap[g]?) (hsz : w.heap.size ≤ w'.heap.size) : Lst w' base v vs ls :=
  ⟨h.win.same (fun g hg => hk g (h.blk g hg) (h.win.lt g hg)), h.blk, fun i hi => bts_same (h.bts i hi) (fun g hg hlt => hk g (h.ent i hi g hg).1 hlt),
    fun i hi g hg => ⟨(h.ent i hi g hg).1, Nat.lt_of_lt_of_le (h.ent i hi g hg).2.1 hsz, (h.ent i hi g hg).2.2⟩⟩

/-- One slice more at a row's end. -/
theorem Lst.push {w w1 : World} {base : Nat} {v u : Value} {vs : List Value} {ls : List (List Int)} {x : List Int} (h : Lst w base v vs ls) (hB : Below w.heap.size w w1) (hu : Bts w1 u x) (hg : ∀ g, u.ownBlock = some g → w.heap.size ≤ g ∧ g < w1.heap.size)
    (hbase : base ≤ w.heap.size) (hn : ls.length + 1 ≤ 1000000) :
    ∃ v' w3, (Builtin.append_ #[79, 79] 79 #[v, .slice (some ⟨w1.heap.size, 0, none⟩) 1 1]).run Tryz.prog (w1.alloc (.cells #[u] 39)) = .ok v' w3 ∧ Lst w3 base v' (vs ++ [u]) (ls ++ [x]) ∧
      Below w.heap.size w1 w1 ∧ (w1.alloc (.cells #[u] 39)).grownBy w3 v.ownBlock ∧ ∃ a c, v' = .slice a (ls.length + 1) c := by
  obtain ⟨i0, hi, hz0, hz1, hz2⟩ := info_parts infoB
  have hB2 : Below w.heap.size w (w1.alloc (.cells #[u] 39)) := hB.trans ((below_alloc w1 _).mono hB.size)
  have hL := h.later hB2
  have hnews : ∀ j u', [u][j]? = some u' → (w1.alloc (.cells #[u] 39)).cell? ((⟨w1.heap.size, 0, none⟩ : Addr).add j) = some u' := by
    intro j u' hj
    rw [add_at, Nat.zero_add, (blk_new w1 #[u] 39).cell]
    exact hj
  obtain ⟨v', w3, hr, hw, hgr, hat⟩ := win_append (P := Tryz.prog) (w1.alloc (.cells #[u] 39)) 79 79 39 i0 (.slice none 0 0) 1 24 Tryz.underlying79 hi hz0 hz1 hz2 rfl (by decide) v ls.length vs hL.win
    (some ⟨w1.heap.size, 0, none⟩) 1 1 [u] rfl (.inl ⟨_, rfl, hnews⟩) (by intro u' hu'; simp at hu'; subst hu'; exact one_of_bts hu) (by unfold maxLen; omega) (by omega)
  have hvl : vs.length = ls.length := by have := h.win.1; omega
  have hs3 := hgr.size
  have hsz : (w1.alloc (.cells #[u] 39)).heap.size = w1.heap.size + 1 := World.size_alloc _ _
  have hs1 := hB.size
  refine ⟨v', w3, hr, ?_, Below.refl _ _, hgr, win_shape hw⟩
  have hkeep : ∀ (y : Value) (l : List Int), Bts (w1.alloc (.cells #[u] 39)) y l → (∀ g, y.ownBlock = some g → v.ownBlock ≠ some g) → Bts w3 y l := fun y l hy hne =>
    bts_same hy (fun g hg hlt => hgr.block g hlt (fun e => hne g hg e.symm))
  refine ⟨by rw [List.length_append]; exact hw, ?_, ?_, ?_⟩
  · intro g hg'
    rcases hat with e | e
    · rw [e] at hg'; exact h.blk g hg'
    · rw [e] at hg'; simp at hg'; omega
  · intro i hi
    rw [List.length_append, List.length_singleton] at hi
    by_cases hil : i < ls.length
    · rw [getD_snoc_lt _ _ _ _ (by omega), getD_snoc_lt _ _ _ _ hil]
      exact hkeep _ _ (hL.bts i hil) (fun g hg => (h.ent i hil g hg).2.2)
    · have : i = ls.length := by omega
      subst this
      rw [getD_snoc_eq, ← hvl, getD_snoc_eq]
      refine hkeep _ _ (hu.later (below_alloc _ _)) (fun g hg' e => ?_)
      have := h.win.lt g e
      have := (hg g hg').1
      omega
  · intro i hi g hg'
    rw [List.length_append, List.length_singleton] at hi
    by_cases hil : i < ls.length
    · rw [getD_snoc_lt _ _ _ _ (by omega)] at hg'
      obtain ⟨e1, e2, e3⟩ := h.ent i hil g hg'
      refine ⟨e1, by omega, ?_⟩
      rcases hat with e | e
      · rw [e]; exact e3
      · rw [e]; intro e'; simp at e'; omega
    · have : i = ls.length := by omega
      subst this
      rw [← hvl, getD_snoc_eq] at hg'
      obtain ⟨e1, e2⟩ := hg g hg'
      refine ⟨by omega, by omega, ?_⟩
      rcases hat with e | e
      · rw [e]; intro e'; have := h.win.lt g e'; omega
      · rw [e]; intro e'; simp at e'; omega

end Go.Proofs.YtafkkehcacdodaaGreat
