/- Bytes one behind the other: slices.Grow of nothing, slices.Concat; slices.Clone of bytes. -/
import Derived.Test.YtafkkehcacdodaaGreatStrMath
import Derived.Lib.AppendZerosOnto
set_option maxRecDepth 100000
namespace Go.Proofs.YtafkkehcacdodaaGreat
open Go.RowKit

theorem owns_empty {w : World} {base g cap : Nat} {cur : Array Value} (hb : base ≤ g) (hg : w.heap[g]? = some (.cells cur 5 (0, 0))) (hc : cap ≤ maxLen) (hs : cur.size = cap) : Owns w base (.slice (some ⟨g, 0, none⟩) 0 cap) [] :=
  ⟨rfl, .inr ⟨g, cap, cur, rfl, hb, hg, Nat.zero_le _, hc, by simp [hs], by simp⟩⟩

set_option maxHeartbeats 1000000 in
theorem grow_nil (w : World) (N : Int) (n : Nat) (hN : N = n) (h1 : 1 ≤ n) (h2 : n ≤ 1000000) :
    Calls Tryz.prog 144 #[.slice none 0 0, .int .i64 N] w fun e w' => ∃ v, e = .returned v ∧ Owns w' w.heap.size v [] ∧ Below w.heap.size w w' := by
  subst hN
  obtain ⟨i0, hi, hz0, hz1, hz2⟩ := info_parts info5
  have hold : (Builtin.firstCells i0.size 0 (.slice none 0 0)).run Tryz.prog w.drew = .ok ([] : List Value).toArray w.drew := by
    simp [Builtin.firstCells]
  have hr := Lib.run_append_grow_zeros (P := Tryz.prog) w 39 3 39 5 i0 (.int .u8 0) .i64 .i64 Tryz.underlying39 Tryz.underlying3 hi hz0 none 0 0 [] hold n (by omega) (by rw [hz1]; omega) (by omega) (by omega) (by rw [hz2]; omega) (growslice_fits (by omega) (by rw [hz2]; omega))
  have hG1 := grownCap_ge w (0 + n) 0 5
  have hG2 := grownCap_le_maxLen w (0 + n) 0 5 (by unfold maxLen; omega)
  rw [Nat.zero_add] at hr hG1 hG2
  generalize hG : grownCap w n 0 5 = G at *
  clear hG
  have HC : Hid ((([] : List Value).toArray ++ Builtin.zeroCells (Value.int .u8 0).cells n ++ Builtin.zeroCells (Value.int .u8 0).cells (G - n)).size = G) := by
    show _ = _
    simp [Builtin.zeroCells, Value.cells]; omega
  generalize (([] : List Value).toArray ++ Builtin.zeroCells (Value.int .u8 0).cells n ++ Builtin.zeroCells (Value.int .u8 0).cells (G - n)) = C at *
  have HGM : Hid (G ≤ maxLen) := hG2
  unfold maxLen at hG2
  have h1I : (0 : Int) < n := by omega
  go_enter Tryz.func144, Tryz.ntmps144
  go_wp2_with (at_builtin; refine Lib.wpList_append_run _ rfl _ _ _ _ rfl _ _ rfl rfl _ _ hr ?_)
  all_goals
    go_ret
    exact ⟨_, rfl, owns_empty (Nat.le_refl _) (heap_alloc_new _ _) HGM.out HC.out, (below_alloc w _).drew⟩

theorem flat_byte {ls : List (List Int)} {w : World} {B O : Nat} (hp : Pts w B O ls) : isBytes ls.flatten := by
  intro z hz
  obtain ⟨l, hl, hz⟩ := List.mem_flatten.1 hz
  obtain ⟨i, hi, rfl⟩ := List.mem_iff_getElem.1 hl
  obtain ⟨v, _, hb⟩ := hp i hi
  rw [List.getD_eq_getElem?_getD, List.getElem?_eq_getElem hi] at hb
  obtain ⟨_, _, _, _, _, _, _, h, _⟩ := hb
  exact h z hz

set_option maxHeartbeats 2000000 in
theorem concat_any (B O cap : Nat) (ls : List (List Int)) (w : World) (hc : ls.length ≤ cap) (hm : cap ≤ maxLen) (hp : Pts w B O ls) (hne : ∀ i, i < ls.length → ls.getD i [] ≠ []) (h1 : 1 ≤ ls.flatten.length) (hbig : ls.flatten.length ≤ 1000000) :
    Calls Tryz.prog 126 #[.slice (some ⟨B, O, none⟩) ls.length cap] w fun e w' => ∃ v, e = .returned v ∧ Owns w' w.heap.size v ls.flatten ∧ Below w.heap.size w w' := by
  obtain ⟨i0, hi, hz0, hz1, hz2⟩ := info_parts info5
  unfold maxLen at hm
  go_enter Tryz.func126, Tryz.ntmps126
  go_wp2
  go_loop [3, 11] (fun t i => ∃ k : Nat, k ≤ ls.length ∧ i = .int .i64 k ∧ t = .int .i64 (ls.take k).flatten.length) (fun _ i => ls.length - (intOf i).toNat)
  case atStart => exact ⟨0, Nat.zero_le _, rfl, rfl⟩
  case round =>
    obtain ⟨k, hk, rfl, rfl⟩ := hrel
    by_cases hlt : k < ls.length
    · obtain ⟨v, hcell, a, c1, b, off, rfl, q1, q2, q3, q4, q5⟩ := hp k hlt
      have hltI : (k : Int) < (ls.length : Int) := by omega
      have hfl := flatten_take_snoc ls k hlt
      have hle := flatten_take_le ls (k + 1)
      have HF : Hid ((ls.take (k + 1)).flatten.length = (ls.take k).flatten.length + (ls.getD k []).length) := by show _ = _; rw [hfl, List.length_append]
      have hfl2 : (ls.take k).flatten.length + (ls.getD k []).length ≤ 1000000 := by rw [← HF.out]; omega
      clear hfl hle q3 q4 q5
      generalize (ls.getD k []).length = g at *
      generalize (ls.take k).flatten.length = F at *
      unfold maxLen at q2
      go_wp2
      go_round
      case rel => exact ⟨k + 1, by omega, by go_num, by rw [HF.out]; go_num⟩
      case measure => simp [intOf]; omega
    · have hke : k = ls.length := by omega
      subst hke
      have e0 : (List.take ls.length ls) = ls := List.take_length
      rw [e0]
      clear e0
      obtain ⟨T, hT⟩ : ∃ T, T = ls.flatten.length := ⟨_, rfl⟩
      rw [← hT] at h1 hbig ⊢
      have HT0 : Hid (T = ls.flatten.length) := hT
      clear hT
      have HG := grow_nil w (T : Int) T rfl h1 hbig
      go_wp2_with (go_at_call 144; refine HG.mono ?_; rintro e w1 ⟨v1, rfl, hO, hB⟩)
      go_loopw [6, 27] (fun v i wr => ∃ k : Nat, k ≤ ls.length ∧ i = .int .i64 k ∧ Owns wr w.heap.size v (ls.take k).flatten ∧ Below w.heap.size w wr) (fun _ i _ => ls.length - (intOf i).toNat)
      case atStart => exact ⟨0, Nat.zero_le _, rfl, by simpa using hO, hB⟩
      case round =>
        obtain ⟨k, hk, rfl, hown, hbel⟩ := hrel
        by_cases hlt : k < ls.length
        · obtain ⟨u, hcell, hbt⟩ := hp k hlt
          have hltI : (k : Int) < (ls.length : Int) := by omega
          have hcell' := cell_later hbel hcell
          have hfl := flatten_take_snoc ls k hlt
          have hle := flatten_take_le ls (k + 1)
          have HF : Hid ((ls.take (k + 1)).flatten = (ls.take k).flatten ++ ls.getD k []) := hfl
          have hfl2 : (ls.take k).flatten.length + (ls.getD k []).length ≤ 1000000 := by have := HT0.out; rw [hfl, List.length_append] at hle; omega
          have hnek := hne k hlt
          generalize hG : ls.getD k [] = g at *
          clear hG
          obtain ⟨a, c, rfl, hl, hmc, hsrc⟩ := bts_src (hbt.later hbel)
          rcases hsrc with ⟨ad, rfl, hsrc⟩ | h0
          case inr => exact absurd (List.eq_nil_of_length_eq_zero h0) hnek
          obtain ⟨v', w2, hrun, ho, hg, _⟩ := run_append_own (P := Tryz.prog) wr w.heap.size 39 39 5 i0 (.int .u8 0) 1 1 Tryz.underlying39 hi hz0 hz1 hz2 rfl (by decide) _ _ _ hown ad g.length c (bytesV g) (by simp) hsrc (ones_bytes _) (by unfold maxLen; omega) (by omega) hbel.size
          have R1 : Hid (Owns w2 w.heap.size v' (ls.take (k + 1)).flatten) := by
            show Owns _ _ _ _
            unfold Owns; rw [HF.out, List.length_append, List.map_append]; exact ho
          have R2 : Hid (Below w.heap.size w w2) := hbel.grown hg hbel.size (fun j hj => (hown.lt j hj).1)
          unfold maxLen at hmc
          clear ho hg hfl hle hfl2 hnek hsrc hbt hcell hown hbel
          go_wp2_with (at_builtin; refine wpl_append_run rfl _ _ 39 rfl _ _ rfl rfl hrun ?_)
          go_roundw
          case rel => exact ⟨k + 1, by omega, by go_num, R1.out, R2.out⟩
          case measure => simp [intOf]; omega
        · have hke : k = ls.length := by omega
          subst hke
          rw [List.take_length] at hown
          go_wp2
          go_ret
          exact ⟨_, rfl, hown, hbel⟩

theorem run_equalIn_bytes (d : Nat) (w : World) (a : Addr) (l c : Nat) : (Op.equalIn (d + 1) 39 (.slice (some a) l c) (.slice none 0 0)).run Tryz.prog w = .ok false w := by
  simp [Op.equalIn, run_underlying Tryz.underlying39]
theorem run_equal_bytes (w : World) (a : Addr) (l c : Nat) : (Op.equal 39 (.slice (some a) l c) (.slice none 0 0)).run Tryz.prog w = .ok false w := run_equalIn_bytes 9999 w a l c
theorem run_eql_bytes (w : World) (a : Addr) (l c : Nat) : (binOp .eql 39 (.slice (some a) l c) (.slice none 0 0)).run Tryz.prog w = .ok (.bool false) w := by
  simp only [binOp]
  simp [run_equal_bytes w a l c]

set_option maxHeartbeats 1000000 in
theorem clone8_ok (w : World) (v : Value) (l : List Int) (h : Bts w v l) (hne : l ≠ []) (hbig : l.length ≤ 1000000) :
    Calls Tryz.prog 72 #[v] w fun e w' => ∃ v', e = .returned v' ∧ Owns w' w.heap.size v' l ∧ Below w.heap.size w w' := by
  obtain ⟨i0, hi, hz0, hz1, hz2⟩ := info_parts info5
  have hB : Below w.heap.size w (w.alloc (.cells #[] 5)) := below_alloc _ _
  obtain ⟨a, c, rfl, hl, hmc, hsrc⟩ := bts_src (h.later hB)
  rcases hsrc with ⟨ad, rfl, hsrc⟩ | h0
  case inr => exact absurd (List.eq_nil_of_length_eq_zero h0) hne
  have hown : (w.alloc (.cells #[] 5)).ownsRow w.heap.size 5 1 (.slice (some ⟨w.heap.size, 0, none⟩) 0 0) 0 [] := World.ownsRow_made w #[] 0 (Nat.le_refl _) (by decide) rfl
  obtain ⟨v', w1, hrun, ho, hg, _⟩ := run_append_own (P := Tryz.prog) (w.alloc (.cells #[] 5)) w.heap.size 39 39 5 i0 (.int .u8 0) 1 1 Tryz.underlying39 hi hz0 hz1 hz2 rfl (by decide) (.slice (some ⟨w.heap.size, 0, none⟩) 0 0) 0 [] hown ad l.length c (bytesV l) (by simp) hsrc (ones_bytes _) (by unfold maxLen; omega) (by omega) (by simp)
  rw [Nat.zero_add, List.nil_append] at ho
  have HO : Hid (Owns w1 w.heap.size v' l) := ho
  have HB : Hid (Below w.heap.size w w1) := hB.grown hg (by simp) (fun k hk => by simp [Value.ownBlock] at hk; omega)
  clear ho hg hB hown hsrc h hi hz0 hz1 hz2
  unfold maxLen at hmc
  have heq := run_eql_bytes
  go_enter Tryz.func72, Tryz.ntmps72
  go_wp2_with (at_builtin; refine wpl_append_run rfl _ _ 39 rfl _ _ rfl rfl hrun ?_)
  go_ret
  exact ⟨_, rfl, HO.out, HB.out⟩

end Go.Proofs.YtafkkehcacdodaaGreat
