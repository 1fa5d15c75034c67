/- The contract of Decode. -/
import Derived.Test.YtafkkehcacdodaaGreatEntDec
set_option maxRecDepth 100000
namespace Go.Proofs.YtafkkehcacdodaaGreat
open Go.RowKit

theorem whyE_M (l : List Int) : whyE l = if whyM l ≠ 0 then whyM l else if 1099511627776 < num ((l.drop 1).take 8) then 1 else 0 := by
  unfold whyE whyM
  split; · rfl
  split; · rfl
  split; · rfl
  split; · rfl
  rfl

set_option maxHeartbeats 1000000 in
theorem decode_no (a : Option Addr) (b off len cap : Nat) (l : List Int) (w : World) (hc : len ≤ maxLen) (hL : l.length = len) (hb : isBytes l) (ha : a = some ⟨b, off, none⟩ ∨ l = []) (hs : Sees w b off l) (h : whyM l ≠ 0) :
    Calls Tryz.prog 65 #[.slice a len cap] w fun r w' => r = .returned (.tuple #[zEV, .int .i64 (whyM l)]) ∧ Below w.heap.size w w' := by
  have hs1 : Sees (w.alloc (.cells zEC 73)) b off l := hs.later (below_alloc _ _)
  have H := measured_any a b off len cap l (w.alloc (.cells zEC 73)) hc hL hb ha hs1
  have hne : (whyM l != 0) = true := bne_iff_ne.2 h
  have bel := below_alloc w (.cells zEC 73)
  generalize whyM l = y at *
  clear hs hs1 ha hb hL
  go_enter Tryz.func65, Tryz.ntmps65
  go_wp2_with fail
  refine H.mono ?_
  rintro r w1 ⟨rfl, rfl⟩
  go_wp2
  refine bodyPost_ret (v := .tuple #[zEV, .int .i64 y]) ?_ rfl ?_
  · simp [results, Tryz.results65, go_sem]
  · exact ⟨rfl, bel⟩

/-- Behind the first two takes: kind and time are read. -/
theorem start_dc (w w1 : World) (D R E b off len cap : Nat) (l : List Int) (k : Int) (hD : D = w.heap.size) (hR : R = D + 1) (hE : E = R + 1) (hA : At w b off len cap l) (hbl : b < D) (hlen : 1 ≤ len)
    (hW : w1 = (w.alloc (.cells zEC 73)).alloc (.cells #[.slice (some ⟨b, off, none⟩) len cap] 163)) :
    Calls Tryz.prog 97 #[.pointer (some ⟨R, 0, none⟩), .int .i64 1] w1 fun r w' => r = .returned (.int .u64 (b1 l 0)) ∧ w'.heap.size = E ∧
      ∀ w2, w2 = w'.alloc (.cells #[.int .i64 k, .int .i64 0, .int .u32 0, .int .u32 0, .int .i64 0] 73) → Dc w w2 D R E b off len cap 1 l ⟨k, 0, 0, 0, 0⟩ := by
  have hs : w1.heap.size = E := by rw [hW]; simp; omega
  have hb0 : Below D w w1 := by rw [hW, hD]; exact ((Below.refl _ w).alloc (Nat.le_refl _) _).alloc (by simp) _
  have hA1 : At w1 b off len cap l := hA.later (by rw [← hD]; exact hb0)
  have hrd : Rd9 w1 R b off len cap 0 := by
    refine ⟨off, ?_, .inl rfl⟩
    rw [hW, show R = (w.alloc (.cells zEC 73)).heap.size by simp; omega]
    exact heap_alloc_new _ _
  have hans : Ent9 w1 D En.zero := by
    unfold Ent9
    rw [hW, Below.heap_alloc _ _ D (by simp; omega), hD]
    exact heap_alloc_new _ _
  refine (take_any R b off len cap 0 1 1 l w1 hrd hA1 rfl (by decide) (by decide) (by omega)).mono ?_
  rintro r w' ⟨rfl, hR', V, rfl⟩
  have hsz : (w1.setCell ⟨R, 0, none⟩ V).heap.size = E := by simp [World.setCell]; exact hs
  refine ⟨?_, hsz, ?_⟩
  · have hl1 : 0 < l.length := by rw [hA.len]; omega
    have : num ((l.drop 0).take 1) = b1 l 0 := by
      rw [take_next l 0 0 (by omega), num_snoc]; simp [num, b1]
    rw [this]
  · rintro w2 rfl
    have hb2 : Below D w (w1.setCell ⟨R, 0, none⟩ V) := hb0.setCell (by show D ≤ R; omega) V
    refine ⟨hD, by omega, by omega, hb2.alloc (by rw [hsz]; omega) _, ?_, ?_, ?_, hA, hbl⟩
    · exact (hans.other (heap_setCell_other w1 ⟨R, 0, none⟩ D V (by show D ≠ R; omega))).other (Below.heap_alloc _ _ D (by rw [hsz]; omega))
    · unfold Ent9; rw [← hsz]; exact heap_alloc_new _ _
    · exact hR'.other (Below.heap_alloc _ _ R (by rw [hsz]; omega))

set_option maxHeartbeats 1000000 in
theorem decode_late (b off len cap : Nat) (l : List Int) (w : World) (hA : At w b off len cap l) (hbl : b < w.heap.size) (h : whyM l = 0) (h9 : 9 ≤ len) (ht : 1099511627776 < num ((l.drop 1).take 8)) :
    Calls Tryz.prog 65 #[.slice (some ⟨b, off, none⟩) len cap] w fun r w' => r = .returned (.tuple #[zEV, .int .i64 1]) ∧ Below w.heap.size w w' := by
  have hc2 := hA.cap2
  have hc1 := hA.cap1
  have hA0 : At (w.alloc (.cells zEC 73)) b off len cap l := hA.later (below_alloc _ _)
  have H := measured_any _ b off len cap l (w.alloc (.cells zEC 73)) (Nat.le_trans hc1 hc2) hA.len hA.bytes (.inl rfl) hA0.sees
  rw [h] at H
  have HS := fun w1 => start_dc w w1 w.heap.size (w.heap.size + 1) (w.heap.size + 1 + 1) b off len cap l (b1 l 0) rfl rfl rfl hA hbl (by omega)
  have hk := b1_bd l hA.bytes 0
  have hki : IntKind.i64.wrap (b1 l 0) = b1 l 0 := i64_id _ hk.1 (by omega)
  clear hA0 hA
  go_enter Tryz.func65, Tryz.ntmps65
  go_wp2_with fail
  refine H.mono ?_
  rintro r w1 ⟨rfl, rfl⟩
  go_wp2_with fail
  refine (HS _ rfl).mono ?_
  rintro r w2 ⟨rfl, hsz, hdc⟩
  have HT := take_dc (hdc _ rfl) 8 8 rfl (by decide) (by decide) (by omega)
  generalize num ((l.drop 1).take 8) = t at *
  generalize b1 l 0 = k at *
  clear hdc HS H
  go_wp2_with fail
  refine HT.mono ?_
  rintro r w3 ⟨rfl, hd⟩
  obtain ⟨c0, c1, c2, c3, c4⟩ := hd.ans.cells
  have hf := hd.ans.frozen
  have bel := laid9_below hd.below En.zero
  obtain ⟨d0, d1, d2, d3, d4⟩ := (laid9_ent hd.ans En.zero).cells
  obtain ⟨W, hW⟩ : ∃ W, W = laid9 w3 w.heap.size En.zero := ⟨_, rfl⟩
  rw [← hW] at bel d0 d1 d2 d3 d4
  clear HT hd
  go_wp2
  change bodyPost Tryz.prog Tryz.f65 _ Exit.ret _ (laid9 w3 w.heap.size En.zero)
  rw [← hW]
  clear hW c0 c1 c2 c3 c4 hf
  refine bodyPost_ret (v := .tuple #[zEV, .int .i64 1]) ?_ rfl ?_
  · simp [results, Tryz.results65, go_sem, d0, d1, d2, d3, d4, En.zero]
  exact ⟨rfl, bel⟩

end Go.Proofs.YtafkkehcacdodaaGreat
