/- Decode of any bytes. -/
import Derived.Test.YtafkkehcacdodaaGreatEntDec3
set_option maxRecDepth 100000
namespace Go.Proofs.YtafkkehcacdodaaGreat
open Go.RowKit

theorem whyM_len {l : List Int} (h : whyM l = 0) : (l.length : Int) = sizeK (b1 l 0) ∧ (b1 l 0 = 1 ∨ b1 l 0 = 2 ∨ b1 l 0 = 3) := by
  unfold whyM at h
  split at h; · omega
  split at h; · omega
  split at h; · omega
  split at h; · omega
  rename_i h1 h2 h3 h4
  refine ⟨by omega, ?_⟩
  unfold sizeK at h2
  split at h2; · omega
  split at h2; · omega
  split at h2; · omega
  omega

theorem entE_no {l : List Int} (h : whyE l ≠ 0) : entE l = En.zero := by unfold entE; rw [if_neg h]

theorem entE_1 {l : List Int} (h : whyE l = 0) (k : b1 l 0 = 1) : entE l = ⟨1, num ((l.drop 1).take 8), 0, 0, 0⟩ := by
  unfold entE; rw [if_pos h, if_pos k, k]

theorem entE_2 {l : List Int} (h : whyE l = 0) (k : b1 l 0 = 2) : entE l = ⟨2, num ((l.drop 1).take 8), num ((l.drop 9).take 4), num ((l.drop 13).take 4), num ((l.drop 17).take 2)⟩ := by
  unfold entE; rw [if_pos h, if_neg (by omega), if_pos k, k]

theorem entE_3 {l : List Int} (h : whyE l = 0) (k : b1 l 0 = 3) : entE l = ⟨3, num ((l.drop 1).take 8), 0, num ((l.drop 9).take 4), num ((l.drop 13).take 2)⟩ := by
  unfold entE; rw [if_pos h, if_neg (by omega), if_neg (by omega), k]

/-- Whatever the bytes. -/
theorem decode_any (v : Value) (l : List Int) (w : World) (h : Bts w v l) :
    Calls Tryz.prog 65 #[v] w fun r w' => r = .returned (.tuple #[enV (entE l), .int .i64 (whyE l)]) ∧ Below w.heap.size w w' := by
  obtain ⟨a, cap, b, off, rfl, h2, h3, h4, h5, h6⟩ := h
  by_cases hM : whyM l = 0
  case neg =>
    have hE : whyE l = whyM l := by rw [whyE_M, if_pos hM]
    rw [hE, entE_no (by rw [hE]; exact hM)]
    exact decode_no a b off l.length cap l w (Nat.le_trans h2 h3) rfl h4 h5 h6 hM
  obtain ⟨hl, hk⟩ := whyM_len hM
  have hne : l ≠ [] := by rintro rfl; revert hl; rcases hk with k | k | k <;> rw [k] <;> decide
  have ha : a = some ⟨b, off, none⟩ := by rcases h5 with h | h; · exact h
                                          · exact absurd h hne
  subst ha
  have hA : At w b off l.length cap l := ⟨h2, h3, rfl, h4, h6⟩
  have hbl : b < w.heap.size := World.block_lt_of_cell? w _ (h6 0 (List.length_pos_iff.2 hne))
  by_cases ht : 1099511627776 < num ((l.drop 1).take 8)
  · have hE : whyE l = 1 := by rw [whyE_M, if_neg (by simpa using hM), if_pos ht]
    rw [hE, entE_no (by rw [hE]; decide)]
    exact decode_late b off l.length cap l w hA hbl hM (by rcases hk with k | k | k <;> rw [k] at hl <;> simp [sizeK] at hl <;> omega) ht
  · have hE : whyE l = 0 := by rw [whyE_M, if_neg (by simpa using hM), if_neg ht]
    rw [hE]
    rcases hk with k | k | k
    · exact decode_ok1 b off l.length cap l w hA hbl hM (by rw [k] at hl; simp [sizeK] at hl; omega) k (by omega) (entE_1 hE k)
    · exact decode_ok2 b off l.length cap l w hA hbl hM (by rw [k] at hl; simp [sizeK] at hl; omega) k (by omega) (entE_2 hE k)
    · exact decode_ok3 b off l.length cap l w hA hbl hM (by rw [k] at hl; simp [sizeK] at hl; omega) k (by omega) (entE_3 hE k)

end Go.Proofs.YtafkkehcacdodaaGreat
