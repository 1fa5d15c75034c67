/- The document's Frame. -/
import Derived.Test.YtafkkehcacdodaaGreatStrRow
import Derived.Test.YtafkkehcacdodaaGreatStrFrame
set_option maxRecDepth 100000
namespace Go.Proofs.YtafkkehcacdodaaGreat
open Go.RowKit

set_option maxHeartbeats 1000000 in
theorem rframe_no (w : World) (v : Value) (b : List Int) (h : Bts w v b) (hE : frameE b ≠ 0) :
    Calls Tryz.prog 103 #[v] w fun e w' => e = .returned (.tuple #[.slice none 0 0, .int .i64 (frameE b)]) ∧ w' = w := by
  obtain ⟨a, c, rfl, hl, hm, _⟩ := bts_src h
  clear h
  unfold maxLen at hm
  by_cases h0 : b.length = 0
  · have HE : Hid (frameE b = 1) := by show _ = _; unfold frameE; rw [if_pos h0]
    rw [h0]
    clear hE
    go_enter Tryz.func103, Tryz.ntmps103
    go_wp2
    go_ret2
    exact ⟨by rw [HE.out]; rfl, rfl⟩
  · by_cases h56 : 56 < b.length
    · have HE : Hid (frameE b = 3) := by show _ = _; unfold frameE; rw [if_neg h0, if_pos h56]
      have h0I : ¬ (b.length : Int) = 0 := by omega
      have h56I : (56 : Int) < b.length := by omega
      clear hE
      generalize b.length = n at *
      go_enter Tryz.func103, Tryz.ntmps103
      go_wp2
      go_ret2
      exact ⟨by rw [HE.out]; rfl, rfl⟩
    · exact absurd (frameE_zero (by omega) (by omega)) hE

set_option maxHeartbeats 2000000 in
theorem rframe_ok (w : World) (v : Value) (b : List Int) (h : Bts w v b) (h1 : 1 ≤ b.length) (h2 : b.length ≤ 56) :
    Calls Tryz.prog 103 #[v] w fun e w' => ∃ v', e = .returned (.tuple #[v', .int .i64 0]) ∧ Owns w' w.heap.size v' (frameB b) ∧ Below w.heap.size w w' := by
  have HB : Hid (Bts w v b) := h
  obtain ⟨a, c, o, off, rfl, hl, hm, hb, ha, hs⟩ := h
  have ha' : a = some ⟨o, off, none⟩ := by
    rcases ha with h | h
    · exact h
    · rw [h] at h1; simp at h1
  subst ha'
  have hCV := crcV_bd b hb
  have hm' := hm
  unfold maxLen at hm'
  have HCr : Hid (∀ wr, Below w.heap.size w wr → Calls Tryz.prog 120 #[.slice (some ⟨o, off, none⟩) b.length c] wr fun e w' => e = .returned (.int .u32 (crcV b)) ∧ w' = wr) :=
    fun wr hbel => rcrc_any _ o off b.length c b wr hl hm rfl hb (.inl rfl) (hs.later hbel)
  have hL0 := owns_lit2 w 90 b.length
  have HF : Hid (∀ X : List Int, ((90 :: (b.length : Int) :: b) ++ bytesOfN 4 (crcV b)) ++ [165] = X → X = frameB b) := by
    intro X hX
    rw [← hX]
    simp [frameB, four, bytesOfN]
  go_enter Tryz.func103, Tryz.ntmps103
  go_wp2
  go_loopw [4, 5] (fun v i wr => ∃ t : Nat, t ≤ b.length ∧ i = .int .i64 (t : Int) ∧ Owns wr w.heap.size v (90 :: (b.length : Int) :: b.take t) ∧ Below w.heap.size w wr) (fun _ i _ => b.length - (intOf i).toNat)
  case atStart => exact ⟨0, Nat.zero_le _, rfl, by simpa using hL0, (Below.refl _ _).alloc (Nat.le_refl _) _⟩
  case round =>
    obtain ⟨t, ht, rfl, hown, hbel⟩ := hrel
    by_cases hlt : t < b.length
    · have hcell : wr.cell? ⟨o, off + t, none⟩ = some (.int .u8 (b.getD t 0)) := cell_later hbel (hs t hlt)
      have HT : Hid (90 :: (b.length : Int) :: b.take (t + 1) = (90 :: (b.length : Int) :: b.take t) ++ [b.getD t 0]) := by
        show _ = _
        rw [List.take_succ_eq_append_getElem hlt]
        simp [List.getD, List.getElem?_eq_getElem hlt]
      have htI : (t : Int) < (b.length : Int) := by omega
      generalize hC : b.getD t 0 = x at *
      clear hC
      obtain ⟨v', w1, hrun, ho, hb1⟩ := append_one wr w.heap.size _ _ x hown hbel.size (by simp; omega)
      have R2 := hbel.trans hb1
      rw [← HT.out] at ho
      clear hb1 hown hL0
      go_wp2_with (at_builtin; refine wpl_append_run rfl _ _ 39 rfl _ _ rfl rfl hrun ?_)
      go_roundw
      case rel => exact ⟨t + 1, by omega, by go_num, ho, R2⟩
      case measure => simp [intOf]; omega
    · have hke : t = b.length := by omega
      subst hke
      rw [List.take_length] at hown
      have hC := HCr.out wr hbel
      have hge : ¬ (b.length : Int) < (b.length : Int) := by omega
      clear hL0
      go_wp2_with (first
        | (go_at_call 120; refine hC.mono ?_; rintro e w' ⟨rfl, rfl⟩)
        | (go_at_call 102; refine (lay_any _ w.heap.size _ _ 4 4 (crcV b) w hown hbel.size (by simp; omega) rfl (by omega) hbel).mono ?_; rintro e w3 ⟨v3, rfl, ho3, hb3, hz3⟩; obtain ⟨v4, w4, hrun, ho4, hb4⟩ := append_one w3 w.heap.size _ _ 165 ho3 hz3 (by simp [bytesOfN]; omega))
        | (at_builtin; refine wpl_append_run rfl _ _ 39 rfl _ _ rfl rfl hrun ?_))
      go_ret2
      exact ⟨_, rfl, HF.out _ rfl ▸ ho4, hb3.trans hb4⟩

end Go.Proofs.YtafkkehcacdodaaGreat
