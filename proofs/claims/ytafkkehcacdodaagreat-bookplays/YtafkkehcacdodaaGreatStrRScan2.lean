/- The document's Scan; two lists of records. -/
import Derived.Test.YtafkkehcacdodaaGreatStrRScan
import Derived.Test.YtafkkehcacdodaaGreatSecAwake
set_option maxRecDepth 100000
namespace Go.Proofs.YtafkkehcacdodaaGreat
open Go.RowKit

set_option maxHeartbeats 4000000 in
theorem rscan_ok (w : World) (v0 : Value) (l : List Int) (h : Bts w v0 l) (hbig : l.length ≤ 900000) :
    Calls Tryz.prog 75 #[v0] w fun e w' => ∃ v vs, e = .returned v ∧ Lst w' w.heap.size v vs (scanB l) ∧ Below w.heap.size w w' := by
  obtain ⟨a, cap, b, off, rfl, hl, hm, hbb, ha, hs⟩ := h
  have hm' := hm
  unfold maxLen at hm'
  have HF : Hid (∀ k wr, k < l.length → Below w.heap.size w wr → Calls Tryz.prog 101 #[.slice (some ⟨b, off + k, none⟩) (l.length - k) (cap - k)] wr (FirstPost wr (l.drop k))) := fun k wr hk hb => by
    have hA : At wr b (off + k) (l.drop k).length (cap - k) (l.drop k) := ⟨by rw [List.length_drop]; omega, by omega, rfl, isBytes_drop hbb k, by
      have := sees_part hs k (l.length - k) (by omega)
      rw [List.take_of_length_le (by simp)] at this
      exact this.later hb⟩
    have := first_any wr b (off + k) (cap - k) (l.drop k) hA (by rw [List.length_drop]; omega)
    rwa [List.length_drop] at this
  clear hs
  go_enter Tryz.func75, Tryz.ntmps75
  go_wp2
  go_loopg [3, 4] l.length (fun gk v i wr => ∃ (k : Nat) (ls : List (List Int)) (vs : List Value), k + gk = l.length ∧ i = .int .i64 k ∧ Lst wr w.heap.size v vs ls ∧ ls ++ scanB (l.drop k) = scanB l ∧ ls.length ≤ k ∧ Below w.heap.size w wr)
  case atStart => exact ⟨0, [], [], by omega, rfl, lst_nil _ _, by simp, by simp, Below.refl _ _⟩
  case round =>
    obtain ⟨k, ls, vs, hk, rfl, hL, hE, hll, hB⟩ := hrel
    have HE : Hid (ls ++ scanB (l.drop k) = scanB l) := hE
    clear hE
    by_cases hlt : k < l.length
    case neg =>
      have hge : ¬ (k : Int) < (l.length : Int) := by omega
      have hke : k = l.length := by omega
      have HQ : Hid (ls = scanB l) := by
        have := HE.out
        rwa [hke, List.drop_length, scanB_no (okB_nil (by simp)), List.append_nil] at this
      go_wp2
      go_ret
      exact ⟨_, rfl, ⟨vs, by rw [← HQ.out]; exact hL⟩, hB⟩
    have hltI : (k : Int) < (l.length : Int) := by omega
    rcases ha with rfl | hnil
    case inr => rw [hnil] at hlt; simp at hlt
    have HF1 := HF.out k wr hlt hB
    obtain ⟨av, cv, hvv⟩ := win_shape hL.win
    subst hvv
    go_wp2_with fail
    refine HF1.mono ?_
    rintro e w1 ⟨⟨hk0, rfl⟩ | ⟨hk1, v1, rfl, hO1⟩, hB1⟩
    · have HQ : Hid (ls = scanB l) := by
        have := HE.out
        rwa [scanB_no hk0, List.append_nil] at this
      go_wp2
      go_ret
      exact ⟨_, vs, rfl, by rw [← HQ.out]; exact hL.later hB1, hB.trans (hB1.mono hB.size)⟩
    · obtain ⟨hx0, hb1, hb2, hb3⟩ := bodyB_len hk1
      clear hx0
      have HE2 : Hid ((ls ++ [bodyB (l.drop k)]) ++ scanB (l.drop (k + ((bodyB (l.drop k)).length + 7))) = scanB l) := by
        show _ = _
        rw [← HE.out, scanB_yes hk1, List.drop_drop, List.append_assoc]
        rfl
      have hbt := hO1.bts (bodyB_bytes (isBytes_drop hbb k))
      obtain ⟨v', w3, e1, e2, _, e4, ⟨a5, c5, e5⟩⟩ := hL.push hB1 hbt (fun g hg => hO1.lt g hg) hB.size (by omega)
      have R2 : Below w.heap.size w w3 := by
        have hs1 := hB1.size
        have hs2 := hB.size
        exact (hB.trans ((hB1.trans ((below_alloc w1 _).mono hs1)).mono hB.size)).grown e4 (by simp; omega) (fun g hg => hL.blk g hg)
      rw [List.length_drop] at hb3
      obtain ⟨ua, uc, hv1, _⟩ := bts_src hbt
      subst hv1
      subst e5
      clear hbt hO1 hL hB hB1 HF1 e4 HE hk1
      generalize bodyB (l.drop k) = x at *
      have hz : ((x.length : Int) + 7 == 0) = false := by simp; omega
      go_wp2_with (at_builtin; refine wpl_append_run rfl _ _ 79 rfl _ _ rfl rfl e1 ?_)
      go_roundg (l.length - (k + (x.length + 7)))
      case rel => exact ⟨k + (x.length + 7), ls ++ [x], _, by omega, by go_num, e2, HE2.out, by simp; omega, R2⟩
      case measure => omega

end Go.Proofs.YtafkkehcacdodaaGreat
