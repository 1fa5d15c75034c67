/- The document's Add. -/
import Derived.Test.YtafkkehcacdodaaGreatSecRef
set_option maxRecDepth 100000
namespace Go.Proofs.YtafkkehcacdodaaGreat
open Go.RowKit
attribute [local go_sem ↓] Go.wp_at_zero Go.wp_at_succ

theorem add_nil (s : St) : s.add [] = s := by simp [St.add]
theorem add_snoc (s : St) (l : List Int) (k : Nat) (h : k < l.length) : s.add (l.take (k + 1)) = (s.add (l.take k)).add [l.getD k 0] := by
  rw [take_snoc l k h]; simp [St.add]

set_option maxHeartbeats 4000000 in
theorem radd_ok (w : World) (tag : Nat → Nat) (base o : Nat) (s : St) (p : ML) (h : MD w tag base o s p) (hbase : base ≤ w.heap.size) (v : Value) (l : List Int) (hv : Bts w v l)
    (hvo : l ≠ [] → ∀ g, v.ownBlock = some g → tag g / 16 ≠ o) (hout : s.outs.length + l.length ≤ 1000000) :
    Calls Tryz.prog 12 #[.pointer (some ⟨p.M, 0, none⟩), v] w fun e w' => e = .returned (.tuple #[]) ∧ ∃ p' tag', p'.M = p.M ∧ MD w' tag' base o (s.add l) p' ∧ Step tag tag' base o w w' := by
  obtain ⟨i0, hi, hz0, hz1, hz2⟩ := info_parts info5
  have HV : Hid (Bts w v l) := hv
  have HVO : Hid (l ≠ [] → ∀ g, v.ownBlock = some g → tag g / 16 ≠ o) := hvo
  obtain ⟨a, cap, b, off, rfl, hl, hm, hbb, ha, _⟩ := hv
  unfold maxLen at hm
  go_enter Tryz.func12, Tryz.ntmps12
  go_wp2
  go_loopw [4] (fun i wr => ∃ (k : Nat) (p1 : ML) (tag1 : Nat → Nat), k ≤ l.length ∧ i = .int .i64 k ∧ p1.M = p.M ∧ MD wr tag1 base o (s.add (l.take k)) p1 ∧ Step tag tag1 base o w wr) (fun i _ => l.length - (intOf i).toNat)
  case atStart => exact ⟨0, p, tag, Nat.zero_le _, rfl, rfl, by rw [List.take_zero, add_nil]; exact h, Step.refl _ _ _ _⟩
  case round =>
    obtain ⟨k, p1, tag1, hk, rfl, hM, h1, hS⟩ := hrel
    by_cases hlt : k < l.length
    · have hltI : (k : Int) < (l.length : Int) := by omega
      rcases ha with rfl | hnil
      case inr => rw [hnil] at hlt; simp at hlt
      have hB1 := bts_other HV.out hS (HVO.out (by intro e; rw [e] at hlt; simp at hlt))
      have hcell : wr.cell? ⟨b, off + k, none⟩ = some (.int .u8 (l.getD k 0)) := by
        obtain ⟨a', cap', b', off', e, _, _, _, ha', hs'⟩ := hB1
        simp only [Value.slice.injEq] at e
        rcases ha' with rfl | hn
        · have := e.1
          simp only [Option.some.injEq, Addr.mk.injEq, and_true] at this
          obtain ⟨rfl, rfl⟩ := this
          exact hs' k hlt
        · rw [hn] at hlt; simp at hlt
      have hcb := getD_byte l hbb k
      have HAS : Hid (s.add (l.take (k + 1)) = (s.add (l.take k)).add [l.getD k 0]) := add_snoc s l k hlt
      have hol : (s.add (l.take k)).outs.length ≤ 1000000 := by simp [St.add]; omega
      generalize hC : l.getD k 0 = c at *
      clear hC
      generalize s.add (l.take k) = s1 at *
      have h4 := h1.m4
      have f4 := h1.fM 4
      rw [hM] at h4 f4
      have H1 : Hid (MD wr tag1 base o s1 p1) := h1
      have HS : Hid (Step tag tag1 base o w wr) := hS
      have HB : Hid (base ≤ wr.heap.size) := Nat.le_trans hbase hS.below.size
      have HF : Hid (∀ wx v' w3, Below wr.heap.size wr wx → wx.grownBy w3 p1.ov.ownBlock → (v'.ownBlock = p1.ov.ownBlock ∨ v'.ownBlock = some wx.heap.size) → Win w3 1 v' (s1.outs.length + 1) (bytesV s1.outs ++ [.int .u8 c]) →
        ∃ p' tag', p'.M = p.M ∧ MD (w3.setCell ⟨p.M, 4, none⟩ v') tag' base o (s1.add [c]) p' ∧ Step tag tag' base o w (w3.setCell ⟨p.M, 4, none⟩ v')) := by
        intro wx v' w3 hx hg ha hw
        obtain ⟨p', tag', e1, e2, e3⟩ := H1.out.added HB.out hx v' [c] (by intro z hz; simp at hz; subst hz; exact hcb) hg ha hw
        rw [hM] at e1 e2 e3
        exact ⟨p', tag', e1, e2, HS.out.trans e3⟩
      have K3 : Hid (∀ wx w3, Below wr.heap.size wr wx → wx.grownBy w3 p1.ov.ownBlock → w3.cell? ⟨p.M, 4, none⟩ = some p1.ov ∧ w3.frozen? ⟨p.M, 4, none⟩ = false) := by
        intro wx w3 hx hg
        have hne : p1.ov.ownBlock ≠ some p1.M := fun e => by have := (H1.out.tO _ e).1; rw [H1.out.tM.1] at this; omega
        have hb : Blk w3 p1.M _ := H1.out.bM.same ((hg.block p1.M (Nat.lt_of_lt_of_le H1.out.bM.lt hx.size) hne.symm).trans (hx.block p1.M H1.out.bM.lt))
        rw [← hM]
        exact ⟨hb.cell 4, hb.frozen 4⟩
      have HWin := h1.wO
      obtain ⟨ao, co, hov, _, _⟩ := h1.oform
      have hMlt : p.M < wr.heap.size := by rw [← hM]; exact h1.bM.lt
      rw [hov] at h4 HWin K3 HF
      clear hB1 hS h1
      go_wp2
      go_region_law ((refine step_win_append rfl (.tmp 15) (.tmp 20) 39 rfl 5 i0 (.int .u8 0) 1 1 Tryz.underlying39 hi hz0 hz1 hz2 rfl (by decide) (.slice ao s1.outs.length co) s1.outs.length (bytesV s1.outs) (by rfl) (by exact HWin.later (below_alloc wr _).drew) ⟨wr.heap.size, 0, none⟩ 1 1 [.int .u8 c] (by rfl) rfl (by exact news_new wr #[.int .u8 c] 5) (by intro u hu; simp at hu; subst hu; rfl) (by unfold maxLen; omega) (by omega) ?_; intro v' w3 hwin hgrow hat; obtain ⟨va, vc, hvv⟩ := win_shape hwin; subst hvv; obtain ⟨g4, g5⟩ := K3.out _ w3 (below_alloc wr _).drew hgrow))
      all_goals
        go_wp2
        go_roundw
        case rel =>
          obtain ⟨p', tag', e1, e2, e3⟩ := HF.out _ _ w3 (below_alloc wr _).drew hgrow hat hwin
          exact ⟨k + 1, p', tag', by omega, by go_num, e1, by rw [HAS.out]; exact e2, e3⟩
        case measure => simp [intOf]; omega
    · have hke : k = l.length := by omega
      subst hke
      rw [List.take_length] at h1
      go_wp2
      refine bodyPost_end (results_none rfl _ _ _) rfl ?_
      exact ⟨rfl, p1, tag1, hM, h1, hS⟩

end Go.Proofs.YtafkkehcacdodaaGreat
