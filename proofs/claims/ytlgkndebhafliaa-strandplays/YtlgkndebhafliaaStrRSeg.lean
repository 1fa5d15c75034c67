/- The document's Segments. -/
import Derived.Test.YtlgkndebhafliaaStrRSegMath
import Derived.Test.YtlgkndebhafliaaStrInts
import Derived.Deep.LoopGhost
import Derived.BigRegion
import Derived.Lib.SmallJoins
set_option maxRecDepth 100000
namespace Go.Proofs.Ytlgkndebhafliaa
open Go.RowKit
attribute [local go_sem ↓] Go.wp_at_zero Go.wp_at_succ

/-- A row's beginning. -/
theorem own_take {w : World} {base g n cap : Nat} {l : List Int} (h : OwnI w base (.slice (some ⟨g, 0, none⟩) n cap) l) (hn : l.length = n) (m : Nat) (hm : m ≤ n) : WinI w (.slice (some ⟨g, 0, none⟩) m cap) (l.take m) := by
  unfold OwnI at h
  rw [hn] at h
  rcases h.2 with ⟨h0, _⟩ | ⟨g', cap', cur, e, _, hg, h1, h2, h3, h4⟩
  · cases h0
  · simp only [Value.slice.injEq, Option.some.injEq, Addr.mk.injEq, and_true, true_and] at e
    obtain ⟨rfl, rfl⟩ := e
    have hl : (l.take m).length = m := by rw [List.length_take]; omega
    unfold WinI
    rw [hl]
    refine ⟨by simp; omega, .inr ⟨g, 0, cap, cur.toList, rfl, ⟨3, by simpa using hg⟩, by omega, h2, by simp [h3], ?_⟩⟩
    rw [List.drop_zero, List.map_take, ← h4, List.take_take]
    congr 1
    omega

set_option maxHeartbeats 8000000 in
theorem rsegments_ok (w : World) (tag : Nat → Nat) (base o M n pos used : Nat) (bs : List (List Int)) (rs : List (Nat × List Int)) (q : TL) (h : MS w tag base o M n pos used bs (cntL rs n) q) (hn1 : 1 ≤ n) (hn : n ≤ 4096) (hr : ∀ x ∈ rs, x.1 < n) (hrec : rs.length ≤ 900000) :
    Calls Try.prog 63 #[.pointer (some ⟨q.T, 0, none⟩)] w fun e w' => ∃ v, e = .returned v ∧ WinI w' v (segL rs) ∧ Below w.heap.size w w' := by
  obtain ⟨i0, hi, hz0, hz1, hz2⟩ := info_parts info3
  have HQ : Hid (MS w tag base o M n pos used bs (cntL rs n) q) := h
  clear h
  go_enter Try.func63, Try.ntmps63
  go_wp2
  go_loopg [3, 4, 5] n (fun gk v mv iv wr => ∃ k : Nat, k + gk = n ∧ iv = .int .i64 k ∧ mv = .int .i64 (mostI rs k) ∧ OwnI wr w.heap.size v (outI rs k) ∧ Below w.heap.size w wr)
  case atStart => exact ⟨0, by omega, rfl, rfl, World.ownsRow_nil _ _ _ _, Below.refl _ _⟩
  case round =>
    obtain ⟨k, hk, rfl, rfl, hO, hB⟩ := hrel
    have h4 := cell_later hB HQ.out.t4
    obtain ⟨av, cv, rfl⟩ := win_shape (win_of_owns hO)
    have hmb := (most_bounds rs k).2.2
    have hln := outI_len rs k
    by_cases hlt : k < n
    case neg =>
      have hge : ¬ (k : Int) < (n : Int) := by omega
      have hke : k = n := by omega
      subst hke
      have HS : Hid ((outI rs k).take (mostI rs k) = segL rs) := seg_all rs k hr
      obtain ⟨G, cp, e⟩ := Go.Joins.ownsRow_form hO (by rw [hln]; omega)
      injection e with e1 _ e2
      subst e1; subst e2
      have hW := own_take (m := mostI rs k) hO rfl (by rw [hln]; exact hmb)
      rw [HS.out] at hW
      have hc1 : (mostI rs k : Int) ≤ (cv : Int) := by
        obtain ⟨B', O', c', e', h1, _⟩ := OwnI.win hO |>.read (by rw [hln]; omega)
        injection e' with _ _ e3
        subst e3
        omega
      have hcm : cv ≤ maxLen := by
        obtain ⟨B', O', c', e', _, h2, _⟩ := OwnI.win hO |>.read (by rw [hln]; omega)
        injection e' with _ _ e3
        subst e3
        exact h2
      unfold maxLen at hcm
      have hm0 : (mostI rs k : Int) ≤ 4096 := by omega
      clear hO HS
      generalize mostI rs k = m at *
      go_wp2
      go_ret
      exact ⟨_, rfl, hW, hB⟩
    have hltI : (k : Int) < (n : Int) := by omega
    by_cases h16 : k % 16 = 0
    · have h16I : (k : Int) % 16 = 0 := by omega
      have hO0 : (wr.alloc (.cells #[.int .i64 0] 3)).ownsRow w.heap.size 3 1 _ (outI rs k).length ((outI rs k).map (Value.int .i64)) := World.ownsRow.alloc hO _
      obtain ⟨v', W1, hrun, ho, hg, _⟩ := run_append_own (P := Try.prog) (wr.alloc (.cells #[.int .i64 0] 3)) w.heap.size 87 87 3 i0 (.int .i64 0) 1 8 Try.underlying87 hi hz0 hz1 hz2 rfl (by decide) _ _ _ hO0 ⟨wr.heap.size, 0, none⟩ 1 1 [.int .i64 0] rfl (news_new wr #[.int .i64 0] 3) (by intro u hu; simp at hu; subst hu; rfl) (by rw [hln]; unfold maxLen; omega) (by rw [hln]; omega) (by have := hB.size; simp; omega)
      have hPe : outP rs k = outI rs k ++ [0] := if_pos h16
      have hO1 : Hid (OwnI W1 w.heap.size v' (outP rs k)) := by
        show OwnI _ _ _ _
        unfold OwnI
        rw [hPe, List.length_append, List.map_append]
        exact ho
      have hB1 : Hid (Below w.heap.size w W1) := (hB.alloc hB.size _).grown hg (by have := hB.size; simp; omega) (fun i hi => (hO.lt i hi).1)
      obtain ⟨av1, cv1, rfl⟩ := win_shape (win_of_owns hO1.out)
      clear ho hg hO0 hO hB hPe
      go_wp2_with (at_builtin; refine wpl_append_run rfl _ _ 87 rfl _ _ rfl rfl hrun ?_)
      obtain ⟨G, cp, e⟩ := Go.Joins.ownsRow_form hO1.out (by rw [outP_len]; omega)
      injection e with e1 _ e2
      subst e1; subst e2
      have hO2 : W1.ownsRow w.heap.size 3 1 (.slice (some ⟨G, 0, none⟩) (outP rs k).length cv1) (outP rs k).length ((outP rs k).map (Value.int .i64)) := hO1.out
      have hGlt : w.heap.size ≤ G := (hO2.lt G rfl).1
      have hca := OwnI.cell hO1.out rfl (k / 16) (by rw [outP_len]; omega)
      have hfz := hO2.frozenAt (k / 16)
      have t4 := cell_later hB1.out HQ.out.t4
      have ic := cell_later hB1.out (HQ.out.i k hlt)
      rw [cntL_cnt rs n k hlt] at ic
      have hTlt := HQ.out.bT.lt
      have hIlt := HQ.out.rI.lt
      have HR : Hid (OwnI (W1.setCell ⟨G, k / 16, none⟩ (.int .i64 ((outP rs k).getD (k / 16) 0 + (cntN rs k : Int)))) w.heap.size (.slice (some ⟨G, 0, none⟩) (k / 16 + 1) cv1) (outI rs (k + 1))) := by
        have := (hO2.stored (k / 16) (.int .i64 ((outP rs k).getD (k / 16) 0 + (cntN rs k : Int)))).1
        show OwnI _ _ _ _
        unfold OwnI
        rw [← outI_step, List.length_set, List.map_set, outP_len]
        rw [outP_len] at this
        exact this
      have HB2 : Hid (Below w.heap.size w (W1.setCell ⟨G, k / 16, none⟩ (.int .i64 ((outP rs k).getD (k / 16) 0 + (cntN rs k : Int))))) := hB1.out.setCell hGlt _
      have u4 : (W1.setCell ⟨G, k / 16, none⟩ (.int .i64 ((outP rs k).getD (k / 16) 0 + (cntN rs k : Int)))).cell? ⟨q.T, 4, none⟩ = some (.slice (some ⟨q.I, 0, none⟩) n n) := by
        rw [World.cell?_setCell_far _ _ _ _ (by show G ≠ q.T; omega)]; exact t4
      have uc : (W1.setCell ⟨G, k / 16, none⟩ (.int .i64 ((outP rs k).getD (k / 16) 0 + (cntN rs k : Int)))).cell? ⟨q.I, k, none⟩ = some (.int .i64 (cntN rs k)) := by
        rw [World.cell?_setCell_far _ _ _ _ (by show G ≠ q.I; omega)]; exact ic
      have hx1 := outP_get rs k (k / 16) (by omega)
      have hx2 := segCi_le rs k (k / 16)
      have hx3 := cnt_le rs k
      have hx4 : 0 ≤ (outP rs k).getD (k / 16) 0 ∧ (outP rs k).getD (k / 16) 0 ≤ 900000 := by rw [hx1]; omega
      have hx5 : 0 ≤ (cntN rs k : Int) ∧ (cntN rs k : Int) ≤ 900000 := by omega
      have HM : Hid (∀ b : Bool, decide (0 < (cntN rs k : Int)) = b → mostI rs (k + 1) = if b then k / 16 + 1 else mostI rs k) := by
        intro b hb
        subst hb
        simp only [mostI]
        by_cases h0 : 0 < cntN rs k
        · rw [if_pos h0, if_pos (by simpa using h0)]
        · rw [if_neg h0, if_neg (by simpa using h0)]
      have hcpm : cv1 ≤ maxLen ∧ k / 16 + 1 ≤ cv1 := by
        obtain ⟨B', O', c', e', h1, h2, _⟩ := OwnI.win hO1.out |>.read (by rw [outP_len]; omega)
        injection e' with _ _ e3
        subst e3
        rw [outP_len] at h1
        exact ⟨h2, h1⟩
      unfold maxLen at hcpm
      have hk16 : k / 16 ≤ 4096 := by omega
      rw [outP_len]
      generalize (outP rs k).getD (k / 16) 0 = A at *
      generalize (cntN rs k : Int) = C at *
      generalize hmm : k / 16 = m at *
      obtain ⟨hcp1, hcp2⟩ := hcpm
      obtain ⟨hx6, hx7⟩ := hx4
      obtain ⟨hx8, hx9⟩ := hx5
      have HO1 : True := trivial
      clear hO1 hO2 hB1 hx1 hx2 hx3 hmb hln hmm
      go_wp2_with fail
      go_region
      all_goals
        by_cases hC : 0 < C
        · have hmo := HM.out true (by simpa using hC)
          rw [if_pos rfl] at hmo
          go_wp2
          go_roundg (n - (k + 1))
          case rel => exact ⟨k + 1, by omega, by go_num, by rw [hmo]; go_num, HR.out, HB2.out.drew⟩
          case measure => omega
        · have hmo := HM.out false (by simpa using hC)
          rw [if_neg (by simp)] at hmo
          have hC' : ¬ (0 : Int) < C := hC
          go_wp2
          go_roundg (n - (k + 1))
          case rel => exact ⟨k + 1, by omega, by go_num, by rw [hmo], HR.out, HB2.out.drew⟩
          case measure => omega
    · have h16I : ¬ (k : Int) % 16 = 0 := by omega
      have hPe : outP rs k = outI rs k := if_neg h16
      obtain ⟨W1, hW1⟩ : ∃ W1, W1 = wr := ⟨_, rfl⟩
      rw [← hW1] at hO hB ⊢
      clear hW1 h4
      have hO1 : Hid (OwnI W1 w.heap.size (.slice av (outP rs k).length cv) (outP rs k)) := by show OwnI _ _ _ _; rw [hPe]; exact hO
      have hB1 : Hid (Below w.heap.size w W1) := hB
      rw [← hPe]
      obtain ⟨cv1, hcv⟩ : ∃ cv1, cv1 = cv := ⟨_, rfl⟩
      rw [← hcv] at hO1 ⊢
      clear hO hB hPe hcv
      obtain ⟨G, cp, e⟩ := Go.Joins.ownsRow_form hO1.out (by rw [outP_len]; omega)
      injection e with e1 _ e2
      subst e1; subst e2
      have hO2 : W1.ownsRow w.heap.size 3 1 (.slice (some ⟨G, 0, none⟩) (outP rs k).length cv1) (outP rs k).length ((outP rs k).map (Value.int .i64)) := hO1.out
      have hGlt : w.heap.size ≤ G := (hO2.lt G rfl).1
      have hca := OwnI.cell hO1.out rfl (k / 16) (by rw [outP_len]; omega)
      have hfz := hO2.frozenAt (k / 16)
      have t4 := cell_later hB1.out HQ.out.t4
      have ic := cell_later hB1.out (HQ.out.i k hlt)
      rw [cntL_cnt rs n k hlt] at ic
      have hTlt := HQ.out.bT.lt
      have hIlt := HQ.out.rI.lt
      have HR : Hid (OwnI (W1.setCell ⟨G, k / 16, none⟩ (.int .i64 ((outP rs k).getD (k / 16) 0 + (cntN rs k : Int)))) w.heap.size (.slice (some ⟨G, 0, none⟩) (k / 16 + 1) cv1) (outI rs (k + 1))) := by
        have := (hO2.stored (k / 16) (.int .i64 ((outP rs k).getD (k / 16) 0 + (cntN rs k : Int)))).1
        show OwnI _ _ _ _
        unfold OwnI
        rw [← outI_step, List.length_set, List.map_set, outP_len]
        rw [outP_len] at this
        exact this
      have HB2 : Hid (Below w.heap.size w (W1.setCell ⟨G, k / 16, none⟩ (.int .i64 ((outP rs k).getD (k / 16) 0 + (cntN rs k : Int))))) := hB1.out.setCell hGlt _
      have u4 : (W1.setCell ⟨G, k / 16, none⟩ (.int .i64 ((outP rs k).getD (k / 16) 0 + (cntN rs k : Int)))).cell? ⟨q.T, 4, none⟩ = some (.slice (some ⟨q.I, 0, none⟩) n n) := by
        rw [World.cell?_setCell_far _ _ _ _ (by show G ≠ q.T; omega)]; exact t4
      have uc : (W1.setCell ⟨G, k / 16, none⟩ (.int .i64 ((outP rs k).getD (k / 16) 0 + (cntN rs k : Int)))).cell? ⟨q.I, k, none⟩ = some (.int .i64 (cntN rs k)) := by
        rw [World.cell?_setCell_far _ _ _ _ (by show G ≠ q.I; omega)]; exact ic
      have hx1 := outP_get rs k (k / 16) (by omega)
      have hx2 := segCi_le rs k (k / 16)
      have hx3 := cnt_le rs k
      have hx4 : 0 ≤ (outP rs k).getD (k / 16) 0 ∧ (outP rs k).getD (k / 16) 0 ≤ 900000 := by rw [hx1]; omega
      have hx5 : 0 ≤ (cntN rs k : Int) ∧ (cntN rs k : Int) ≤ 900000 := by omega
      have HM : Hid (∀ b : Bool, decide (0 < (cntN rs k : Int)) = b → mostI rs (k + 1) = if b then k / 16 + 1 else mostI rs k) := by
        intro b hb
        subst hb
        simp only [mostI]
        by_cases h0 : 0 < cntN rs k
        · rw [if_pos h0, if_pos (by simpa using h0)]
        · rw [if_neg h0, if_neg (by simpa using h0)]
      have hcpm : cv1 ≤ maxLen ∧ k / 16 + 1 ≤ cv1 := by
        obtain ⟨B', O', c', e', h1, h2, _⟩ := OwnI.win hO1.out |>.read (by rw [outP_len]; omega)
        injection e' with _ _ e3
        subst e3
        rw [outP_len] at h1
        exact ⟨h2, h1⟩
      unfold maxLen at hcpm
      have hk16 : k / 16 ≤ 4096 := by omega
      rw [outP_len]
      generalize (outP rs k).getD (k / 16) 0 = A at *
      generalize (cntN rs k : Int) = C at *
      generalize hmm : k / 16 = m at *
      obtain ⟨hcp1, hcp2⟩ := hcpm
      obtain ⟨hx6, hx7⟩ := hx4
      obtain ⟨hx8, hx9⟩ := hx5
      have HO1 : True := trivial
      clear hO1 hO2 hB1 hx1 hx2 hx3 hmb hln hmm
      go_wp2_with fail
      go_region
      all_goals
        by_cases hC : 0 < C
        · have hmo := HM.out true (by simpa using hC)
          rw [if_pos rfl] at hmo
          go_wp2
          go_roundg (n - (k + 1))
          case rel => exact ⟨k + 1, by omega, by go_num, by rw [hmo]; go_num, HR.out, HB2.out.drew⟩
          case measure => omega
        · have hmo := HM.out false (by simpa using hC)
          rw [if_neg (by simp)] at hmo
          have hC' : ¬ (0 : Int) < C := hC
          go_wp2
          go_roundg (n - (k + 1))
          case rel => exact ⟨k + 1, by omega, by go_num, by rw [hmo], HR.out, HB2.out.drew⟩
          case measure => omega

end Go.Proofs.Ytlgkndebhafliaa
