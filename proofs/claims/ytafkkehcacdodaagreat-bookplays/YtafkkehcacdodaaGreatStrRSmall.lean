/- The document's strand: blank, next, Sync. -/
import Derived.Test.YtafkkehcacdodaaGreatStrRState
import Derived.Test.YtafkkehcacdodaaGreatSecRef4
set_option maxRecDepth 100000
namespace Go.Proofs.YtafkkehcacdodaaGreat
open Go.RowKit
attribute [local go_sem ↓] Go.wp_at_zero Go.wp_at_succ

set_option maxHeartbeats 1000000 in
theorem rblank_ok (w : World) (v : Value) (l : List Int) (h : Bts w v l) :
    Calls Tryz.prog 74 #[v] w fun e w' => e = .returned (.bool (allz l)) ∧ w' = w := by
  obtain ⟨a, cap, b, off, rfl, hl, hm, hbb, ha, hs⟩ := h
  unfold maxLen at hm
  go_enter Tryz.func74, Tryz.ntmps74
  go_wp2
  go_loopg [3] l.length (fun gk i wr => ∃ k : Nat, k + gk = l.length ∧ i = .int .i64 k ∧ allz (l.take k) = true ∧ w = wr)
  case atStart => exact ⟨0, by omega, rfl, by simp [allz], rfl⟩
  case round =>
    obtain ⟨k, hk, rfl, hz, rfl⟩ := hrel
    by_cases hlt : k < l.length
    case neg =>
      have hge : ¬ (k : Int) < (l.length : Int) := by omega
      have HZ : Hid (allz l = true) := by
        rw [List.take_of_length_le (by omega)] at hz
        exact hz
      clear hz
      go_wp2
      go_ret
      exact ⟨ret_bool HZ.out.symm, rfl⟩
    have hltI : (k : Int) < (l.length : Int) := by omega
    rcases ha with rfl | hnil
    case inr => rw [hnil] at hlt; simp at hlt
    have hc := hs k hlt
    by_cases h0 : l.getD k 0 = 0
    · have HT : Hid (allz (l.take (k + 1)) = true) := by
        show _ = _
        rw [allz_take hlt hz, h0]; rfl
      rw [h0] at hc
      clear hz
      go_wp2
      go_roundg (l.length - (k + 1))
      case rel => exact ⟨k + 1, by omega, by go_num, HT.out, rfl⟩
      case measure => omega
    · have HZ : Hid (allz l = false) := allz_no hlt h0
      have h0' : (l.getD k 0 != 0) = true := by simpa using h0
      generalize l.getD k 0 = c at *
      clear hz
      go_wp2
      go_ret
      exact ⟨ret_bool HZ.out.symm, rfl⟩

set_option maxHeartbeats 1000000 in
theorem rnext_ok (w : World) (tag : Nat → Nat) (base o M n pos used : Nat) (bs : List (List Int)) (cs : List Int) (q : TL) (h : MS w tag base o M n pos used bs cs q) (hp : pos ≤ 1000000) :
    Calls Tryz.prog 82 #[.pointer (some ⟨q.T, 0, none⟩)] w fun e w' => e = .returned (.tuple #[]) ∧ MS w' tag base o M n (pos + 1) 0 bs cs q ∧ Step tag tag base o w w' := by
  have h1 := h.t1
  have f1 := h.fT 1
  have f2 := h.fT 2
  have h2 := h.t2
  obtain ⟨g1, g2⟩ := h.at (pos + 1)
  obtain ⟨g3, g4⟩ := g1.byte 0
  have HG : Hid (MS ((w.setCell ⟨q.T, 1, none⟩ (.int .i64 ((pos + 1 : Nat) : Int))).setCell ⟨q.T, 2, none⟩ (.int .i64 ((0 : Nat) : Int))) tag base o M n (pos + 1) 0 bs cs q ∧ Step tag tag base o w ((w.setCell ⟨q.T, 1, none⟩ (.int .i64 ((pos + 1 : Nat) : Int))).setCell ⟨q.T, 2, none⟩ (.int .i64 ((0 : Nat) : Int)))) := ⟨g3, g2.trans g4⟩
  clear h g1 g2 g3 g4
  go_enter Tryz.func82, Tryz.ntmps82
  go_wp2
  refine bodyPost_end (results_none rfl _ _ _) rfl ?_
  exact ⟨rfl, HG.out⟩

set_option maxHeartbeats 1000000 in
theorem rsync8_ok (w : World) (tag : Nat → Nat) (base o o' : Nat) (ho : o ≠ o') (s : St) (p : ML) (h : MD w tag base o s p) (t : Sd) (q : TL) (hq : MSt w tag base o' p.M s.n t q) (hp : t.pos ≤ 1000000)
    (hops : s.ops ≤ 1000000) (hout : s.outs.length ≤ 1000000) :
    Calls Tryz.prog 40 #[.pointer (some ⟨q.T, 0, none⟩)] w fun e w' => e = .returned (.int .i64 (errC s.out)) ∧ ∃ p', p'.M = p.M ∧ MD w' tag base o s.sync p' ∧ MSt w' tag base o' p.M s.n (synT s t) q ∧ Step2 tag tag base o o' w w' := by
  have h0 := hq.t0
  have HS := rsync_ok w tag base o s p h hops hout
  have HQ : Hid (MSt w tag base o' p.M s.n t q) := hq
  clear hq h
  rcases err_cases s.out with hE | hE
  · have HT : Hid (synT s t = t) := by show _ = _; unfold synT; rw [hE]; simp
    rw [hE] at HS ⊢
    clear hE
    go_enter Tryz.func40, Tryz.ntmps40
    go_wp2_with fail
    refine HS.mono ?_
    rintro e w1 ⟨rfl, p1, hM, hP, hS⟩
    have hq1 := HQ.out.other hS (fun e => ho e.symm)
    have g2 := hq1.t2
    have HR : Hid (MD w1 tag base o s.sync p1 ∧ MSt w1 tag base o' p.M s.n t q ∧ Step tag tag base o w w1) := ⟨hP, hq1, hS⟩
    clear hP hS hq1 HS
    go_wp2
    go_ret
    exact ⟨rfl, p1, hM, HR.out.1, by rw [HT.out]; exact HR.out.2.1, HR.out.2.2.two1 o'⟩
  · rw [hE] at HS ⊢
    by_cases hu : 0 < t.used
    · have HT : Hid (synT s t = t.leave) := by show _ = _; unfold synT; rw [hE]; simp [hu]
      have huI : ¬ (t.used : Int) = 0 := by omega
      clear hE
      go_enter Tryz.func40, Tryz.ntmps40
      go_wp2_with fail
      refine HS.mono ?_
      rintro e w1 ⟨rfl, p1, hM, hP, hS⟩
      have hq1 := HQ.out.other hS (fun e => ho e.symm)
      have g2 := hq1.t2
      have HN := rnext_ok w1 tag base o' p.M s.n t.pos t.used (bodies t) (cntL t.recs s.n) q hq1 hp
      have HR : Hid (MD w1 tag base o s.sync p1 ∧ Step tag tag base o w w1) := ⟨hP, hS⟩
      have huI2 : ((t.used : Int) != 0) = true := by simpa using huI
      clear hP hS hq1 HS
      go_wp2_with fail
      refine HN.mono ?_
      rintro e w2 ⟨rfl, hq2, hS2⟩
      have HR2 : Hid (MSt w2 tag base o' p.M s.n t.leave q ∧ Step tag tag base o' w1 w2) := ⟨hq2, hS2⟩
      clear HN hq2 hS2
      go_wp2
      go_ret
      exact ⟨rfl, p1, hM, HR.out.1.other HR2.out.2 ho, by rw [HT.out]; exact HR2.out.1, (HR.out.2.two1 o').trans (HR2.out.2.two2 o)⟩
    · have hu0 : t.used = 0 := by omega
      have HT : Hid (synT s t = t) := by show _ = _; unfold synT; rw [hu0]; simp
      clear hE
      go_enter Tryz.func40, Tryz.ntmps40
      go_wp2_with fail
      refine HS.mono ?_
      rintro e w1 ⟨rfl, p1, hM, hP, hS⟩
      have hq1 := HQ.out.other hS (fun e => ho e.symm)
      have g2 := hq1.t2
      rw [hu0] at g2
      have HR : Hid (MD w1 tag base o s.sync p1 ∧ MSt w1 tag base o' p.M s.n t q ∧ Step tag tag base o w w1) := ⟨hP, hq1, hS⟩
      clear hP hS hq1 HS
      go_wp2
      go_ret
      exact ⟨rfl, p1, hM, HR.out.1, by rw [HT.out]; exact HR.out.2.1, HR.out.2.2.two1 o'⟩

end Go.Proofs.YtafkkehcacdodaaGreat
