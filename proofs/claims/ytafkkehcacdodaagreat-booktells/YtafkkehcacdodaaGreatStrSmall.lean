/- The strand's small functions: made, leave, Place, with, Sync. -/
import Derived.Test.YtafkkehcacdodaaGreatStrState
import Derived.Deep.RegionHeld3
set_option maxRecDepth 100000
namespace Go.Proofs.YtafkkehcacdodaaGreat
open Go.RowKit

set_option maxHeartbeats 400000 in
theorem smade_ok (w : World) (tag : Nat → Nat) (base o D : Nat) (t : Sd) (q : SL) (h : PO w tag base o D t q) :
    Calls Tryz.prog 71 #[.pointer (some ⟨q.S, 0, none⟩)] w fun e w' => e = .returned (.bool true) ∧ w' = w := by
  have h1 := h.s0
  clear h
  go_enter Tryz.func71, Tryz.ntmps71
  go_wp2
  go_ret
  exact ⟨rfl, rfl⟩

theorem blk_s {w : World} {S : Nat} {a b c d b' c' : Value} (h : Blk w S [a, b, c, d]) : Blk ((w.setCell ⟨S, 1, none⟩ b').setCell ⟨S, 2, none⟩ c') S [a, b', c', d] := by
  have := (h.set 1 b').set 2 c'
  simpa using this

set_option maxHeartbeats 400000 in
theorem leave_ok (w : World) (tag : Nat → Nat) (base o D : Nat) (t : Sd) (q : SL) (h : PO w tag base o D t q) (hp : t.pos ≤ 1000000) :
    Calls Tryz.prog 109 #[.pointer (some ⟨q.S, 0, none⟩)] w fun e w' => e = .returned (.tuple #[]) ∧ PO w' tag base o D t.leave q ∧ Step tag tag base o w w' := by
  have h1 := h.s1
  have f1 := h.fS 1
  have f2 := h.fS 2
  have h2 := h.s2
  have HP : Hid (PO w tag base o D t q) := h
  clear h
  go_enter Tryz.func109, Tryz.ntmps109
  go_wp2
  refine bodyPost_end (results_none rfl _ _ _) rfl ?_
  have hb := blk_s (b' := .int .i64 ((t.pos + 1 : Nat) : Int)) (c' := .int .i64 ((0 : Nat) : Int)) HP.out.bS
  refine ⟨rfl, HP.out.placed _ t.leave hb rfl (fun k _ hk => by rw [heap_setCell_other _ _ k _ hk, heap_setCell_other _ _ k _ hk]) (by simp [World.setCell]), ?_⟩
  exact (step_set tag base o w HP.out.tS.2 (by have := HP.out.tS.1; omega) 1 _).set HP.out.tS.2 (by have := HP.out.tS.1; omega) 2 _

set_option maxHeartbeats 1000000 in
theorem ssync_ok (w : World) (tag : Nat → Nat) (base o o' : Nat) (ho : o ≠ o') (s : St) (p : PL) (h : PD w tag base o s p) (t : Sd) (q : SL) (hq : PO w tag base o' p.D t q) (hbase : base ≤ w.heap.size) (hp : t.pos ≤ 1000000)
    (hops : s.ops ≤ 1000000) (hout : s.outs.length ≤ 1000000) (hsin : s.since.length ≤ 1000000) :
    Calls Tryz.prog 90 #[.pointer (some ⟨q.S, 0, none⟩)] w fun e w' => e = .returned (.int .i64 (errC s.out)) ∧ ∃ p' tag', p'.D = p.D ∧ PD w' tag' base o s.sync p' ∧ PO w' tag' base o' p.D (synT s t) q ∧ Step2 tag tag' base o o' w w' := by
  have h0 := hq.s0
  have HM := smade_ok w tag base o' p.D t q hq
  have HS := sync_ok w tag base o s p h hbase hops hout hsin
  have HQ : Hid (PO w tag base o' p.D t q) := hq
  clear hq h
  rcases err_cases s.out with hE | hE
  · have HT : Hid (synT s t = t) := by show _ = _; unfold synT; rw [hE]; simp
    rw [hE] at HS ⊢
    clear hE
    go_enter Tryz.func90, Tryz.ntmps90
    go_wp2_with (first
      | (go_at_call 71; refine HM.mono ?_; rintro e w' ⟨rfl, hx⟩; have HX1 : Hid (w' = w) := hx; clear hx; rw [HX1.out])
      | (go_at_call 112; refine HS.mono ?_; rintro e w1 ⟨rfl, p1, hD, hP, hS⟩; have hq1 := HQ.out.other hS (fun e => ho e.symm); have g2 := hq1.s2; have HP1 : Hid (PD w1 tag base o s.sync p1) := hP; have HS1 : Hid (Step tag tag base o w w1) := hS; have HQ1 : Hid (PO w1 tag base o' p.D t q) := hq1; clear hP hS hq1))
    go_ret
    exact ⟨rfl, p1, tag, hD, HP1.out, by rw [HT.out]; exact HQ1.out, HS1.out.two1 o'⟩
  · rw [hE] at HS ⊢
    by_cases hu : 0 < t.used
    · have HT : Hid (synT s t = t.leave) := by show _ = _; unfold synT; rw [hE]; simp [hu]
      have huI : (0 : Int) < t.used := by omega
      clear hE
      go_enter Tryz.func90, Tryz.ntmps90
      go_wp2_with (first
        | (go_at_call 71; refine HM.mono ?_; rintro e w' ⟨rfl, hx⟩; have HX1 : Hid (w' = w) := hx; clear hx; rw [HX1.out])
        | (go_at_call 112; refine HS.mono ?_; rintro e w1 ⟨rfl, p1, hD, hP, hS⟩; have hq1 := HQ.out.other hS (fun e => ho e.symm); have g2 := hq1.s2; have HP1 : Hid (PD w1 tag base o s.sync p1) := hP; have HS1 : Hid (Step tag tag base o w w1) := hS; have HLv := leave_ok w1 tag base o' p.D t q hq1 hp; clear hP hS hq1)
        | (go_at_call 109; refine HLv.mono ?_; rintro e w2 ⟨rfl, hq2, hS2⟩))
      go_ret
      exact ⟨rfl, p1, tag, hD, HP1.out.other hS2 ho, by rw [HT.out]; exact hq2, (HS1.out.two1 o').trans (hS2.two2 o)⟩
    · have hu0 : t.used = 0 := by omega
      have HT : Hid (synT s t = t) := by show _ = _; unfold synT; rw [hu0]; simp
      have huI : ¬ (0 : Int) < t.used := by omega
      clear hE
      go_enter Tryz.func90, Tryz.ntmps90
      go_wp2_with (first
        | (go_at_call 71; refine HM.mono ?_; rintro e w' ⟨rfl, hx⟩; have HX1 : Hid (w' = w) := hx; clear hx; rw [HX1.out])
        | (go_at_call 112; refine HS.mono ?_; rintro e w1 ⟨rfl, p1, hD, hP, hS⟩; have hq1 := HQ.out.other hS (fun e => ho e.symm); have g2 := hq1.s2; have HP1 : Hid (PD w1 tag base o s.sync p1) := hP; have HS1 : Hid (Step tag tag base o w w1) := hS; have HQ1 : Hid (PO w1 tag base o' p.D t q) := hq1; clear hP hS hq1))
      go_ret
      exact ⟨rfl, p1, tag, hD, HP1.out, by rw [HT.out]; exact HQ1.out, HS1.out.two1 o'⟩

end Go.Proofs.YtafkkehcacdodaaGreat
