/- looks: the two disks tell the same. -/
import Derived.Test.YtlmmhgbpknnecaaSecRef7
set_option maxRecDepth 100000
namespace Go.Proofs.Ytlmmhgbpknnecaa
open Go.RowKit
attribute [local go_sem ↓] Go.wp_at_zero Go.wp_at_succ

theorem rread_okI (w : World) (tag : Nat → Nat) (base o : Nat) (s : St) (p : ML) (h : MD w tag base o s p) (K : Int) (k : Nat) (hK : K = k) (hk : k < s.n) (M : Nat) (hM : p.M = M) :
    Calls Try.prog 40 #[.pointer (some ⟨M, 0, none⟩), .int .i64 K] w fun e w' => ∃ v, e = .returned (.tuple #[v, .int .i64 0]) ∧ Bts w' v (sec s.now k) ∧ Below w.heap.size w w' := by
  subst hK; subst hM
  refine (rread_ok w tag base o s p h k hk).mono ?_
  rintro e w' ⟨v, rfl, hO, hB⟩
  exact ⟨v, rfl, hO.bts (sec_bytes h.ok.nb k), hB⟩

set_option maxHeartbeats 8000000 in
theorem looks_ok (w : World) (tag tag2 : Nat → Nat) (base o o2 : Nat) (s : St) (p : PL) (q : ML) (h : PD w tag base o s p) (h2 : MD w tag2 base o2 s q) :
    Calls Try.prog 26 #[.pointer (some ⟨p.D, 0, none⟩), .pointer (some ⟨q.M, 0, none⟩)] w fun e w' => e = .returned (.bool true) ∧ Below w.heap.size w w' := by
  have m0 := h2.m0
  have m3 := h2.m3
  have m5 := h2.m5
  obtain ⟨sa, sc, hsf, _, hscm⟩ := h2.sform
  rw [hsf] at m3
  unfold maxLen at hscm
  have hn2 : s.n ≤ 4096 := h.ok.n2
  have HS : ∀ n, Calls Try.prog 39 #[.pointer (some ⟨p.D, 0, none⟩)] (w.drewN n) fun e w' => e = .returned (.int .i64 s.n) ∧ w' = w.drewN n := fun n => size_ok (w.drewN n) tag base o s p (h.later (below_drewN w n))
  have HD : ∀ n, Calls Try.prog 27 #[.pointer (some ⟨p.D, 0, none⟩)] (w.drewN n) fun e w' => e = .returned (.int .i64 s.since.length) ∧ w' = w.drewN n := fun n => dirty_ok (w.drewN n) tag base o s p (h.later (below_drewN w n))
  have HO : ∀ n, Calls Try.prog 28 #[.pointer (some ⟨p.D, 0, none⟩)] (w.drewN n) fun e w' => e = .returned (.int .i64 s.ops) ∧ w' = w.drewN n := fun n => ops_ok (w.drewN n) tag base o s p (h.later (below_drewN w n))
  have HP : Hid (PD w tag base o s p) := h
  have HM : Hid (MD w tag2 base o2 s q) := h2
  clear h h2 hsf
  go_enter Try.func26, Try.ntmps26
  go_wp2_with fail
  go_quiet (first
    | (go_at_call 39; refine Calls.quiet_of_same (HS _))
    | (go_at_call 27; refine Calls.quiet_of_same (HD _))
    | (go_at_call 28; refine Calls.quiet_of_same (HO _)))
  rename_i nq
  have hPd : PD (w.drewN nq) tag base o s p := HP.out.later (below_drewN w nq)
  have hMd : MD (w.drewN nq) tag2 base o2 s q := HM.out.later (below_drewN w nq)
  have hBd : Below w.heap.size w (w.drewN nq) := below_drewN w nq
  generalize w.drewN nq = w1 at *
  clear HS HD HO m0 m3 m5 HP HM
  go_wp2_with fail
  go_loopg [5] (s.n + 2) (fun gk i wr => ∃ (j : Nat), j + gk = s.n + 2 ∧ i = .int .i64 ((j : Int) - 1) ∧ PD wr tag base o s p ∧ MD wr tag2 base o2 s q ∧ Below w.heap.size w wr)
  case atStart => exact ⟨0, by omega, rfl, hPd, hMd, hBd⟩
  case round =>
    clear hPd hMd hBd
    obtain ⟨j, hj, rfl, hPd, hMd, hBd⟩ := hrel
    have m0 := hMd.m0
    by_cases hlt : (j : Int) - 1 ≤ (s.n : Int)
    · by_cases hin : 1 ≤ j ∧ j - 1 < s.n
      · have HR1 := read_okI wr tag base o s p hPd ((j : Int) - 1) (j - 1) (by omega) hin.2 _ rfl
        have HP : Hid (PD wr tag base o s p) := hPd
        have HM : Hid (MD wr tag2 base o2 s q) := hMd
        clear hPd hMd
        go_wp2_with fail
        refine HR1.mono ?_
        rintro e w2 ⟨u, rfl, hU, _, hB2⟩
        have HR2 := rread_okI w2 tag2 base o2 s q (HM.out.later hB2) ((j : Int) - 1) (j - 1) (by omega) hin.2 _ rfl
        clear HR1
        go_wp2_with fail
        refine HR2.mono ?_
        rintro e w3 ⟨u2, rfl, hU2, hB3⟩
        have HS := same_one w3 u u2 _ _ (hU.later hB3) hU2
        rw [sameB_self] at HS
        have hP3 := (HP.out.later hB2).later hB3
        have hM3 := (HM.out.later hB2).later hB3
        have hB03 : Below w.heap.size w w3 := (hBd.trans (hB2.mono hBd.size)).trans (hB3.mono (Nat.le_trans hBd.size hB2.size))
        clear HR2 hU hU2 hB2 hB3 hBd HP HM
        go_wp2_with fail
        refine HS.mono ?_
        rintro e w4 ⟨rfl, nq, rfl⟩
        go_wp2_with fail
        go_roundg (s.n + 2 - (j + 1))
        case measure => omega
        case rel => exact ⟨j + 1, by omega, by congr 1; omega, hP3.later (below_drewN _ _), hM3.later (below_drewN _ _), hB03.trans ((below_drewN _ _).mono hB03.size)⟩
      · have hno : hasB s.n ((j : Int) - 1) = false := by unfold hasB; simp; omega
        have HR1 := read_no wr tag base o s p hPd _ hno
        have HR2 := rread_no wr tag2 base o2 s q hMd _ hno
        have HS := same_one wr (.slice none 0 0) (.slice none 0 0) [] [] (bts_nil _) (bts_nil _)
        rw [sameB_self] at HS
        go_wp2_with fail
        refine HR1.mono ?_
        rintro e w2 ⟨rfl, rfl⟩
        go_wp2_with fail
        refine HR2.mono ?_
        rintro e w3 ⟨rfl, rfl⟩
        go_wp2_with fail
        refine HS.mono ?_
        rintro e w4 ⟨rfl, nq, rfl⟩
        go_wp2_with fail
        go_roundg (s.n + 2 - (j + 1))
        case measure => omega
        case rel => exact ⟨j + 1, by omega, by congr 1; omega, hPd.later (below_drewN _ _), hMd.later (below_drewN _ _), hBd.trans ((below_drewN _ _).mono hBd.size)⟩
    · clear hPd hMd
      go_wp2_with fail
      go_ret
      exact ⟨rfl, hBd⟩

end Go.Proofs.Ytlmmhgbpknnecaa
