/- An outcome taken; what a crash leaves of a Write; outcomes laid. -/
import Derived.Test.YtafkkehcacdodaaGreatSecSmall
import Derived.Test.YtafkkehcacdodaaGreatRowA
set_option maxRecDepth 100000
namespace Go.Proofs.YtafkkehcacdodaaGreat
open Go.RowKit

set_option maxHeartbeats 1000000 in
theorem attempt_ok (w : World) (tag : Nat → Nat) (base o : Nat) (s : St) (p : PL) (h : PD w tag base o s p) (hops : s.ops ≤ 1000000) (hout : s.outs.length ≤ 1000000) :
    Calls Tryz.prog 128 #[.pointer (some ⟨p.D, 0, none⟩)] w fun e w' => e = .returned (.tuple #[.bool (doneB s.out), .int .i64 (errC s.out)]) ∧ ∃ p', p'.D = p.D ∧ PD w' tag base o s.take p' ∧ Step tag tag base o w w' := by
  have h1 := h.d1
  obtain ⟨b0, b1⟩ := St.out_byte h.ok.ob
  have HN := next_ok w tag base o s p h hops hout
  clear h
  by_cases k0 : s.out % 3 = 0
  · have E1 : Hid (doneB s.out = true) := by show doneB _ = true; simp [doneB, k0]
    have E2 : Hid (errC s.out = 0) := by show errC _ = _; simp [errC, k0]
    go_enter Tryz.func128, Tryz.ntmps128
    go_wp2_with (go_at_call 67; refine HN.mono ?_; rintro e w' ⟨rfl, p', hD, hP, hS⟩)
    go_ret2
    exact ⟨by rw [E1.out, E2.out]; rfl, p', hD, hP, hS⟩
  · by_cases k1 : s.out % 3 = 1
    · have E1 : Hid (doneB s.out = false) := by show doneB _ = false; simp [doneB, k1]
      have E2 : Hid (errC s.out = 8) := by show errC _ = _; simp [errC, k1]
      go_enter Tryz.func128, Tryz.ntmps128
      go_wp2_with (go_at_call 67; refine HN.mono ?_; rintro e w' ⟨rfl, p', hD, hP, hS⟩)
      go_ret2
      exact ⟨by rw [E1.out, E2.out]; rfl, p', hD, hP, hS⟩
    · have E1 : Hid (doneB s.out = true) := by show doneB _ = true; simp [doneB, k1]
      have E2 : Hid (errC s.out = 8) := by show errC _ = _; simp [errC, k0]
      go_enter Tryz.func128, Tryz.ntmps128
      go_wp2_with (go_at_call 67; refine HN.mono ?_; rintro e w' ⟨rfl, p', hD, hP, hS⟩)
      go_ret2
      exact ⟨by rw [E1.out, E2.out]; rfl, p', hD, hP, hS⟩

theorem leftN_past (ch : List Int) (i : Nat) (h : ch.length ≤ i) : leftN ch i = 64 := by
  unfold leftN; rw [List.getD_eq_getElem?_getD, List.getElem?_eq_none h]; simp

theorem leftN_of (ch : List Int) (i : Nat) (c : Int) (h : ch.getD i 0 = c) : leftN ch i = if c % 3 = 0 then 64 else if c % 3 = 1 then 0 else min (c / 3).toNat 64 := by
  unfold leftN; rw [h]

set_option maxHeartbeats 1000000 in
theorem left_ok (w : World) (v : Value) (ch : List Int) (i : Nat) (h : Bts w v ch) :
    Calls Tryz.prog 44 #[v, .int .i64 i] w fun e w' => e = .returned (.int .i64 (leftN ch i)) ∧ w' = w := by
  obtain ⟨a, cap, b, off, rfl, hl, hm, hb, ha, hs⟩ := h
  unfold maxLen at hm
  by_cases hlt : i < ch.length
  · have hlt' : (i : Int) < (ch.length : Int) := by omega
    rcases ha with rfl | hnil
    case inr => rw [hnil] at hlt; simp at hlt
    have hc := hs i hlt
    obtain ⟨c0, c1⟩ := getD_byte ch hb i
    have HL : Hid (∀ c, ch.getD i 0 = c → leftN ch i = if c % 3 = 0 then 64 else if c % 3 = 1 then 0 else min (c / 3).toNat 64) := leftN_of ch i
    generalize hC : ch.getD i 0 = c at *
    have HE := HL.out c rfl
    clear HL hC
    have HX : Hid (leftN ch i = if c % 3 = 0 then 64 else if c % 3 = 1 then 0 else min (c / 3).toNat 64) := HE
    clear HE
    by_cases k0 : c % 3 = 0
    · go_enter Tryz.func44, Tryz.ntmps44
      go_wp2
      go_ret
      exact ⟨by rw [HX.out, if_pos k0]; rfl, rfl⟩
    · by_cases k1 : c % 3 = 1
      · go_enter Tryz.func44, Tryz.ntmps44
        go_wp2
        go_ret
        exact ⟨by rw [HX.out, if_neg k0, if_pos k1]; rfl, rfl⟩
      · have hd0 : 0 ≤ c / 3 := by omega
        have hd1 : c / 3 ≤ 85 := by omega
        by_cases k2 : c / 3 ≤ 64
        · go_enter Tryz.func44, Tryz.ntmps44
          go_wp2
          go_ret
          exact ⟨by rw [HX.out, if_neg k0, if_neg k1]; exact ret_int (by omega), rfl⟩
        · go_enter Tryz.func44, Tryz.ntmps44
          go_wp2
          go_ret
          exact ⟨by rw [HX.out, if_neg k0, if_neg k1]; exact ret_int (by omega), rfl⟩
  · have hge : (ch.length : Int) ≤ (i : Int) := by omega
    have HX : Hid (leftN ch i = 64) := leftN_past ch i (by omega)
    clear hs ha
    go_enter Tryz.func44, Tryz.ntmps44
    go_wp2
    go_ret
    exact ⟨by rw [HX.out]; rfl, rfl⟩

theorem bts_src {w : World} {v : Value} {l : List Int} (h : Bts w v l) : ∃ a c, v = .slice a l.length c ∧ l.length ≤ c ∧ c ≤ maxLen ∧ ((∃ ad, a = some ad ∧ ∀ j u, (bytesV l)[j]? = some u → w.cell? (ad.add j) = some u) ∨ l.length = 0) := by
  obtain ⟨a, cap, b, off, rfl, hl, hm, hb, ha, hs⟩ := h
  refine ⟨a, cap, rfl, hl, hm, ?_⟩
  rcases ha with rfl | hnil
  · exact .inl ⟨_, rfl, cells_of_sees hs⟩
  · right; rw [hnil]; rfl

set_option maxHeartbeats 1000000 in
theorem add_ok (w : World) (tag : Nat → Nat) (base o : Nat) (s : St) (p : PL) (h : PD w tag base o s p) (hbase : base ≤ w.heap.size) (v : Value) (l : List Int) (hv : Bts w v l) (hout : s.outs.length + l.length ≤ 1000000) :
    Calls Tryz.prog 42 #[.pointer (some ⟨p.Q, 0, none⟩), v] w fun e w' => e = .returned (.tuple #[]) ∧ ∃ p' tag', p'.D = p.D ∧ PD w' tag' base o (s.add l) p' ∧ Step tag tag' base o w w' := by
  obtain ⟨i0, hi, hz0, hz1, hz2⟩ := info_parts info5
  obtain ⟨a, c, rfl, hl, hm, hsrc⟩ := bts_src hv
  have hlb : isBytes l := by obtain ⟨_, _, _, _, _, _, _, hb, _⟩ := hv; exact hb
  obtain ⟨v', w1, hrun, hwin, hgrow, hat⟩ := win_append (P := Tryz.prog) w 39 39 5 i0 (.int .u8 0) 1 1 Tryz.underlying39 hi hz0 hz1 hz2 rfl (by decide) p.wv s.outs.length (bytesV s.outs) h.wW a l.length c (bytesV l) (by simp) hsrc (ones_bytes l) (by unfold maxLen; omega) (by omega)
  obtain ⟨hst, htv⟩ := step_grown hgrow hat h.tW (show (16 * o + 5) / 16 = o by omega) hbase
  have h0 := h.q0
  have hne : ∀ g, p.wv.ownBlock = some g → p.Q ≠ g := fun g hg e => by have a := h.tQ.1; have b := (h.tW g hg).1; rw [e] at a; omega
  have hblk : w1.heap[p.Q]? = w.heap[p.Q]? := hgrow.block p.Q h.bQ.lt (fun e => hne p.Q e.symm rfl)
  have hq1 : Blk w1 p.Q [p.wv, .int .i64 s.ops] := h.bQ.same hblk
  have c0 : w1.cell? ⟨p.Q, 0, none⟩ = some p.wv := hq1.cell 0
  have f0 : w1.frozen? ⟨p.Q, 0, none⟩ = false := hq1.frozen 0
  obtain ⟨av, cv, hva, _⟩ : ∃ av cv, v' = .slice av (s.outs.length + l.length) cv ∧ True := by
    rcases hwin.2 with ⟨h1, h2⟩ | ⟨g, oo, cap, cs, h1, _⟩
    · exact ⟨none, 0, by rw [h1, h2], trivial⟩
    · exact ⟨_, _, h1, trivial⟩
  have HP : Hid (PD w tag base o s p) := h
  have HF : Hid (∃ p' tag', p'.D = p.D ∧ PD (w1.setCell ⟨p.Q, 0, none⟩ v') tag' base o (s.add l) p' ∧ Step tag tag' base o w (w1.setCell ⟨p.Q, 0, none⟩ v')) := by
    refine ⟨{ p with wv := v' }, retag tag v' (16 * o + 5), rfl, ?_, hst.set h.tQ.2 (by rw [hst.tags _ h.bQ.lt]; have := h.tQ.1; omega) 0 _⟩
    have hk : ∀ k, k < w.heap.size → tag k ≠ 16 * o + 5 → k ≠ p.Q → (w1.setCell ⟨p.Q, 0, none⟩ v').heap[k]? = w.heap[k]? := fun k hk hne' hkq => by
      rw [heap_setCell_other _ _ k _ hkq]
      exact hgrow.block k hk (fun e => hne' (h.tW k e.symm).1)
    have hk' : ∀ {k T : Nat}, k < w.heap.size → tag k = T → T ≠ 16 * o + 5 → T ≠ 16 * o + 2 → (w1.setCell ⟨p.Q, 0, none⟩ v').heap[k]? = w.heap[k]? := fun {k T} hk1 hT h1 h2 => hk k hk1 (by rw [hT]; exact h1) (fun e => h2 (by rw [← hT, e]; exact h.tQ.1))
    refine ⟨h.bD.same (hk' h.bD.lt h.tD.1 (by omega) (by omega)), by simpa [St.add] using hq1.set 0 v', h.rC.same (hk' h.rC.lt h.tC.1 (by omega) (by omega)), h.rL.same (hk' h.rL.lt h.tL.1 (by omega) (by omega)), ?_, h.wU.same (fun g hg => hk' (h.wU.lt g hg) (h.tU g hg).1 (by omega) (by omega)), ?_, ?_, ?_, ?_, htv, ?_, h.ok.add hlb⟩
    · have : Win w1 1 v' (s.add l).outs.length (bytesV (s.add l).outs) := by simpa [St.add] using hwin
      refine this.same (fun g hg => heap_setCell_other _ _ g _ (fun e => ?_))
      subst e
      have := (htv _ hg).1
      rw [hst.tags _ h.bQ.lt, h.tQ.1] at this
      omega
    · exact ⟨by rw [hst.tags _ h.bD.lt]; exact h.tD.1, h.tD.2⟩
    · exact ⟨by rw [hst.tags _ h.bQ.lt]; exact h.tQ.1, h.tQ.2⟩
    · exact ⟨by rw [hst.tags _ h.rC.lt]; exact h.tC.1, h.tC.2⟩
    · exact ⟨by rw [hst.tags _ h.rL.lt]; exact h.tL.1, h.tL.2⟩
    · intro g hg
      exact ⟨by rw [hst.tags _ (h.wU.lt g hg)]; exact (h.tU g hg).1, (h.tU g hg).2⟩
  clear hst htv hwin hgrow hat hne hblk hq1 h hv hsrc
  obtain ⟨aw, cw, hwf, _⟩ := HP.out.wform
  rw [hwf] at hrun h0 c0
  clear hwf
  go_enter Tryz.func42, Tryz.ntmps42
  subst hva
  go_wp2_with (at_builtin; refine wpl_append_run rfl _ _ 39 rfl _ _ rfl rfl hrun ?_)
  refine bodyPost_end (results_none rfl _ _ _) rfl ?_
  exact ⟨rfl, HF.out⟩

set_option maxHeartbeats 1000000 in
theorem outcomes_ok (w : World) (tag : Nat → Nat) (base o : Nat) (s : St) (p : PL) (h : PD w tag base o s p) (hbase : base ≤ w.heap.size) (v : Value) (l : List Int) (hv : Bts w v l) (hout : s.outs.length + l.length ≤ 1000000) :
    Calls Tryz.prog 11 #[.pointer (some ⟨p.D, 0, none⟩), v] w fun e w' => e = .returned (.tuple #[]) ∧ ∃ p' tag', p'.D = p.D ∧ PD w' tag' base o (s.add l) p' ∧ Step tag tag' base o w w' := by
  have h1 := h.d0
  go_enter Tryz.func11, Tryz.ntmps11
  go_wp2_with (first
    | (go_at_call 41; refine (made_ok _ tag base o s p h).mono ?_; rintro e w' ⟨rfl, rfl⟩)
    | (go_at_call 42; refine (add_ok _ tag base o s p h hbase v l hv hout).mono ?_; rintro e w' ⟨rfl, hF⟩))
  refine bodyPost_end (results_none rfl _ _ _) rfl ?_
  exact ⟨rfl, hF⟩

end Go.Proofs.YtafkkehcacdodaaGreat
