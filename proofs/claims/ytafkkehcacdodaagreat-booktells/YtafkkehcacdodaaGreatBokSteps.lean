/- The other steps: seal, keep, discharge, may. -/
import Derived.Test.YtafkkehcacdodaaGreatBokLay
import Derived.Test.YtafkkehcacdodaaGreatEntCheck
set_option maxRecDepth 100000
namespace Go.Proofs.YtafkkehcacdodaaGreat
open Go.RowKit

set_option maxHeartbeats 1000000 in
theorem bseal_ok (w : World) (tag : Nat → Nat) (base o D B : Nat) (b : Bm) (h : BK w tag base o D B b) (hbase : base ≤ w.heap.size) (lv : Value) (q : Nat) (hn : Nb b.s b.t q) (hq : q ≤ 900000) (hout : b.s.outs.length ≤ 900000) :
    Calls Tryz.prog 51 #[.pointer (some ⟨B, 0, none⟩), lv] w fun e w' => ∃ tag', StepR tag tag' base o (o + 1) w w' ∧ BK w' tag' base o D B ⟨b.s.sync, synT b.s b.t, b.L, b.D⟩ ∧ e = stepEnd (errC b.s.out) := by
  obtain ⟨p, q', kv, dv, hD, hP, hPo, hPb⟩ := h
  have g0 := hPb.s0
  have hops := hn.ops
  have hsin := hn.sin
  have hn2 := hn.ok.n2
  have hpn := hn.tk.pn
  have HS := ssync_ok w tag base o (o + 1) (by omega) b.s p hP b.t q' (by rw [hD]; exact hPo) hbase (by omega) (by omega) (by omega) (by omega)
  have HB : Hid (PB w tag base (o + 2) q'.S b.L b.D B kv dv) := hPb
  have hneed := need_no
  have HR : Hid (∀ p1 w1 tag1, p1.D = p.D → PD w1 tag1 base o b.s.sync p1 → PO w1 tag1 base (o + 1) p.D (synT b.s b.t) q' → Step2 tag tag1 base o (o + 1) w w1 → StepR tag tag1 base o (o + 1) w w1 ∧ BK w1 tag1 base o D B ⟨b.s.sync, synT b.s b.t, b.L, b.D⟩) := by
    intro p1 w1 tag1 h1 h2 h3 h4
    have h5 := h4.range (Nat.le_refl o) (Nat.le_succ o) (Nat.le_succ o) (Nat.le_refl _)
    exact ⟨h5, p1, q', kv, dv, h1.trans hD, h2, by rw [← hD]; exact h3, HB.out.otherR h5 (by omega)⟩
  clear hP hPo hPb hn
  by_cases hE : errC b.s.out = 0
  · rw [hE] at HS ⊢
    go_enter Tryz.func51, Tryz.ntmps51
    go_wp2_with fail
    refine HS.mono ?_
    rintro e w1 ⟨rfl, p1, tag1, h1, h2, h3, h4⟩
    have hr := HR.out p1 w1 tag1 h1 h2 h3 h4
    clear h1 h2 h3 h4
    go_wp2_with fail
    refine (by exact hneed _ : Calls _ _ _ _ _).mono ?_
    rintro e w2 ⟨rfl, rfl⟩
    go_wp2
    go_end0
    exact ⟨tag1, hr.1, hr.2, rfl⟩
  · have hyes := fun w1 => need_yes (errC b.s.out) w1 hE
    have hEnd := stepEnd_no hE
    go_enter Tryz.func51, Tryz.ntmps51
    go_wp2_with fail
    refine HS.mono ?_
    rintro e w1 ⟨rfl, p1, tag1, h1, h2, h3, h4⟩
    have hr := HR.out p1 w1 tag1 h1 h2 h3 h4
    clear h1 h2 h3 h4
    go_wp2_with fail
    refine (by exact hyes _ : Calls _ _ _ _ _).mono ?_
    rintro e w2 ⟨rfl, rfl⟩
    go_wp2
    exact ⟨rfl, tag1, hr.1, hr.2, hEnd.symm⟩

theorem infoE5 : (Tryz.prog.info? 73).map (fun i => (i.zero, i.size, i.bytes)) = some (some (.agg #[.int .i64 0, .int .i64 0, .int .u32 0, .int .u32 0, .int .i64 0]), 5, 32) := by kernel_rfl

/-- An append onto a book's own row: the row is tagged anew. -/
theorem append_own9 {w : World} {tag : Nat → Nat} {base o T : Nat} {v : Value} {L : List En} (hw : Win w 5 v L.length (L.flatMap eL5)) (hT : ∀ g, v.ownBlock = some g → tag g = T ∧ base ≤ g) (hTo : T / 16 = o) (hbase : base ≤ w.heap.size)
    (lv : Value) (l : List En) (hl : Win w 5 lv l.length (l.flatMap eL5)) (hlen : L.length + l.length ≤ 1000000) :
    ∃ v' w' tag', (Builtin.append_ #[63, 63] 63 #[v, lv]).run Tryz.prog w = .ok v' w' ∧ Win w' 5 v' (L ++ l).length ((L ++ l).flatMap eL5) ∧ Step tag tag' base o w w' ∧ (∀ g, v'.ownBlock = some g → tag' g = T ∧ base ≤ g) ∧
      (∀ g, g < w.heap.size → v.ownBlock ≠ some g → w'.heap[g]? = w.heap[g]?) := by
  obtain ⟨i0, hi, hz0, hz1, hz2⟩ := info_parts infoE5
  have hsrc : ∃ a m c, lv = .slice a m c ∧ m = l.length ∧ ((∃ ad, a = some ad ∧ ∀ j u, (l.flatMap eL5)[j]? = some u → w.cell? (ad.add j) = some u) ∨ m = 0) := by
    rcases hl.2 with ⟨h1, h2⟩ | ⟨g, oo, cap, cs, h1, hb, h2, h3, h4, h5⟩
    · exact ⟨none, 0, 0, h1, h2.symm, .inr rfl⟩
    · refine ⟨_, _, cap, h1, rfl, .inl ⟨_, rfl, fun j u hj => ?_⟩⟩
      have hr := hb.range oo (l.length * 5)
      rw [h5] at hr
      have := hr j u hj
      rw [add_at]; exact this
  obtain ⟨a, m, c, rfl, hm, hs⟩ := hsrc
  subst hm
  obtain ⟨v', w', hr, hwin, hg, hat⟩ := win_append (P := Tryz.prog) w 63 63 73 i0 _ 5 32 Tryz.underlying63 hi hz0 hz1 hz2 rfl (by decide) v L.length _ hw a l.length c (l.flatMap eL5) (eL5_cells l) hs (eL5_one l) (by unfold maxLen; omega) (by omega)
  obtain ⟨h1, h2⟩ := step_grown hg hat hT hTo hbase
  refine ⟨v', w', _, hr, ?_, h1, h2, fun g hg1 hne => hg.block g hg1 (fun e => hne e.symm)⟩
  rw [List.flatMap_append, List.length_append]
  exact hwin

set_option maxHeartbeats 1000000 in
theorem bkeep_ok (w : World) (tag : Nat → Nat) (base o D B : Nat) (b : Bm) (h : BK w tag base o D B b) (hbase : base ≤ w.heap.size) (lv : Value) (l : List En) (hl : Win w 5 lv l.length (l.flatMap eL5)) (hlen : b.L.length + l.length ≤ 1000000) :
    Calls Tryz.prog 52 #[.pointer (some ⟨B, 0, none⟩), lv] w fun e w' => ∃ tag', StepR tag tag' base (o + 2) (o + 2) w w' ∧ BK w' tag' base o D B ⟨b.s, b.t, b.L ++ l, b.D⟩ ∧ e = .returned (.tuple #[]) := by
  obtain ⟨p, q', kv, dv, hD, hP, hPo, hPb⟩ := h
  have g1 := hPb.s1
  obtain ⟨v', w1, tag1, hr, hwin, hst, htag, hkp⟩ := append_own9 hPb.wK hPb.tK (o := o + 2) (by omega) hbase lv l hl hlen
  obtain ⟨va, vc, rfl, _⟩ := win_form hwin
  have hBk : kv.ownBlock ≠ some B := fun e => by have := (hPb.tK B e).1; have := hPb.tB.1; omega
  have hBl := hPb.bB.lt
  have hb1 : Blk w1 B [.pointer (some ⟨q'.S, 0, none⟩), kv, dv] := hPb.bB.same (hkp B hBl hBk)
  have hb2 := hb1.set 1 (.slice va (b.L ++ l).length vc)
  have hvB : (Value.slice va (b.L ++ l).length vc).ownBlock ≠ some B := fun e => by have := (htag B e).1; rw [hst.tags B hBl] at this; have := hPb.tB.1; omega
  have htB : tag1 B = 16 * (o + 2) + 1 := by rw [hst.tags B hBl]; exact hPb.tB.1
  have hst2 : Step tag tag1 base (o + 2) w (w1.setCell ⟨B, 1, none⟩ (.slice va (b.L ++ l).length vc)) := hst.set hPb.tB.2 (by omega) 1 (.slice va (b.L ++ l).length vc)
  have hsR : StepR tag tag1 base (o + 2) (o + 2) w (w1.setCell ⟨B, 1, none⟩ (.slice va (b.L ++ l).length vc)) := hst2.range (Nat.le_refl _) (Nat.le_refl _)
  have HR : Hid (∃ tag', StepR tag tag' base (o + 2) (o + 2) w (w1.setCell ⟨B, 1, none⟩ (.slice va (b.L ++ l).length vc)) ∧ BK (w1.setCell ⟨B, 1, none⟩ (.slice va (b.L ++ l).length vc)) tag' base o D B ⟨b.s, b.t, b.L ++ l, b.D⟩ ∧ Ending.returned (.tuple #[]) = .returned (.tuple #[])) := by
    refine ⟨tag1, hsR, ⟨p, q', _, dv, hD, hP.otherR hsR (by omega), hPo.otherR hsR (by omega), ⟨by simpa using hb2, ?_, ?_, ⟨htB, hPb.tB.2⟩, htag, ?_⟩⟩, rfl⟩
    · exact hwin.same (fun g hg => heap_setCell_other _ _ g _ (fun e => hvB (by rw [hg, show g = B from e])))
    · refine hPb.wD.same (fun g hg => ?_)
      have ht := (hPb.tD g hg).1
      rw [heap_setCell_other _ _ g _ (fun e => by have : g = B := e; rw [this] at ht; have := hPb.tB.1; omega)]
      exact hkp g (hPb.wD.lt g hg) (fun e => by have := (hPb.tK g e).1; omega)
    · exact fun g hg => ⟨by rw [hst.tags g (hPb.wD.lt g hg)]; exact (hPb.tD g hg).1, (hPb.tD g hg).2⟩
  have c1 := hb1.cell 1
  have f1 := hb1.frozen 1
  obtain ⟨a, c, rfl, _⟩ := win_form hl
  have c1' : w1.cell? ⟨B, 1, none⟩ = some kv := c1
  clear hP hPo hPb hst hst2 hsR hwin htag hkp hb1 hb2 hl c1
  go_enter Tryz.func52, Tryz.ntmps52
  go_wp2_with (at_builtin; refine wpl_append_run rfl _ _ 63 rfl _ _ rfl rfl hr ?_)
  go_end0
  simpa using HR.out

set_option maxHeartbeats 1000000 in
theorem bdis_ok (w : World) (tag : Nat → Nat) (base o D B : Nat) (b : Bm) (h : BK w tag base o D B b) (lv : Value) :
    Calls Tryz.prog 53 #[.pointer (some ⟨B, 0, none⟩), lv] w fun e w' => ∃ tag', StepR tag tag' base (o + 2) (o + 2) w w' ∧ BK w' tag' base o D B ⟨b.s, b.t, b.L, []⟩ ∧ e = .returned (.tuple #[]) := by
  obtain ⟨p, q', kv, dv, hD, hP, hPo, hPb⟩ := h
  have g2 := hPb.s2
  have f2 := hPb.fB 2
  have hb2 := hPb.bB.set 2 (.slice none 0 0)
  have hst : Step tag tag base (o + 2) w (w.setCell ⟨B, 2, none⟩ (.slice none 0 0)) := step_set tag base (o + 2) w hPb.tB.2 (by have := hPb.tB.1; omega) 2 _
  have hsR : StepR tag tag base (o + 2) (o + 2) w (w.setCell ⟨B, 2, none⟩ (.slice none 0 0)) := hst.range (Nat.le_refl _) (Nat.le_refl _)
  have HR : Hid (∃ tag', StepR tag tag' base (o + 2) (o + 2) w (w.setCell ⟨B, 2, none⟩ (.slice none 0 0)) ∧ BK (w.setCell ⟨B, 2, none⟩ (.slice none 0 0)) tag' base o D B ⟨b.s, b.t, b.L, []⟩ ∧ Ending.returned (.tuple #[]) = .returned (.tuple #[])) := by
    refine ⟨tag, hsR, ⟨p, q', kv, .slice none 0 0, hD, hP.otherR hsR (by omega), hPo.otherR hsR (by omega), ⟨by simpa using hb2, ?_, win_nil _ _, hPb.tB, hPb.tK, fun g hg => by simp [Value.ownBlock] at hg⟩⟩, rfl⟩
    refine hPb.wK.same (fun g hg => ?_)
    have ht := (hPb.tK g hg).1
    exact heap_setCell_other _ _ g _ (fun e => by have : g = B := e; rw [this] at ht; have := hPb.tB.1; omega)
  clear hP hPo hPb hst hsR hb2
  go_enter Tryz.func53, Tryz.ntmps53
  go_wp2
  go_end0
  simpa using HR.out

end Go.Proofs.YtafkkehcacdodaaGreat
