/- looks: a strand tells what the model says. -/
import Derived.Test.YtlgkndebhafliaaStrRApp
import Derived.Test.YtlgkndebhafliaaStrRSeg
import Derived.Test.YtlgkndebhafliaaStrInts
import Derived.Test.YtlgkndebhafliaaStrSame
set_option maxRecDepth 100000
namespace Go.Proofs.Ytlgkndebhafliaa
open Go.RowKit
attribute [local go_sem ↓] Go.wp_at_zero Go.wp_at_succ

theorem rappend_any (w : World) (tag : Nat → Nat) (base o o' : Nat) (ho : o ≠ o') (ho1 : 1 ≤ o) (ho2 : 1 ≤ o') (s : St) (p : ML) (h : MD w tag base o s p) (t : Sd) (q : TL) (M T : Nat) (hM : p.M = M) (hT : q.T = T) (hq : MSt w tag base o' M s.n t q) (hbase : base ≤ w.heap.size) (ht : t.Ok s.n) (v : Value) (b : List Int) (hv : Bts w v b) (hvh : b ≠ [] → Held w tag v b)
    (hops : s.ops ≤ 1000000) (hout : s.outs.length ≤ 1000000) (hsin : s.since.length ≤ 1000000) (hrec : t.recs.length ≤ 900000) :
    Calls Try.prog 23 #[.pointer (some ⟨T, 0, none⟩), v] w fun e w' => e = .returned (.int .i64 (appE s t b)) ∧ RAppPost w tag base o o' s M t T b w' := by
  subst hM; subst hT
  by_cases hE : frameE b = 0
  · exact rappend_ok8 w tag base o o' ho ho1 ho2 s p h t q hq hbase ht v b (hvh (fun e => by rw [e] at hE; cases hE)) hE hops hout hsin hrec
  · exact rappend_no w tag base o o' s p h t q hq v b hv hE

theorem rread_okJ (w : World) (tag : Nat → Nat) (base o : Nat) (s : St) (p : ML) (h : MD w tag base o s p) (k : Nat) (hk : k < s.n) (l : List Int) (hl : sec s.now k = l) (M : Nat) (hM : p.M = M) :
    Calls Try.prog 50 #[.pointer (some ⟨M, 0, none⟩), .int .i64 k] w fun e w' => ∃ v, e = .returned (.tuple #[v, .int .i64 0]) ∧ Bts w' v l ∧ Below w.heap.size w w' := by
  subst hM; subst hl
  refine (rread_ok w tag base o s p h k hk).mono ?_
  rintro e w' ⟨v, rfl, hO, hB⟩
  exact ⟨v, rfl, hO.bts (sec_bytes h.ok.nb k), hB⟩

set_option maxHeartbeats 4000000 in
theorem same8x_ok (w : World) (v v' : Value) (vs us : List Value) (ls : List (List Int)) (h : Lsx w v vs ls) (h' : Lsx w v' us ls) :
    Calls Try.prog 19 #[v, v'] w fun e w' => e = .returned (.bool true) ∧ ∃ nq, w' = w.drewN nq := by
  have H1 : Hid (Lsx w v vs ls) := h
  have H2 : Hid (Lsx w v' us ls) := h'
  obtain ⟨av, cv, rfl⟩ := win_shape h.win
  obtain ⟨au, cu, rfl⟩ := win_shape h'.win
  clear h h'
  go_enter Try.func19, Try.ntmps19
  go_wp2
  go_loopg [5] ls.length (fun gk i wr => ∃ (k nq : Nat), k + gk = ls.length ∧ i = .int .i64 k ∧ wr = w.drewN nq)
  case atStart => exact ⟨0, 0, by omega, rfl, rfl⟩
  case round =>
    obtain ⟨k, nq, hk, rfl, rfl⟩ := hrel
    by_cases hlt : k < ls.length
    case neg =>
      have hge : ¬ (k : Int) < (ls.length : Int) := by omega
      go_wp2
      go_ret
      exact ⟨rfl, nq, rfl⟩
    have hltI : (k : Int) < (ls.length : Int) := by omega
    obtain ⟨B1, O1, d1, e1, g1, g2, g3⟩ := win_read H1.out.win (by omega)
    obtain ⟨B2, O2, d2, e2, f1, f2, f3⟩ := win_read H2.out.win (by omega)
    injection e1 with e1a _ e1c
    injection e2 with e2a _ e2c
    subst e1a; subst e1c; subst e2a; subst e2c
    unfold maxLen at g2 f2
    have c1 := g3 k hlt
    have c2 := f3 k hlt
    have hb1 := H1.out.bts k hlt
    have hb2 := H2.out.bts k hlt
    have HS : ∀ n, Calls Try.prog 15 #[vs.getD k undef, us.getD k undef] ((w.drewN nq).drewN n) fun e w' => e = .returned (.bool true) ∧ ∃ nq', w' = ((w.drewN nq).drewN n).drewN nq' := fun n => by
      rw [World.drewN_drewN]
      have := same_one (w.drewN (nq + n)) _ _ _ _ (hb1.later (below_drewN w _)) (hb2.later (below_drewN w _))
      rwa [show sameB (ls.getD k []) (ls.getD k []) = true by unfold sameB; simp] at this
    obtain ⟨z1, z2, hz, _⟩ := bts_src hb1
    obtain ⟨y1, y2, hy, _⟩ := bts_src hb2
    rw [hz] at c1 HS
    rw [hy] at c2 HS
    clear hz hy hb1 hb2 g3 f3
    generalize (ls.getD k []).length = m at *
    have c1' : (w.drewN nq).cell? ⟨B1, O1 + k, none⟩ = some (.slice z1 m z2) := cell_later (below_drewN w nq) c1
    have c2' : (w.drewN nq).cell? ⟨B2, O2 + k, none⟩ = some (.slice y1 m y2) := cell_later (below_drewN w nq) c2
    obtain ⟨wx, hwx⟩ : ∃ x, x = w.drewN nq := ⟨_, rfl⟩
    rw [← hwx] at c1' c2' HS ⊢
    have HWX : Hid (wx = w.drewN nq) := hwx
    clear hwx c1 c2
    go_wp2_with fail
    go_quiet ((go_at_call 15; refine Calls.quiet_of (HS _)))
    rename Nat => nq2
    go_wp2
    go_roundg (ls.length - (k + 1))
    case rel => exact ⟨k + 1, _, by omega, by go_num, by rw [HWX.out, World.drewN_drewN]⟩
    case measure => omega

set_option maxHeartbeats 8000000 in
theorem looks8_ok (w : World) (tag : Nat → Nat) (base : Nat) (s : St) (p : PL) (h : PD w tag base 1 s p) (t : Sd) (q : SL) (hq : PO w tag base 2 p.D t q) (pm : ML) (hm : MD w tag base 3 s pm) (qm : TL) (hqm : MSt w tag base 4 pm.M s.n t qm) (ht : t.Ok s.n) (hrec : t.recs.length ≤ 900000) :
    Calls Try.prog 30 #[.pointer (some ⟨q.S, 0, none⟩), .pointer (some ⟨qm.T, 0, none⟩), .pointer (some ⟨p.D, 0, none⟩)] w fun e w' => e = .returned (.bool true) ∧ Below w.heap.size w w' := by
  have hn1 := h.ok.n1
  have hn2 := h.ok.n2
  have HPl := place_ok w tag base 2 p.D t q hq
  have HPD : Hid (PD w tag base 1 s p) := h
  have HPO : Hid (PO w tag base 2 p.D t q) := hq
  have HMD : Hid (MD w tag base 3 s pm) := hm
  have HMS : Hid (MSt w tag base 4 pm.M s.n t qm) := hqm
  clear h hq hm hqm
  obtain ⟨lva, lvc, hlv⟩ := win_shape HMS.out.wL
  have HLV : Hid (qm.lv = .slice lva (bodies t).length lvc) := hlv
  have KL : Hid (∀ wx, Below w.heap.size w wx → wx.cell? ⟨qm.T, 1, none⟩ = some (.int .i64 t.pos) ∧ wx.cell? ⟨qm.T, 2, none⟩ = some (.int .i64 t.used) ∧ wx.cell? ⟨qm.T, 3, none⟩ = some (.slice lva (bodies t).length lvc) ∧ wx.cell? ⟨qm.T, 0, none⟩ = some (.pointer (some ⟨pm.M, 0, none⟩)) ∧ wx.cell? ⟨pm.M, 5, none⟩ = some (.int .i64 s.ops)) := fun wx hx =>
    ⟨cell_later hx HMS.out.t1, cell_later hx HMS.out.t2, by rw [← HLV.out]; exact cell_later hx HMS.out.t3, cell_later hx HMS.out.t0, cell_later hx HMD.out.m5⟩
  clear hlv
  go_enter Try.func30, Try.ntmps30
  go_wp2_with fail
  refine HPl.mono ?_
  rintro e w1 ⟨rfl, hB1⟩
  have HBd : Hid (Below w.heap.size w w1.drew) := hB1.drew
  have K1 := KL.out w1.drew HBd.out
  have HAll := all_ok w1.drew tag base 2 p.D t q (HPO.out.later HBd.out) s.n ht hrec
  clear HPl hB1
  go_wp2_with fail
  go_region_held3 (fun w' => w'.cell? ⟨qm.T, 1, none⟩ = some (.int .i64 t.pos) ∧ w'.cell? ⟨qm.T, 2, none⟩ = some (.int .i64 t.used) ∧ w'.cell? ⟨qm.T, 3, none⟩ = some (.slice lva (bodies t).length lvc) ∧ w'.cell? ⟨qm.T, 0, none⟩ = some (.pointer (some ⟨pm.M, 0, none⟩)) ∧ w'.cell? ⟨pm.M, 5, none⟩ = some (.int .i64 s.ops))
    (first | (with_reducible exact K1) | (with_reducible exact K2) | (with_reducible exact K3) | (with_reducible exact K4) | (with_reducible exact K5) | (with_reducible exact K6) | (with_reducible exact K7))
    (first
      | (go_at_call 32; refine HAll.mono ?_; rintro e w2 ⟨v2, vs2, rfl, hL2, hB2⟩; have HB2 : Hid (Below w.heap.size w w2) := HBd.out.trans (hB2.mono HBd.out.size); have K2 := KL.out w2 HB2.out; have hX2 := HMS.out.lsx.later HB2.out; rw [HLV.out] at hX2; obtain ⟨a2, c2, rfl⟩ := win_shape hL2.win; have HSm := same8x_ok w2 _ _ _ _ _ hL2.lsx hX2; clear hL2 hX2 hB2)
      | (go_at_call 19; refine HSm.mono ?_; rintro e w3 ⟨rfl, nq3, hx3⟩; have HB3 : Hid (Below w.heap.size w w3) := (by show Below _ _ _; rw [hx3]; exact HB2.out.trans ((below_drewN w2 nq3).mono HB2.out.size)); have K3 := KL.out w3 HB3.out; have HSg := segments_ok w3 tag base 2 p.D t q (HPO.out.later HB3.out) s.n ht hn2 hrec; clear hx3)
      | (go_at_call 62; refine HSg.mono ?_; rintro e w4 ⟨v4, rfl, hI4, hB4⟩; have HB4 : Hid (Below w.heap.size w w4) := HB3.out.trans (hB4.mono HB3.out.size); have K4 := KL.out w4 HB4.out; have HW4 : Hid (WinI w4 v4 (segL t.recs)) := hI4.win; obtain ⟨a4, c4, rfl⟩ := win_shape hI4.win; have HRg := rsegments_ok w4 tag base 4 pm.M s.n t.pos t.used (bodies t) t.recs qm (HMS.out.later HB4.out) hn1 hn2 (fun x hx => (ht.rc x hx).1) hrec; clear hI4 hB4)
      | (go_at_call 63; refine HRg.mono ?_; rintro e w5 ⟨v5, rfl, hI5, hB5⟩; have HB5 : Hid (Below w.heap.size w w5) := HB4.out.trans (hB5.mono HB4.out.size); have K5 := KL.out w5 HB5.out; have HIn := ints8_ok w5 _ _ _ (HW4.out.later hB5) hI5; obtain ⟨a5, c5, rfl⟩ := win_shape hI5; clear hI5 hB5)
      | (go_at_call 61; refine HIn.mono ?_; rintro e w6 ⟨rfl, nq6, hx6⟩; have HB6 : Hid (Below w.heap.size w w6) := (by show Below _ _ _; rw [hx6]; exact HB5.out.trans ((below_drewN w5 nq6).mono HB5.out.size)); have K6 := KL.out w6 HB6.out; have HOp := ops_ok w6 tag base 1 s p (HPD.out.later HB6.out); clear hx6)
      | (go_at_call 64; refine HOp.mono ?_; rintro e w7 ⟨rfl, hx7⟩; have HB7 : Hid (Below w.heap.size w w7) := (by show Below _ _ _; rw [hx7]; exact HB6.out); have K7 := KL.out w7 HB7.out; clear hx7))
  have HZ : Hid (Below w.heap.size w w7) := HB7.out
  clear K1 K2 K3 K4 K5 K6 K7 HAll HSm HSg HRg HIn HOp HB2 HB3 HB4 HB5 HB6 HB7 HW4 HBd
  go_wp2_with fail
  go_loopg [9] s.n (fun gk i wr => ∃ k : Nat, k + gk = s.n ∧ i = .int .i64 k ∧ Below w.heap.size w wr)
  case atStart => exact ⟨0, by omega, rfl, HZ.out⟩
  case round =>
    obtain ⟨w8, rfl⟩ : ∃ w8, w8 = wr := ⟨wr, rfl⟩
    obtain ⟨k, hk, rfl, hB8⟩ := hrel
    have d0 := (KL.out w8 hB8).2.2.2.1
    have dm := cell_later hB8 HMD.out.m0
    by_cases hlt : k < s.n
    case neg =>
      have hge : ¬ (k : Int) < (s.n : Int) := by omega
      go_wp2
      go_ret
      exact ⟨rfl, hB8⟩
    have hltI : (k : Int) < (s.n : Int) := by omega
    have HR1 := read_okI w8 tag base 1 s p (HPD.out.later hB8) k k rfl hlt _ rfl
    have HB8 : Hid (Below w.heap.size w w8) := hB8
    clear hB8
    go_wp2_with fail
    refine HR1.mono ?_
    rintro e w9 ⟨v9, rfl, hU9, _, hB9⟩
    have HB9 : Hid (Below w.heap.size w w9) := HB8.out.trans (hB9.mono HB8.out.size)
    have g0 := (KL.out w9 HB9.out).2.2.2.1
    have HR2 := rread_okJ w9 tag base 3 s pm (HMD.out.later HB9.out) k hlt _ rfl pm.M rfl
    have HU9 : Hid (Bts w9 v9 (sec s.now k)) := hU9
    obtain ⟨ua, uc, rfl, _⟩ := bts_src hU9
    clear HR1 hU9 hB9 d0 dm
    go_wp2_with fail
    refine HR2.mono ?_
    rintro e w10 ⟨v10, rfl, hU10, hB10⟩
    have HB10 : Hid (Below w.heap.size w w10) := HB9.out.trans (hB10.mono HB9.out.size)
    have HSm := same_one w10 _ _ _ _ (HU9.out.later hB10) hU10
    rw [sameB_self] at HSm
    obtain ⟨xa, xc, rfl, _⟩ := bts_src hU10
    clear HR2 hU10 hB10 g0
    go_wp2_with fail
    refine HSm.mono ?_
    rintro e w11 ⟨rfl, nq, rfl⟩
    have HB11 : Hid (Below w.heap.size w (w10.drewN nq)) := HB10.out.trans ((below_drewN w10 nq).mono HB10.out.size)
    clear HSm
    go_wp2
    go_roundg (s.n - (k + 1))
    case rel => exact ⟨k + 1, by omega, by go_num, HB11.out⟩
    case measure => omega

end Go.Proofs.Ytlgkndebhafliaa
