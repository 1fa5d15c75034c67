/- The document's Append. -/
import Derived.Test.YtafkkehcacdodaaGreatStrRSmall
import Derived.Test.YtafkkehcacdodaaGreatStrRFrame
import Derived.Test.YtafkkehcacdodaaGreatStrRow
import Derived.Test.YtafkkehcacdodaaGreatStrAppend
import Derived.Test.YtafkkehcacdodaaGreatStrNum
import Derived.Test.YtafkkehcacdodaaGreatSecRef6
import Derived.Test.YtafkkehcacdodaaGreatStrROpen
import Derived.Deep.RegionHeld3
import Derived.Deep.LoopGhost
import Derived.BigQuiet
set_option maxRecDepth 100000
namespace Go.Proofs.YtafkkehcacdodaaGreat
open Go.RowKit
attribute [local go_sem ↓] Go.wp_at_zero Go.wp_at_succ

theorem enters_copy : ∀ (args : Array Value) (w : World), (callFunc 105 args).run Tryz.prog w = .ok (.enter 105 args) w := enters_of Tryz.func105 (by kernel_rfl) rfl

theorem copy_bts (w : World) (v : Value) (l : List Int) (h : Bts w v l) (hl : l.length ≤ 140737488351232) : Calls Tryz.prog 105 #[v] w fun e w' => ∃ v, e = .returned v ∧ Owns w' w.heap.size v l ∧ Below w.heap.size w w' := by
  obtain ⟨a, cap, b, off, rfl, h1, h2, h3, h4, h5⟩ := h
  exact copy_any a b off l.length cap l w h1 rfl h4 h5 hl

theorem rwrite_okI (w : World) (tag : Nat → Nat) (base o : Nat) (s : St) (p : ML) (h : MD w tag base o s p) (hbase : base ≤ w.heap.size) (k : Nat) (hk : k < s.n) (v : Value) (l : List Int) (hv : Bts w v l) (hl : l.length = 64)
    (hvo : ∀ g, v.ownBlock = some g → tag g / 16 ≠ o) (hops : s.ops ≤ 1000000) (hout : s.outs.length ≤ 1000000) (hsin : s.since.length ≤ 1000000) :
    Calls Tryz.prog 104 #[.pointer (some ⟨p.M, 0, none⟩), .int .i64 k, v] w fun e w' => e = .returned (.int .i64 (errC s.out)) ∧ ∃ p' tag', p'.M = p.M ∧ MD w' tag' base o (s.write k l) p' ∧ Step tag tag' base o w w' := by
  have hok : wOk s (k : Int) l = true := by unfold wOk hasB; simp; omega
  have := rwrite_any w tag base o s p h hbase (k : Int) v l hv hvo hops hout hsin p.M rfl
  unfold wE wS at this
  rw [if_pos hok, if_pos hok, Int.toNat_natCast] at this
  exact this

theorem withB_get (sc f : List Int) (used i : Nat) (hs : sc.length = 64) (hu : used + f.length ≤ 64) : (withB sc used f).getD i 0 = if i < used then sc.getD i 0 else if i < used + f.length then f.getD (i - used) 0 else 0 := by
  have h1 : (sc.take used).length = used := by rw [List.length_take]; omega
  unfold withB
  by_cases a : i < used
  · rw [if_pos a, getD_app_left _ _ _ (by rw [List.length_append, h1]; omega), getD_app_left _ _ _ (by rw [h1]; exact a)]
    simp [List.getD, a]
  · rw [if_neg a]
    by_cases c : i < used + f.length
    · rw [if_pos c, getD_app_left _ _ _ (by rw [List.length_append, h1]; omega), getD_app_right _ _ _ (by rw [h1]; omega), h1]
    · rw [if_neg c, getD_app_right _ _ _ (by rw [List.length_append, h1]; omega)]
      unfold zeros
      simp [List.getD, List.getElem?_replicate]
      split <;> rfl

/-- Behind the frame, and a place that was left: what the document's Append goes on with. -/
structure RMd8 (w w2 : World) (tag tag2 : Nat → Nat) (base o o' : Nat) (s : St) (p : ML) (t1 : Sd) (q : TL) (v : Value) (b : List Int) (vf : Value) : Prop where
  d : MD w2 tag2 base o s p
  s : MSt w2 tag2 base o' p.M s.n t1 q
  v : Held w2 tag2 v b
  f : Held w2 tag2 vf (frameB b)
  st : Step2 tag tag2 base o o' w w2

theorem MD.clip {w w' : World} {tag : Nat → Nat} {base o : Nat} {s : St} {p : ML} (h : MD w tag base o s p) (hb : Below w.heap.size w w') : MD w' (Go.Proofs.YtafkkehcacdodaaGreat.clip tag w.heap.size) base o s p :=
  h.keep (fun k hk _ => hb.block k hk) (fun k hk => clip_lt tag _ k hk)

theorem MS.clip {w w' : World} {tag : Nat → Nat} {base o M n pos used : Nat} {bs : List (List Int)} {cs : List Int} {q : TL} (h : MS w tag base o M n pos used bs cs q) (hb : Below w.heap.size w w') : MS w' (Go.Proofs.YtafkkehcacdodaaGreat.clip tag w.heap.size) base o M n pos used bs cs q :=
  h.keep (fun k hk _ => hb.block k hk) (fun k hk => clip_lt tag _ k hk) hb.size

section
variable {w w2 w3 : World} {tag tag2 : Nat → Nat} {base o o' : Nat} {s : St} {p : ML} {t1 : Sd} {q : TL} {v : Value} {b : List Int} {vf : Value}

theorem RMd8.clip (h : RMd8 w w2 tag tag2 base o o' s p t1 q v b vf) (hb : Below w2.heap.size w2 w3) (hbase : base ≤ w2.heap.size) : RMd8 w w3 tag (Go.Proofs.YtafkkehcacdodaaGreat.clip tag2 w2.heap.size) base o o' s p t1 q v b vf :=
  ⟨h.d.clip hb, h.s.clip hb, h.v.alloc hb, h.f.alloc hb, h.st.trans ((step_clip tag2 base o hbase hb).two1 o')⟩

theorem RMd8.later (h : RMd8 w w2 tag tag2 base o o' s p t1 q v b vf) (hb : Below w2.heap.size w2 w3) (hbase : base ≤ w2.heap.size) : RMd8 w w3 tag tag2 base o o' s p t1 q v b vf :=
  ⟨h.d.later hb, h.s.later hb, h.v.grow hb (fun _ _ => rfl), h.f.grow hb (fun _ _ => rfl), h.st.trans ((step_below tag2 base o hbase hb).two1 o')⟩

theorem RMd8.low (h : RMd8 w w2 tag tag2 base o o' s p t1 q v b vf) (hbase : base ≤ w.heap.size) : base ≤ w2.heap.size := Nat.le_trans hbase h.st.below.size
end

/-- What the document's Append leaves. -/
def RAppPost (w : World) (tag : Nat → Nat) (base o o' : Nat) (s : St) (M : Nat) (t : Sd) (T : Nat) (b : List Int) (w' : World) : Prop :=
  ∃ p' q' tag', p'.M = M ∧ q'.T = T ∧ MD w' tag' base o (appS s t b) p' ∧ MSt w' tag' base o' M s.n (appT s t b) q' ∧ Step2 tag tag' base o o' w w'

theorem bts_cells {w : World} {a : Option Addr} {n c : Nat} {l : List Int} (h : Bts w (.slice a n c) l) (hn : l.length = n) (h0 : 0 < n) : ∃ B O, a = some ⟨B, O, none⟩ ∧ ∀ i, i < n → w.cell? ⟨B, O + i, none⟩ = some (.int .u8 (l.getD i 0)) := by
  obtain ⟨a', c', B, O, e, _, _, _, ha, hs⟩ := h
  injection e with e1 _ _
  subst e1
  rcases ha with rfl | hn'
  · exact ⟨B, O, rfl, fun i hi => hs i (by omega)⟩
  · rw [hn'] at hn; simp at hn; omega

set_option maxHeartbeats 1000000 in
theorem rappend_no (w : World) (tag : Nat → Nat) (base o o' : Nat) (s : St) (p : ML) (h : MD w tag base o s p) (t : Sd) (q : TL) (hq : MSt w tag base o' p.M s.n t q) (v : Value) (b : List Int) (hv : Bts w v b) (hE : frameE b ≠ 0) :
    Calls Tryz.prog 80 #[.pointer (some ⟨q.T, 0, none⟩), v] w fun e w' => e = .returned (.int .i64 (appE s t b)) ∧ RAppPost w tag base o o' s p.M t q.T b w' := by
  have HF := rframe_no w v b hv hE
  have HA : Hid (appE s t b = frameE b) := by show _ = _; unfold appE; rw [if_pos hE]
  have HP : Hid (RAppPost w tag base o o' s p.M t q.T b w) := ⟨p, q, tag, rfl, rfl, by unfold appS; rw [if_pos hE]; exact h, by unfold appT; rw [if_pos hE]; exact hq, Step2.refl _ _ _ _ _⟩
  have hne : (frameE b != 0) = true := by simpa using hE
  clear h hq hE
  obtain ⟨a, c, rfl, _⟩ := bts_src hv
  clear hv
  generalize frameE b = E at *
  go_enter Tryz.func80, Tryz.ntmps80
  go_wp2_with (go_at_call 103; refine HF.mono ?_; rintro e w' ⟨rfl, hx⟩; have HX2 : Hid (w' = w) := hx; clear hx; rw [HX2.out])
  go_ret
  exact ⟨by rw [HA.out]; rfl, HP.out⟩

set_option maxHeartbeats 16000000 in
theorem rappend_ok8 (w : World) (tag : Nat → Nat) (base o o' : Nat) (ho : o ≠ o') (ho1 : 1 ≤ o) (ho2 : 1 ≤ o') (s : St) (p : ML) (h : MD w tag base o s p) (t : Sd) (q : TL) (hq : MSt w tag base o' p.M s.n t q) (hbase : base ≤ w.heap.size) (ht : t.Ok s.n) (v : Value) (b : List Int) (hv : Held w tag v b) (hE : frameE b = 0)
    (hops : s.ops ≤ 1000000) (hout : s.outs.length ≤ 1000000) (hsin : s.since.length ≤ 1000000) (hrec : t.recs.length ≤ 900000) :
    Calls Tryz.prog 80 #[.pointer (some ⟨q.T, 0, none⟩), v] w fun e w' => e = .returned (.int .i64 (appE s t b)) ∧ RAppPost w tag base o o' s p.M t q.T b w' := by
  obtain ⟨hb1, hb2⟩ := frameE_len hE
  obtain ⟨hf1, hf2, hf3⟩ := ht.fit b hE
  have hn2 := h.ok.n2
  have hpn := ht.pn
  have hun := ht.us
  have hfull := ht.full
  have hfpn := hf1.pn
  have hfun := hf1.us
  have HF := rframe_ok w v b hv.1 hb1 hb2
  have HPD : Hid (MD w tag base o s p) := h
  have HPO : Hid (MSt w tag base o' p.M s.n t q) := hq
  have HV : Hid (Held w tag v b) := hv
  obtain ⟨va, vc, hvv, _⟩ := bts_src hv.1
  subst hvv
  have HBA : Hid (base ≤ w.heap.size) := hbase
  have hbb : isBytes b := by obtain ⟨_, _, _, _, _, _, _, hb, _⟩ := hv.1; exact hb
  have HAE : Hid (appE s t b = if s.n ≤ (t.fit b).pos then 6 else errC s.out) := by show _ = _; unfold appE; rw [if_neg (by simp [hE])]
  have HAS : Hid (appS s t b = if s.n ≤ (t.fit b).pos then s else s.write (t.fit b).pos (withB (sec s.now (t.fit b).pos) (t.fit b).used (frameB b))) := by show _ = _; unfold appS; rw [if_neg (by simp [hE])]
  have HAT : Hid (appT s t b = if s.n ≤ (t.fit b).pos then t.fit b else if errC s.out = 0 then (t.fit b).added b else (t.fit b).leave) := by show _ = _; unfold appT; rw [if_neg (by simp [hE])]
  have HFL : Hid ((frameB b).length = b.length + 7) := frameB_len b
  have HST : Hid (∀ w1 v1, Owns w1 w.heap.size v1 (frameB b) → Below w.heap.size w w1 → RMd8 w w1 tag (clip tag w.heap.size) base o o' s p t q (.slice va b.length vc) b v1) := by
    intro w1 v1 hO hB
    exact ⟨HPD.out.clip hB, HPO.out.clip hB, HV.out.alloc hB, hO.held (frameB_bytes b hbb hb2), (step_clip tag base o hbase hB).two1 o'⟩
  clear h hq hv hE hbase hf1
  go_enter Tryz.func80, Tryz.ntmps80
  go_wp2_with fail
  refine HF.mono ?_
  rintro e w1 ⟨v1, rfl, hO, hB⟩
  have HM1 : Hid (RMd8 w w1 tag (clip tag w.heap.size) base o o' s p t q (.slice va b.length vc) b v1) := HST.out w1 v1 hO hB
  have hbt := hO.bts (frameB_bytes b hbb hb2)
  obtain ⟨fa, fc, hfv, _, _⟩ := bts_src hbt
  rw [HFL.out] at hfv
  subst hfv
  generalize clip tag w.heap.size = tag1 at *
  have e0 := HM1.out.s.t0
  have e1 := HM1.out.s.t1
  have e2 := HM1.out.s.t2
  have em := HM1.out.d.m0
  clear hO hB hbt HF
  by_cases hpos : t.pos < s.n
  case neg =>
    have hpe : t.pos = s.n := by omega
    have hu0 := hfull hpe
    have HT1 : Hid (t.fit b = t) := by show _ = _; unfold Sd.fit; rw [if_neg (by rw [hu0]; omega)]
    have hd : decide ((t.pos : Int) < (s.n : Int)) = false := by simp; omega
    have hposI : ¬ (t.pos : Int) < (s.n : Int) := by omega
    have HPost : Hid (∀ nq, RAppPost w tag base o o' s p.M t q.T b (w1.drewN nq)) := fun nq => ⟨p, q, tag1, rfl, rfl, by rw [HAS.out, HT1.out, if_pos (by omega)]; exact (HM1.out.later (below_drewN w1 nq) (HM1.out.low HBA.out)).d, by rw [HAT.out, HT1.out, if_pos (by omega)]; exact (HM1.out.later (below_drewN w1 nq) (HM1.out.low HBA.out)).s, (HM1.out.later (below_drewN w1 nq) (HM1.out.low HBA.out)).st⟩
    have HE6 : Hid (appE s t b = 6) := by show _ = _; rw [HAE.out, HT1.out, if_pos (by omega)]
    go_wp2_with fail
    go_quiet (fail)
    rename Nat => nq1
    have k0 := cell_later (below_drewN w1 nq1) e0
    have k1 := cell_later (below_drewN w1 nq1) e1
    have km := cell_later (below_drewN w1 nq1) em
    obtain ⟨w2, hw2⟩ : ∃ w2, w2 = w1.drewN nq1 := ⟨_, rfl⟩
    rw [← hw2] at k0 k1 km ⊢
    have HW2 : Hid (w2 = w1.drewN nq1) := hw2
    clear hw2 e0 e1 e2 em
    go_wp2_with fail
    go_quiet (fail)
    rename Nat => nq2
    go_wp2
    go_ret
    refine ⟨by rw [HE6.out]; rfl, ?_⟩
    rw [HW2.out, World.drewN_drewN]
    exact HPost.out _
  have hposI : (t.pos : Int) < (s.n : Int) := by omega
  have hd : decide ((t.pos : Int) < (s.n : Int)) = true := by simpa using hpos
  by_cases hfit : 64 < t.used + (b.length + 7)
  · have hfitI : (64 : Int) < (t.used : Int) + ((b.length : Int) + 7) := by omega
    have HT1 : Hid (t.fit b = t.leave) := by show _ = _; unfold Sd.fit; rw [if_pos hfit]
    go_wp2_with fail
    go_quiet (fail)
    rename Nat => nq1
    have HM2 := HM1.out.later (below_drewN w1 nq1) (HM1.out.low HBA.out)
    generalize w1.drewN nq1 = w2 at *
    clear e0 e1 e2 em HM1
    have HNx := rnext_ok w2 tag1 base o' p.M s.n t.pos t.used (bodies t) (cntL t.recs s.n) q HM2.s (by omega)
    have HM2h : Hid (RMd8 w w2 tag tag1 base o o' s p t q (.slice va b.length vc) b (.slice fa (b.length + 7) fc)) := HM2
    clear HM2
    go_wp2_with fail
    refine HNx.mono ?_
    rintro e w3 ⟨rfl, hq3, hS3⟩
    have HM3 : Hid (RMd8 w w3 tag tag1 base o o' s p (t.fit b) q (.slice va b.length vc) b (.slice fa (b.length + 7) fc)) := ⟨HM2h.out.d.other hS3 ho, by rw [HT1.out]; exact hq3, HM2h.out.v.step hS3 ho2, HM2h.out.f.step hS3 ho2, HM2h.out.st.trans (hS3.two2 o)⟩
    clear HNx hq3 hS3 HM2h HT1 hd
    generalize ht1 : t.fit b = t1 at *
    have HBB : Hid (base ≤ w3.heap.size) := HM3.out.low HBA.out
    have k0 := HM3.out.s.t0
    have k1 := HM3.out.s.t1
    have km := HM3.out.d.m0
    go_wp2_with fail
    by_cases hfl1 : s.n ≤ t1.pos
    · have hflI : (s.n : Int) ≤ (t1.pos : Int) := by omega
      have HPost : Hid (∀ nq, RAppPost w tag base o o' s p.M t q.T b (w3.drewN nq)) := fun nq => ⟨p, q, tag1, rfl, rfl, by rw [HAS.out, if_pos hfl1]; exact (HM3.out.later (below_drewN w3 nq) HBB.out).d, by rw [HAT.out, if_pos hfl1]; exact (HM3.out.later (below_drewN w3 nq) HBB.out).s, (HM3.out.later (below_drewN w3 nq) HBB.out).st⟩
      have HE6 : Hid (appE s t b = 6) := by show _ = _; rw [HAE.out, if_pos hfl1]
      go_quiet (fail)
      rename Nat => nq2
      go_wp2
      go_ret
      exact ⟨by rw [HE6.out]; rfl, HPost.out _⟩
    have hflI : ¬ (s.n : Int) ≤ (t1.pos : Int) := by omega
    rw [if_neg hfl1] at HAE HAS HAT
    go_quiet (fail)
    rename Nat => nq2
    have HM4 : Hid (RMd8 w (w3.drewN nq2) tag tag1 base o o' s p t1 q (.slice va b.length vc) b (.slice fa (b.length + 7) fc)) := HM3.out.later (below_drewN w3 nq2) HBB.out
    have HB4 : Hid (base ≤ (w3.drewN nq2).heap.size) := HBB.out
    generalize w3.drewN nq2 = w4 at *
    clear k0 k1 km HM3 HBB
    have HSd : Hid (Below w4.heap.size w4 w4.drew) := (Below.refl _ _).drew
    have c0 := HM4.out.s.t0
    have c1 := HM4.out.s.t1
    have K1 : w4.drew.cell? ⟨q.T, 0, none⟩ = some (.pointer (some ⟨p.M, 0, none⟩)) ∧ w4.drew.cell? ⟨q.T, 1, none⟩ = some (.int .i64 t1.pos) := ⟨c0, c1⟩
    have HRd := rread_ok w4.drew tag1 base o s p (HM4.out.d.later HSd.out) t1.pos (by omega)
    have HK2 : Hid (∀ wx, Below w4.drew.heap.size w4.drew wx → wx.cell? ⟨q.T, 0, none⟩ = some (.pointer (some ⟨p.M, 0, none⟩)) ∧ wx.cell? ⟨q.T, 1, none⟩ = some (.int .i64 t1.pos)) := fun wx hx => ⟨cell_later hx c0, cell_later hx c1⟩
    have hsb := sec_bytes HPD.out.ok.nb t1.pos
    have HSL : Hid ((sec s.now t1.pos).length = 64) := sec_len HPD.out.ok.nl (by omega)
    go_wp2_with fail
    go_region_held3 (fun w' => w'.cell? ⟨q.T, 0, none⟩ = some (.pointer (some ⟨p.M, 0, none⟩)) ∧ w'.cell? ⟨q.T, 1, none⟩ = some (.int .i64 t1.pos))
      (first | (with_reducible exact K1) | (with_reducible exact K2)) ((go_at_call 73; refine HRd.mono ?_; rintro e w5 ⟨v5, rfl, hO5, hB5⟩; have K2 := HK2.out w5 hB5))
    have HBt5 : Hid (Bts w5 v5 (sec s.now t1.pos)) := hO5.bts hsb
    obtain ⟨sa, sc', hv5, hsc1, hsc2, _⟩ := bts_src HBt5.out
    rw [HSL.out] at hv5 hsc1
    subst hv5
    unfold maxLen at hsc2
    have HM5 : Hid (RMd8 w w5 tag tag1 base o o' s p t1 q (.slice va b.length vc) b (.slice fa (b.length + 7) fc)) := HM4.out.later (HSd.out.trans hB5) HB4.out
    have HB5 : Hid (base ≤ w5.heap.size) := Nat.le_trans HB4.out (HSd.out.trans hB5).size
    clear K1 K2 HK2 HRd hO5 hB5 HM4 HB4 HSd c0 c1
    generalize hSC : sec s.now t1.pos = sC at *
    clear hSC
    have hfc := bts_src HM5.out.f.1
    obtain ⟨fa', fc', hfv', hf11, hf12, _⟩ := hfc
    rw [HFL.out] at hfv' hf11
    injection hfv' with hfe1 _ hfe2
    subst hfe1; subst hfe2
    unfold maxLen at hf12
    obtain ⟨RB, RO, rfl, hRc⟩ := bts_cells HBt5.out HSL.out (by omega)
    obtain ⟨FB, FO, rfl, hFc⟩ := bts_cells HM5.out.f.1 HFL.out (by omega)
    have HRc : Hid (∀ i, i < 64 → w5.cell? ⟨RB, RO + i, none⟩ = some (.int .u8 (sC.getD i 0))) := hRc
    have HFc : Hid (∀ i, i < b.length + 7 → w5.cell? ⟨FB, FO + i, none⟩ = some (.int .u8 ((frameB b).getD i 0))) := hFc
    have c2 := HM5.out.s.t2
    have hLb := withB_bytes sC t1.used (frameB b) hsb (frameB_bytes b hbb hb2)
    have HLl : Hid ((withB sC t1.used (frameB b)).length = 64) := withB_len _ _ _ HSL.out (by rw [HFL.out]; omega)
    have HLg : Hid (∀ i, i < 64 → (withB sC t1.used (frameB b)).getD i 0 = if i < t1.used then sC.getD i 0 else if i < t1.used + (b.length + 7) then (frameB b).getD (i - t1.used) 0 else 0) := fun i hi => by
      have := withB_get sC (frameB b) t1.used i HSL.out (by rw [HFL.out]; omega)
      rwa [HFL.out] at this
    generalize withB sC t1.used (frameB b) = L at *
    clear hRc hFc hpos hposI hflI
    go_wp2
    go_loopg [9, 10] 64 (fun gk v i wr => ∃ k : Nat, k + gk = 64 ∧ i = .int .i64 k ∧ Owns wr w5.heap.size v (L.take k) ∧ Below w5.heap.size w5 wr)
    case atStart => exact ⟨0, by omega, rfl, by rw [List.take_zero]; exact World.ownsRow_nil _ _ _ _, Below.refl _ _⟩
    case round =>
      obtain ⟨w8, rfl⟩ : ∃ w8, w8 = wr := ⟨wr, rfl⟩
      obtain ⟨k, hk, rfl, hO, hB8⟩ := hrel
      by_cases hk64 : k < 64
      case pos =>
        have hkI : (k : Int) < 64 := by omega
        have d2 := cell_later hB8 c2
        have HTk : Hid (L.take (k + 1) = L.take k ++ [L.getD k 0]) := take_snoc L k (by rw [HLl.out]; exact hk64)
        have hLg := HLg.out k hk64
        have hlt : (L.take k).length ≤ 64 := by rw [List.length_take]; omega
        obtain ⟨vv, w9, hr, hO9, hB9⟩ := append_one w8 w5.heap.size _ (L.take k) (L.getD k 0) hO hB8.size (by omega)
        rw [← HTk.out] at hO9
        have HR9 : Hid (Owns w9 w5.heap.size vv (L.take (k + 1)) ∧ Below w5.heap.size w5 w9) := ⟨hO9, hB8.trans hB9⟩
        by_cases hA : k < t1.used
        · rw [if_pos hA] at hLg
          rw [hLg] at hr
          have hAI : (k : Int) < (t1.used : Int) := by omega
          have dc := cell_later hB8 (HRc.out k hk64)
          clear hO9 hB9 hLg
          generalize sC.getD k 0 = c at *
          go_wp2_with (at_builtin; refine wpl_append_run rfl _ _ 39 rfl _ _ rfl rfl hr ?_)
          go_roundg (64 - (k + 1))
          case rel => exact ⟨k + 1, by omega, by go_num, HR9.out⟩
          case measure => omega
        · rw [if_neg hA] at hLg
          have hAI : ¬ (k : Int) < (t1.used : Int) := by omega
          by_cases hA2 : k < t1.used + (b.length + 7)
          · rw [if_pos hA2] at hLg
            rw [hLg] at hr
            have hA2I : (k : Int) < (t1.used : Int) + ((b.length : Int) + 7) := by omega
            have dc := cell_later hB8 (HFc.out (k - t1.used) (by omega))
            obtain ⟨m, hm⟩ : ∃ m, m = k - t1.used := ⟨_, rfl⟩
            rw [← hm] at dc hr
            have hmI : (k : Int) - (t1.used : Int) = (m : Int) := by omega
            have hm63 : m < b.length + 7 := by omega
            have hm63I : (m : Int) < (b.length : Int) + 7 := by omega
            have HmI : Hid ((k : Int) - (t1.used : Int) = (m : Int)) := hmI
            clear hO9 hB9 hLg hm
            generalize (frameB b).getD m 0 = c at *
            go_wp2_with (at_builtin; refine wpl_append_run rfl _ _ 39 rfl _ _ rfl rfl hr ?_)
            go_roundg (64 - (k + 1))
            case rel => exact ⟨k + 1, by omega, by go_num, HR9.out⟩
            case measure => omega
          · rw [if_neg hA2] at hLg
            rw [hLg] at hr
            have hA2I : ¬ (k : Int) < (t1.used : Int) + ((b.length : Int) + 7) := by omega
            clear hO9 hB9 hLg
            go_wp2_with (at_builtin; refine wpl_append_run rfl _ _ 39 rfl _ _ rfl rfl hr ?_)
            go_roundg (64 - (k + 1))
            case rel => exact ⟨k + 1, by omega, by go_num, HR9.out⟩
            case measure => omega
      have hge : ¬ (k : Int) < 64 := by omega
      rw [List.take_of_length_le (by rw [HLl.out]; omega)] at hO
      have HM8 : Hid (RMd8 w w8 tag (clip tag1 w5.heap.size) base o o' s p t1 q (.slice va b.length vc) b (.slice (some ⟨FB, FO, none⟩) (b.length + 7) fc)) := HM5.out.clip hB8 HB5.out
      have HW8 : Hid (base ≤ w8.heap.size) := Nat.le_trans HB5.out hB8.size
      have hbt8 := hO.bts hLb
      have hfar := hO.tag0 tag1 o ho1
      obtain ⟨ua8, uc8, hv8, _⟩ := bts_src hbt8
      rw [HLl.out] at hv8
      subst hv8
      generalize clip tag1 w5.heap.size = tag8 at *
      have HSd : Below w8.heap.size w8 w8.drew := (Below.refl _ _).drew
      have HWr := rwrite_okI w8.drew tag8 base o s p (HM8.out.d.later HSd) HW8.out t1.pos (by omega) _ L (hbt8.later HSd) HLl.out hfar hops hout hsin
      have c0 := HM8.out.s.t0
      have c1 := HM8.out.s.t1
      have K1 : w8.drew.cell? ⟨q.T, 0, none⟩ = some (.pointer (some ⟨p.M, 0, none⟩)) ∧ w8.drew.cell? ⟨q.T, 1, none⟩ = some (.int .i64 t1.pos) := ⟨c0, c1⟩
      have hE := err_cases s.out
      clear hO hB8 hbt8 hfar HSd HRc HFc HLg c2 HBt5 HSL HM5 HB5
      generalize s.write t1.pos L = s9 at *
      generalize errC s.out = E at *
      go_wp2_with fail
      go_region_held3 (fun w' => w'.cell? ⟨q.T, 0, none⟩ = some (.pointer (some ⟨p.M, 0, none⟩)) ∧ w'.cell? ⟨q.T, 1, none⟩ = some (.int .i64 t1.pos))
        (first | (with_reducible exact K1) | (with_reducible exact K9)) ((go_at_call 104; refine HWr.mono ?_; rintro e w9 ⟨rfl, p9, tag9, hM9, hP9, hS9⟩; have hq9 := (HM8.out.s.later (Below.refl _ _).drew).other hS9 (fun e => ho e.symm); have K9 : w9.cell? ⟨q.T, 0, none⟩ = some (.pointer (some ⟨p.M, 0, none⟩)) ∧ w9.cell? ⟨q.T, 1, none⟩ = some (.int .i64 t1.pos) := ⟨hq9.t0, hq9.t1⟩; have HQ9 : Hid (MSt w9 tag9 base o' p.M s.n t1 q) := hq9; have HP9 : Hid (MD w9 tag9 base o s9 p9) := hP9; have HS9 : Hid (Step tag8 tag9 base o w8.drew w9) := hS9; clear hP9 hS9 hq9))
      have HV9 : Hid (Held w9 tag9 (.slice va b.length vc) b) := (HM8.out.v.grow (Below.refl _ _).drew (fun _ _ => rfl)).step HS9.out ho1
      have HSt9 : Hid (Step2 tag tag9 base o o' w w9) := (HM8.out.st.trans ((step_below tag8 base o HW8.out (Below.refl _ _).drew).two1 o')).trans (HS9.out.two1 o')
      clear K1 K9 HWr HM8 HW8 HS9 c0 c1
      rcases hE with rfl | rfl
      case inr =>
        rw [if_neg (by decide)] at HAT
        have HNx := rnext_ok w9 tag9 base o' p.M s.n t1.pos t1.used (bodies t1) (cntL t1.recs s.n) q HQ9.out (by omega)
        go_wp2_with fail
        refine HNx.mono ?_
        rintro e w10 ⟨rfl, hq10, hS10⟩
        have HPost : Hid (RAppPost w tag base o o' s p.M t q.T b w10) := ⟨p9, q, tag9, hM9, rfl, by rw [HAS.out]; exact HP9.out.other hS10 ho, by rw [HAT.out]; exact hq10, HSt9.out.trans (hS10.two2 o)⟩
        clear HNx hq10 hS10 HQ9 HP9 HSt9 HV9
        go_wp2
        go_ret
        exact ⟨by rw [HAE.out]; rfl, HPost.out⟩
      rw [if_pos rfl] at HAT
      have HBas9 : Hid (base ≤ w9.heap.size) := Nat.le_trans HBA.out HSt9.out.below.size
      obtain ⟨g10, h10⟩ := HQ9.out.byte (t1.used + (b.length + 7))
      have e2 := HQ9.out.t2
      have f2 := HQ9.out.fT 2
      have HM10 : Hid (MS (w9.setCell ⟨q.T, 2, none⟩ (.int .i64 ((t1.used + (b.length + 7) : Nat) : Int))) tag9 base o' p.M s.n t1.pos (t1.used + (b.length + 7)) (bodies t1) (cntL t1.recs s.n) q ∧ Step tag9 tag9 base o' w9 (w9.setCell ⟨q.T, 2, none⟩ (.int .i64 ((t1.used + (b.length + 7) : Nat) : Int)))) := ⟨g10, h10⟩
      obtain ⟨w10, hw10⟩ : ∃ w10, w10 = w9.setCell ⟨q.T, 2, none⟩ (.int .i64 ((t1.used + (b.length + 7) : Nat) : Int)) := ⟨_, rfl⟩
      rw [← hw10] at HM10
      have HW10 : Hid (w9.setCell ⟨q.T, 2, none⟩ (.int .i64 ((t1.used : Int) + ((b.length : Int) + 7))) = w10) := by show _ = _; rw [hw10]; rfl
      clear g10 h10 hw10
      go_wp2_with fail
      rw [HW10.out]
      clear HW10 e2 f2
      have d1 := HM10.out.1.t1
      have d4 := HM10.out.1.t4
      have di := HM10.out.1.i t1.pos (by omega)
      have dfi := HM10.out.1.fI t1.pos
      have hcc : 0 ≤ (cntL t1.recs s.n).getD t1.pos 0 ∧ (cntL t1.recs s.n).getD t1.pos 0 ≤ 900000 := by
        rw [cntL_get _ _ _ (by omega)]
        have := List.countP_le_length (p := fun x : Nat × List Int => x.1 == t1.pos) (l := t1.recs)
        rw [hf3] at this ⊢
        omega
      obtain ⟨hcc0, hcc1⟩ := hcc
      obtain ⟨g11, h11⟩ := HM10.out.1.count t1.pos ((cntL t1.recs s.n).getD t1.pos 0 + 1)
      rw [← cntL_snoc t1.recs s.n t1.pos b (by omega)] at g11
      have HM11 : Hid (MS (w10.setCell ⟨q.I, t1.pos, none⟩ (.int .i64 ((cntL t1.recs s.n).getD t1.pos 0 + 1))) tag9 base o' p.M s.n t1.pos (t1.used + (b.length + 7)) (bodies t1) (cntL (t1.recs ++ [(t1.pos, b)]) s.n) q ∧ Step tag9 tag9 base o' w9 (w10.setCell ⟨q.I, t1.pos, none⟩ (.int .i64 ((cntL t1.recs s.n).getD t1.pos 0 + 1)))) := ⟨g11, HM10.out.2.trans h11⟩
      have hposn : (t1.pos : Int) < (s.n : Int) := by omega
      generalize (cntL t1.recs s.n).getD t1.pos 0 = C at *
      clear g11 h11 HM10
      go_wp2_with fail
      go_region
      all_goals
        have hq12 := HM11.out.1.later (Below.refl _ _).drew
        have HS12 := HM11.out.2.drewN 1
        obtain ⟨w12, hw12⟩ : ∃ w12, w12 = (w10.setCell ⟨q.I, t1.pos, none⟩ (.int .i64 (C + 1))).drew := ⟨_, rfl⟩
        rw [← hw12] at hq12 ⊢
        have hS12 : Step tag9 tag9 base o' w9 w12 := by rw [hw12]; exact HS12
        have HV12 : Hid (Held w12 tag9 (.slice va b.length vc) b) := HV9.out.step hS12 ho2
        have HP12 : Hid (MD w12 tag9 base o s9 p9) := HP9.out.other hS12 ho
        have HSt12 : Hid (Step2 tag tag9 base o o' w w12) := HSt9.out.trans (hS12.two2 o)
        have HBas12 : Hid (base ≤ w12.heap.size) := Nat.le_trans HBas9.out hS12.below.size
        clear HM11 HS12 hS12 hw12 HV9 HP9 HSt9 HBas9 HQ9 d1 d4 di dfi hcc0 hcc1 hposn
        have hB12 : Below w12.heap.size w12 w12.drew := (Below.refl _ _).drew
        have HC := copy_bts w12.drew _ b (HV12.out.1.later hB12) (by omega)
        have d3 := hq12.t3
        have hTlt12 : q.T < w12.heap.size := hq12.bT.lt
        obtain ⟨ra, rc, hrv⟩ := win_shape hq12.wL
        have hbl : (bodies t1).length ≤ 900000 := by rw [bodies_len, hf3]; exact hrec
        have HRV : Hid (q.lv = .slice ra (bodies t1).length rc) := hrv
        have HAP : Hid (∀ w14 ua uc, Owns w14 w12.heap.size (.slice ua b.length uc) b → Below w12.heap.size w12.drew w14 → ∀ v' w16, (w14.alloc (.cells #[.slice ua b.length uc] 39)).grownBy w16 (Value.slice ra (bodies t1).length rc).ownBlock → (v'.ownBlock = (Value.slice ra (bodies t1).length rc).ownBlock ∨ v'.ownBlock = some (w14.alloc (.cells #[.slice ua b.length uc] 39)).heap.size) →
            Win w16 1 v' ((bodies t1).length + 1) (q.vs ++ [.slice ua b.length uc]) → RAppPost w tag base o o' s p.M t q.T b (w16.setCell ⟨q.T, 3, none⟩ v') ∧ w16.cell? ⟨q.T, 3, none⟩ = some q.lv ∧ w16.frozen? ⟨q.T, 3, none⟩ = false) := by
          intro w14 ua uc hO hB14 v' w16 hg ha hw
          have hB1214 : Below w12.heap.size w12 w14 := hB12.trans hB14
          have hS14 := step_over tag9 base o' (16 * o' + 9) HBas12.out hB1214
          have hq14 := hq12.keep (w' := w14) (tag' := tagOver tag9 w12.heap.size (16 * o' + 9)) (fun k hk _ => hB1214.block k hk) hS14.tags hB1214.size
          rw [← HRV.out] at hg ha
          obtain ⟨tag', e1, e2, _⟩ := hq14.pushed (Nat.le_trans HBas12.out hB1214.size) (below_alloc w14 (.cells #[.slice ua b.length uc] 39)) b _ v' (hO.bts hbb)
            (fun g hg' => ⟨tagOver_ge _ _ _ _ (hO.lt g hg').1, Nat.le_trans HBas12.out (hO.lt g hg').1, (hO.lt g hg').2⟩) hg ha hw
          have hSall := (HSt12.out.trans (hS14.two2 o)).trans (e2.two2 o)
          have hne : q.lv.ownBlock ≠ some q.T := fun e => by have := (hq14.tL _ e).1; rw [hq14.tT.1] at this; omega
          have hblk : Blk w16 q.T _ := hq14.bT.same ((hg.block q.T (by simp; have := hq14.bT.lt; omega) (fun e => hne e.symm)).trans ((below_alloc w14 _).block q.T hq14.bT.lt))
          refine ⟨⟨p9, ⟨q.T, v', q.vs ++ [.slice ua b.length uc], q.I⟩, tag', hM9, rfl, ?_, ?_, hSall⟩, hblk.cell 3, hblk.frozen 3⟩
          · rw [HAS.out]
            exact (HP12.out.other hS14 ho).other e2 ho
          · rw [HAT.out]
            have hbod : bodies (t1.added b) = bodies t1 ++ [b] := by simp [bodies, Sd.added]
            show MS _ _ _ _ _ _ _ _ (bodies (t1.added b)) _ _
            rw [hbod]
            exact e1
        have HWn : Hid (∀ w14, Below w12.heap.size w12.drew w14 → Win w14 1 (.slice ra (bodies t1).length rc) (bodies t1).length q.vs) := by
          intro w14 hB14
          rw [← HRV.out]
          exact (hq12.wL.later hB12).later hB14
        rw [hrv] at d3 HAP
        obtain ⟨i0, hi, hz0, hz1, hz2⟩ := info_parts infoB
        generalize (bodies t1).length = rn at *
        clear hrv hq12 HV12 HP12 HSt12 HBas12 HRV
        go_wp2_with fail
        go_region_law (first
          | (refine step_call1 rfl 105 (.tmp 152) 39 rfl (.slice va b.length vc) (by go_simp) enters_copy (by with_reducible exact HC) ?_; rintro e w14 ⟨u, rfl, hO, hB14⟩; refine ⟨_, rfl, ?_⟩; obtain ⟨ua, uc, rfl, _⟩ := bts_src (hO.bts hbb); have d3' := cell_later (hB12.trans hB14) d3; have hsz14 : q.T < w14.heap.size := Nat.lt_of_lt_of_le hTlt12 hB14.size; have hwn14 := HWn.out w14 hB14)
          | (refine step_win_append rfl (.tmp 151) (.tmp 154) 79 rfl 39 i0 (.slice none 0 0) 1 24 Tryz.underlying79 hi hz0 hz1 hz2 rfl (by decide) (.slice ra rn rc) rn q.vs (by rfl) (by exact hwn14.later (below_alloc w14 _)) ⟨w14.heap.size, 0, none⟩ 1 1 [.slice ua b.length uc] (by rfl) rfl (by exact news_new w14 #[.slice ua b.length uc] 39) (by intro u hu; simp at hu; subst hu; rfl) (by unfold maxLen; omega) (by omega) ?_; intro v' w16 hwin hgrow hat; obtain ⟨va', vc', hvv⟩ := win_shape hwin; subst hvv; obtain ⟨hAP, g4, g5⟩ := HAP.out w14 ua uc hO hB14 _ w16 hgrow hat hwin))
        all_goals
          go_wp2
          go_ret
          exact ⟨by rw [HAE.out]; rfl, hAP⟩
  · have hfitI : ¬ (64 : Int) < (t.used : Int) + ((b.length : Int) + 7) := by omega
    have HT1 : Hid (t.fit b = t) := by show _ = _; unfold Sd.fit; rw [if_neg hfit]
    go_wp2_with fail
    go_quiet (fail)
    rename Nat => nq1
    have HM3 : Hid (RMd8 w (w1.drewN nq1) tag tag1 base o o' s p (t.fit b) q (.slice va b.length vc) b (.slice fa (b.length + 7) fc)) := by
      show RMd8 _ _ _ _ _ _ _ _ _ _ _ _ _ _
      rw [HT1.out]; exact HM1.out.later (below_drewN w1 nq1) (HM1.out.low HBA.out)
    generalize w1.drewN nq1 = w3 at *
    clear e0 e1 e2 em HM1 HT1 hd
    generalize ht1 : t.fit b = t1 at *
    have HBB : Hid (base ≤ w3.heap.size) := HM3.out.low HBA.out
    have k0 := HM3.out.s.t0
    have k1 := HM3.out.s.t1
    have km := HM3.out.d.m0
    go_wp2_with fail
    by_cases hfl1 : s.n ≤ t1.pos
    · have hflI : (s.n : Int) ≤ (t1.pos : Int) := by omega
      have HPost : Hid (∀ nq, RAppPost w tag base o o' s p.M t q.T b (w3.drewN nq)) := fun nq => ⟨p, q, tag1, rfl, rfl, by rw [HAS.out, if_pos hfl1]; exact (HM3.out.later (below_drewN w3 nq) HBB.out).d, by rw [HAT.out, if_pos hfl1]; exact (HM3.out.later (below_drewN w3 nq) HBB.out).s, (HM3.out.later (below_drewN w3 nq) HBB.out).st⟩
      have HE6 : Hid (appE s t b = 6) := by show _ = _; rw [HAE.out, if_pos hfl1]
      go_quiet (fail)
      rename Nat => nq2
      go_wp2
      go_ret
      exact ⟨by rw [HE6.out]; rfl, HPost.out _⟩
    have hflI : ¬ (s.n : Int) ≤ (t1.pos : Int) := by omega
    rw [if_neg hfl1] at HAE HAS HAT
    go_quiet (fail)
    rename Nat => nq2
    have HM4 : Hid (RMd8 w (w3.drewN nq2) tag tag1 base o o' s p t1 q (.slice va b.length vc) b (.slice fa (b.length + 7) fc)) := HM3.out.later (below_drewN w3 nq2) HBB.out
    have HB4 : Hid (base ≤ (w3.drewN nq2).heap.size) := HBB.out
    generalize w3.drewN nq2 = w4 at *
    clear k0 k1 km HM3 HBB
    have HSd : Hid (Below w4.heap.size w4 w4.drew) := (Below.refl _ _).drew
    have c0 := HM4.out.s.t0
    have c1 := HM4.out.s.t1
    have K1 : w4.drew.cell? ⟨q.T, 0, none⟩ = some (.pointer (some ⟨p.M, 0, none⟩)) ∧ w4.drew.cell? ⟨q.T, 1, none⟩ = some (.int .i64 t1.pos) := ⟨c0, c1⟩
    have HRd := rread_ok w4.drew tag1 base o s p (HM4.out.d.later HSd.out) t1.pos (by omega)
    have HK2 : Hid (∀ wx, Below w4.drew.heap.size w4.drew wx → wx.cell? ⟨q.T, 0, none⟩ = some (.pointer (some ⟨p.M, 0, none⟩)) ∧ wx.cell? ⟨q.T, 1, none⟩ = some (.int .i64 t1.pos)) := fun wx hx => ⟨cell_later hx c0, cell_later hx c1⟩
    have hsb := sec_bytes HPD.out.ok.nb t1.pos
    have HSL : Hid ((sec s.now t1.pos).length = 64) := sec_len HPD.out.ok.nl (by omega)
    go_wp2_with fail
    go_region_held3 (fun w' => w'.cell? ⟨q.T, 0, none⟩ = some (.pointer (some ⟨p.M, 0, none⟩)) ∧ w'.cell? ⟨q.T, 1, none⟩ = some (.int .i64 t1.pos))
      (first | (with_reducible exact K1) | (with_reducible exact K2)) ((go_at_call 73; refine HRd.mono ?_; rintro e w5 ⟨v5, rfl, hO5, hB5⟩; have K2 := HK2.out w5 hB5))
    have HBt5 : Hid (Bts w5 v5 (sec s.now t1.pos)) := hO5.bts hsb
    obtain ⟨sa, sc', hv5, hsc1, hsc2, _⟩ := bts_src HBt5.out
    rw [HSL.out] at hv5 hsc1
    subst hv5
    unfold maxLen at hsc2
    have HM5 : Hid (RMd8 w w5 tag tag1 base o o' s p t1 q (.slice va b.length vc) b (.slice fa (b.length + 7) fc)) := HM4.out.later (HSd.out.trans hB5) HB4.out
    have HB5 : Hid (base ≤ w5.heap.size) := Nat.le_trans HB4.out (HSd.out.trans hB5).size
    clear K1 K2 HK2 HRd hO5 hB5 HM4 HB4 HSd c0 c1
    generalize hSC : sec s.now t1.pos = sC at *
    clear hSC
    have hfc := bts_src HM5.out.f.1
    obtain ⟨fa', fc', hfv', hf11, hf12, _⟩ := hfc
    rw [HFL.out] at hfv' hf11
    injection hfv' with hfe1 _ hfe2
    subst hfe1; subst hfe2
    unfold maxLen at hf12
    obtain ⟨RB, RO, rfl, hRc⟩ := bts_cells HBt5.out HSL.out (by omega)
    obtain ⟨FB, FO, rfl, hFc⟩ := bts_cells HM5.out.f.1 HFL.out (by omega)
    have HRc : Hid (∀ i, i < 64 → w5.cell? ⟨RB, RO + i, none⟩ = some (.int .u8 (sC.getD i 0))) := hRc
    have HFc : Hid (∀ i, i < b.length + 7 → w5.cell? ⟨FB, FO + i, none⟩ = some (.int .u8 ((frameB b).getD i 0))) := hFc
    have c2 := HM5.out.s.t2
    have hLb := withB_bytes sC t1.used (frameB b) hsb (frameB_bytes b hbb hb2)
    have HLl : Hid ((withB sC t1.used (frameB b)).length = 64) := withB_len _ _ _ HSL.out (by rw [HFL.out]; omega)
    have HLg : Hid (∀ i, i < 64 → (withB sC t1.used (frameB b)).getD i 0 = if i < t1.used then sC.getD i 0 else if i < t1.used + (b.length + 7) then (frameB b).getD (i - t1.used) 0 else 0) := fun i hi => by
      have := withB_get sC (frameB b) t1.used i HSL.out (by rw [HFL.out]; omega)
      rwa [HFL.out] at this
    generalize withB sC t1.used (frameB b) = L at *
    clear hRc hFc hpos hposI hflI
    go_wp2
    go_loopg [9, 10] 64 (fun gk v i wr => ∃ k : Nat, k + gk = 64 ∧ i = .int .i64 k ∧ Owns wr w5.heap.size v (L.take k) ∧ Below w5.heap.size w5 wr)
    case atStart => exact ⟨0, by omega, rfl, by rw [List.take_zero]; exact World.ownsRow_nil _ _ _ _, Below.refl _ _⟩
    case round =>
      obtain ⟨w8, rfl⟩ : ∃ w8, w8 = wr := ⟨wr, rfl⟩
      obtain ⟨k, hk, rfl, hO, hB8⟩ := hrel
      by_cases hk64 : k < 64
      case pos =>
        have hkI : (k : Int) < 64 := by omega
        have d2 := cell_later hB8 c2
        have HTk : Hid (L.take (k + 1) = L.take k ++ [L.getD k 0]) := take_snoc L k (by rw [HLl.out]; exact hk64)
        have hLg := HLg.out k hk64
        have hlt : (L.take k).length ≤ 64 := by rw [List.length_take]; omega
        obtain ⟨vv, w9, hr, hO9, hB9⟩ := append_one w8 w5.heap.size _ (L.take k) (L.getD k 0) hO hB8.size (by omega)
        rw [← HTk.out] at hO9
        have HR9 : Hid (Owns w9 w5.heap.size vv (L.take (k + 1)) ∧ Below w5.heap.size w5 w9) := ⟨hO9, hB8.trans hB9⟩
        by_cases hA : k < t1.used
        · rw [if_pos hA] at hLg
          rw [hLg] at hr
          have hAI : (k : Int) < (t1.used : Int) := by omega
          have dc := cell_later hB8 (HRc.out k hk64)
          clear hO9 hB9 hLg
          generalize sC.getD k 0 = c at *
          go_wp2_with (at_builtin; refine wpl_append_run rfl _ _ 39 rfl _ _ rfl rfl hr ?_)
          go_roundg (64 - (k + 1))
          case rel => exact ⟨k + 1, by omega, by go_num, HR9.out⟩
          case measure => omega
        · rw [if_neg hA] at hLg
          have hAI : ¬ (k : Int) < (t1.used : Int) := by omega
          by_cases hA2 : k < t1.used + (b.length + 7)
          · rw [if_pos hA2] at hLg
            rw [hLg] at hr
            have hA2I : (k : Int) < (t1.used : Int) + ((b.length : Int) + 7) := by omega
            have dc := cell_later hB8 (HFc.out (k - t1.used) (by omega))
            obtain ⟨m, hm⟩ : ∃ m, m = k - t1.used := ⟨_, rfl⟩
            rw [← hm] at dc hr
            have hmI : (k : Int) - (t1.used : Int) = (m : Int) := by omega
            have hm63 : m < b.length + 7 := by omega
            have hm63I : (m : Int) < (b.length : Int) + 7 := by omega
            have HmI : Hid ((k : Int) - (t1.used : Int) = (m : Int)) := hmI
            clear hO9 hB9 hLg hm
            generalize (frameB b).getD m 0 = c at *
            go_wp2_with (at_builtin; refine wpl_append_run rfl _ _ 39 rfl _ _ rfl rfl hr ?_)
            go_roundg (64 - (k + 1))
            case rel => exact ⟨k + 1, by omega, by go_num, HR9.out⟩
            case measure => omega
          · rw [if_neg hA2] at hLg
            rw [hLg] at hr
            have hA2I : ¬ (k : Int) < (t1.used : Int) + ((b.length : Int) + 7) := by omega
            clear hO9 hB9 hLg
            go_wp2_with (at_builtin; refine wpl_append_run rfl _ _ 39 rfl _ _ rfl rfl hr ?_)
            go_roundg (64 - (k + 1))
            case rel => exact ⟨k + 1, by omega, by go_num, HR9.out⟩
            case measure => omega
      have hge : ¬ (k : Int) < 64 := by omega
      rw [List.take_of_length_le (by rw [HLl.out]; omega)] at hO
      have HM8 : Hid (RMd8 w w8 tag (clip tag1 w5.heap.size) base o o' s p t1 q (.slice va b.length vc) b (.slice (some ⟨FB, FO, none⟩) (b.length + 7) fc)) := HM5.out.clip hB8 HB5.out
      have HW8 : Hid (base ≤ w8.heap.size) := Nat.le_trans HB5.out hB8.size
      have hbt8 := hO.bts hLb
      have hfar := hO.tag0 tag1 o ho1
      obtain ⟨ua8, uc8, hv8, _⟩ := bts_src hbt8
      rw [HLl.out] at hv8
      subst hv8
      generalize clip tag1 w5.heap.size = tag8 at *
      have HSd : Below w8.heap.size w8 w8.drew := (Below.refl _ _).drew
      have HWr := rwrite_okI w8.drew tag8 base o s p (HM8.out.d.later HSd) HW8.out t1.pos (by omega) _ L (hbt8.later HSd) HLl.out hfar hops hout hsin
      have c0 := HM8.out.s.t0
      have c1 := HM8.out.s.t1
      have K1 : w8.drew.cell? ⟨q.T, 0, none⟩ = some (.pointer (some ⟨p.M, 0, none⟩)) ∧ w8.drew.cell? ⟨q.T, 1, none⟩ = some (.int .i64 t1.pos) := ⟨c0, c1⟩
      have hE := err_cases s.out
      clear hO hB8 hbt8 hfar HSd HRc HFc HLg c2 HBt5 HSL HM5 HB5
      generalize s.write t1.pos L = s9 at *
      generalize errC s.out = E at *
      go_wp2_with fail
      go_region_held3 (fun w' => w'.cell? ⟨q.T, 0, none⟩ = some (.pointer (some ⟨p.M, 0, none⟩)) ∧ w'.cell? ⟨q.T, 1, none⟩ = some (.int .i64 t1.pos))
        (first | (with_reducible exact K1) | (with_reducible exact K9)) ((go_at_call 104; refine HWr.mono ?_; rintro e w9 ⟨rfl, p9, tag9, hM9, hP9, hS9⟩; have hq9 := (HM8.out.s.later (Below.refl _ _).drew).other hS9 (fun e => ho e.symm); have K9 : w9.cell? ⟨q.T, 0, none⟩ = some (.pointer (some ⟨p.M, 0, none⟩)) ∧ w9.cell? ⟨q.T, 1, none⟩ = some (.int .i64 t1.pos) := ⟨hq9.t0, hq9.t1⟩; have HQ9 : Hid (MSt w9 tag9 base o' p.M s.n t1 q) := hq9; have HP9 : Hid (MD w9 tag9 base o s9 p9) := hP9; have HS9 : Hid (Step tag8 tag9 base o w8.drew w9) := hS9; clear hP9 hS9 hq9))
      have HV9 : Hid (Held w9 tag9 (.slice va b.length vc) b) := (HM8.out.v.grow (Below.refl _ _).drew (fun _ _ => rfl)).step HS9.out ho1
      have HSt9 : Hid (Step2 tag tag9 base o o' w w9) := (HM8.out.st.trans ((step_below tag8 base o HW8.out (Below.refl _ _).drew).two1 o')).trans (HS9.out.two1 o')
      clear K1 K9 HWr HM8 HW8 HS9 c0 c1
      rcases hE with rfl | rfl
      case inr =>
        rw [if_neg (by decide)] at HAT
        have HNx := rnext_ok w9 tag9 base o' p.M s.n t1.pos t1.used (bodies t1) (cntL t1.recs s.n) q HQ9.out (by omega)
        go_wp2_with fail
        refine HNx.mono ?_
        rintro e w10 ⟨rfl, hq10, hS10⟩
        have HPost : Hid (RAppPost w tag base o o' s p.M t q.T b w10) := ⟨p9, q, tag9, hM9, rfl, by rw [HAS.out]; exact HP9.out.other hS10 ho, by rw [HAT.out]; exact hq10, HSt9.out.trans (hS10.two2 o)⟩
        clear HNx hq10 hS10 HQ9 HP9 HSt9 HV9
        go_wp2
        go_ret
        exact ⟨by rw [HAE.out]; rfl, HPost.out⟩
      rw [if_pos rfl] at HAT
      have HBas9 : Hid (base ≤ w9.heap.size) := Nat.le_trans HBA.out HSt9.out.below.size
      obtain ⟨g10, h10⟩ := HQ9.out.byte (t1.used + (b.length + 7))
      have e2 := HQ9.out.t2
      have f2 := HQ9.out.fT 2
      have HM10 : Hid (MS (w9.setCell ⟨q.T, 2, none⟩ (.int .i64 ((t1.used + (b.length + 7) : Nat) : Int))) tag9 base o' p.M s.n t1.pos (t1.used + (b.length + 7)) (bodies t1) (cntL t1.recs s.n) q ∧ Step tag9 tag9 base o' w9 (w9.setCell ⟨q.T, 2, none⟩ (.int .i64 ((t1.used + (b.length + 7) : Nat) : Int)))) := ⟨g10, h10⟩
      obtain ⟨w10, hw10⟩ : ∃ w10, w10 = w9.setCell ⟨q.T, 2, none⟩ (.int .i64 ((t1.used + (b.length + 7) : Nat) : Int)) := ⟨_, rfl⟩
      rw [← hw10] at HM10
      have HW10 : Hid (w9.setCell ⟨q.T, 2, none⟩ (.int .i64 ((t1.used : Int) + ((b.length : Int) + 7))) = w10) := by show _ = _; rw [hw10]; rfl
      clear g10 h10 hw10
      go_wp2_with fail
      rw [HW10.out]
      clear HW10 e2 f2
      have d1 := HM10.out.1.t1
      have d4 := HM10.out.1.t4
      have di := HM10.out.1.i t1.pos (by omega)
      have dfi := HM10.out.1.fI t1.pos
      have hcc : 0 ≤ (cntL t1.recs s.n).getD t1.pos 0 ∧ (cntL t1.recs s.n).getD t1.pos 0 ≤ 900000 := by
        rw [cntL_get _ _ _ (by omega)]
        have := List.countP_le_length (p := fun x : Nat × List Int => x.1 == t1.pos) (l := t1.recs)
        rw [hf3] at this ⊢
        omega
      obtain ⟨hcc0, hcc1⟩ := hcc
      obtain ⟨g11, h11⟩ := HM10.out.1.count t1.pos ((cntL t1.recs s.n).getD t1.pos 0 + 1)
      rw [← cntL_snoc t1.recs s.n t1.pos b (by omega)] at g11
      have HM11 : Hid (MS (w10.setCell ⟨q.I, t1.pos, none⟩ (.int .i64 ((cntL t1.recs s.n).getD t1.pos 0 + 1))) tag9 base o' p.M s.n t1.pos (t1.used + (b.length + 7)) (bodies t1) (cntL (t1.recs ++ [(t1.pos, b)]) s.n) q ∧ Step tag9 tag9 base o' w9 (w10.setCell ⟨q.I, t1.pos, none⟩ (.int .i64 ((cntL t1.recs s.n).getD t1.pos 0 + 1)))) := ⟨g11, HM10.out.2.trans h11⟩
      have hposn : (t1.pos : Int) < (s.n : Int) := by omega
      generalize (cntL t1.recs s.n).getD t1.pos 0 = C at *
      clear g11 h11 HM10
      go_wp2_with fail
      go_region
      all_goals
        have hq12 := HM11.out.1.later (Below.refl _ _).drew
        have HS12 := HM11.out.2.drewN 1
        obtain ⟨w12, hw12⟩ : ∃ w12, w12 = (w10.setCell ⟨q.I, t1.pos, none⟩ (.int .i64 (C + 1))).drew := ⟨_, rfl⟩
        rw [← hw12] at hq12 ⊢
        have hS12 : Step tag9 tag9 base o' w9 w12 := by rw [hw12]; exact HS12
        have HV12 : Hid (Held w12 tag9 (.slice va b.length vc) b) := HV9.out.step hS12 ho2
        have HP12 : Hid (MD w12 tag9 base o s9 p9) := HP9.out.other hS12 ho
        have HSt12 : Hid (Step2 tag tag9 base o o' w w12) := HSt9.out.trans (hS12.two2 o)
        have HBas12 : Hid (base ≤ w12.heap.size) := Nat.le_trans HBas9.out hS12.below.size
        clear HM11 HS12 hS12 hw12 HV9 HP9 HSt9 HBas9 HQ9 d1 d4 di dfi hcc0 hcc1 hposn
        have hB12 : Below w12.heap.size w12 w12.drew := (Below.refl _ _).drew
        have HC := copy_bts w12.drew _ b (HV12.out.1.later hB12) (by omega)
        have d3 := hq12.t3
        have hTlt12 : q.T < w12.heap.size := hq12.bT.lt
        obtain ⟨ra, rc, hrv⟩ := win_shape hq12.wL
        have hbl : (bodies t1).length ≤ 900000 := by rw [bodies_len, hf3]; exact hrec
        have HRV : Hid (q.lv = .slice ra (bodies t1).length rc) := hrv
        have HAP : Hid (∀ w14 ua uc, Owns w14 w12.heap.size (.slice ua b.length uc) b → Below w12.heap.size w12.drew w14 → ∀ v' w16, (w14.alloc (.cells #[.slice ua b.length uc] 39)).grownBy w16 (Value.slice ra (bodies t1).length rc).ownBlock → (v'.ownBlock = (Value.slice ra (bodies t1).length rc).ownBlock ∨ v'.ownBlock = some (w14.alloc (.cells #[.slice ua b.length uc] 39)).heap.size) →
            Win w16 1 v' ((bodies t1).length + 1) (q.vs ++ [.slice ua b.length uc]) → RAppPost w tag base o o' s p.M t q.T b (w16.setCell ⟨q.T, 3, none⟩ v') ∧ w16.cell? ⟨q.T, 3, none⟩ = some q.lv ∧ w16.frozen? ⟨q.T, 3, none⟩ = false) := by
          intro w14 ua uc hO hB14 v' w16 hg ha hw
          have hB1214 : Below w12.heap.size w12 w14 := hB12.trans hB14
          have hS14 := step_over tag9 base o' (16 * o' + 9) HBas12.out hB1214
          have hq14 := hq12.keep (w' := w14) (tag' := tagOver tag9 w12.heap.size (16 * o' + 9)) (fun k hk _ => hB1214.block k hk) hS14.tags hB1214.size
          rw [← HRV.out] at hg ha
          obtain ⟨tag', e1, e2, _⟩ := hq14.pushed (Nat.le_trans HBas12.out hB1214.size) (below_alloc w14 (.cells #[.slice ua b.length uc] 39)) b _ v' (hO.bts hbb)
            (fun g hg' => ⟨tagOver_ge _ _ _ _ (hO.lt g hg').1, Nat.le_trans HBas12.out (hO.lt g hg').1, (hO.lt g hg').2⟩) hg ha hw
          have hSall := (HSt12.out.trans (hS14.two2 o)).trans (e2.two2 o)
          have hne : q.lv.ownBlock ≠ some q.T := fun e => by have := (hq14.tL _ e).1; rw [hq14.tT.1] at this; omega
          have hblk : Blk w16 q.T _ := hq14.bT.same ((hg.block q.T (by simp; have := hq14.bT.lt; omega) (fun e => hne e.symm)).trans ((below_alloc w14 _).block q.T hq14.bT.lt))
          refine ⟨⟨p9, ⟨q.T, v', q.vs ++ [.slice ua b.length uc], q.I⟩, tag', hM9, rfl, ?_, ?_, hSall⟩, hblk.cell 3, hblk.frozen 3⟩
          · rw [HAS.out]
            exact (HP12.out.other hS14 ho).other e2 ho
          · rw [HAT.out]
            have hbod : bodies (t1.added b) = bodies t1 ++ [b] := by simp [bodies, Sd.added]
            show MS _ _ _ _ _ _ _ _ (bodies (t1.added b)) _ _
            rw [hbod]
            exact e1
        have HWn : Hid (∀ w14, Below w12.heap.size w12.drew w14 → Win w14 1 (.slice ra (bodies t1).length rc) (bodies t1).length q.vs) := by
          intro w14 hB14
          rw [← HRV.out]
          exact (hq12.wL.later hB12).later hB14
        rw [hrv] at d3 HAP
        obtain ⟨i0, hi, hz0, hz1, hz2⟩ := info_parts infoB
        generalize (bodies t1).length = rn at *
        clear hrv hq12 HV12 HP12 HSt12 HBas12 HRV
        go_wp2_with fail
        go_region_law (first
          | (refine step_call1 rfl 105 (.tmp 152) 39 rfl (.slice va b.length vc) (by go_simp) enters_copy (by with_reducible exact HC) ?_; rintro e w14 ⟨u, rfl, hO, hB14⟩; refine ⟨_, rfl, ?_⟩; obtain ⟨ua, uc, rfl, _⟩ := bts_src (hO.bts hbb); have d3' := cell_later (hB12.trans hB14) d3; have hsz14 : q.T < w14.heap.size := Nat.lt_of_lt_of_le hTlt12 hB14.size; have hwn14 := HWn.out w14 hB14)
          | (refine step_win_append rfl (.tmp 151) (.tmp 154) 79 rfl 39 i0 (.slice none 0 0) 1 24 Tryz.underlying79 hi hz0 hz1 hz2 rfl (by decide) (.slice ra rn rc) rn q.vs (by rfl) (by exact hwn14.later (below_alloc w14 _)) ⟨w14.heap.size, 0, none⟩ 1 1 [.slice ua b.length uc] (by rfl) rfl (by exact news_new w14 #[.slice ua b.length uc] 39) (by intro u hu; simp at hu; subst hu; rfl) (by unfold maxLen; omega) (by omega) ?_; intro v' w16 hwin hgrow hat; obtain ⟨va', vc', hvv⟩ := win_shape hwin; subst hvv; obtain ⟨hAP, g4, g5⟩ := HAP.out w14 ua uc hO hB14 _ w16 hgrow hat hwin))
        all_goals
          go_wp2
          go_ret
          exact ⟨by rw [HAE.out]; rfl, hAP⟩

end Go.Proofs.YtafkkehcacdodaaGreat
