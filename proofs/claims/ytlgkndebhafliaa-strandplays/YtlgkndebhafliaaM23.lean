/- The document's Append. -/
import Derived.Test.YtlgkndebhafliaaM21
import Derived.Test.YtlgkndebhafliaaStrRFrame
import Derived.Test.YtlgkndebhafliaaStrRow
import Derived.Test.YtlgkndebhafliaaStrAppend
import Derived.Test.YtlgkndebhafliaaM16
import Derived.Deep.RegionHeld3
import Derived.Deep.LoopGhost
import Derived.BigQuiet
import Derived.Test.YtlgkndebhafliaaM11
import Derived.BigRegion
import Derived.Lib.SmallJoins
import Derived.Deep.Slices
set_option maxRecDepth 100000
namespace Go.Proofs.Ytlgkndebhafliaa
open Go.RowKit
attribute [local go_sem ↓] Go.wp_at_zero Go.wp_at_succ

theorem enters_copy : ∀ (args : Array Value) (w : World), (callFunc 18 args).run Try.prog w = .ok (.enter 18 args) w := enters_of Try.func18 (by kernel_rfl) rfl

theorem copy_bts (w : World) (v : Value) (l : List Int) (h : Bts w v l) (hl : l.length ≤ 140737488351232) : Calls Try.prog 18 #[v] w fun e w' => ∃ v, e = .returned v ∧ Owns w' w.heap.size v l ∧ Below w.heap.size w w' := by
  obtain ⟨a, cap, b, off, rfl, h1, h2, h3, h4, h5⟩ := h
  exact copy_any a b off l.length cap l w h1 rfl h4 h5 hl

theorem rwrite_okI (w : World) (tag : Nat → Nat) (base o : Nat) (s : St) (p : ML) (h : MD w tag base o s p) (hbase : base ≤ w.heap.size) (k : Nat) (hk : k < s.n) (v : Value) (l : List Int) (hv : Bts w v l) (hl : l.length = 64)
    (hvo : ∀ g, v.ownBlock = some g → tag g / 16 ≠ o) (hops : s.ops ≤ 1000000) (hout : s.outs.length ≤ 1000000) (hsin : s.since.length ≤ 1000000) :
    Calls Try.prog 53 #[.pointer (some ⟨p.M, 0, none⟩), .int .i64 k, v] w fun e w' => e = .returned (.int .i64 (errC s.out)) ∧ ∃ p' tag', p'.M = p.M ∧ MD w' tag' base o (s.write k l) p' ∧ Step tag tag' base o w w' := by
  have hok : wOk s (k : Int) l = true := by unfold wOk hasB; simp; omega
  have := rwrite_any w tag base o s p h hbase (k : Int) v l hv hvo hops hout hsin p.M rfl
  unfold wE wS at this
  rw [if_pos hok, if_pos hok, Int.toNat_natCast] at this
  exact this

theorem withB_get (sc f : List Int) (used i : Nat) (hs : sc.length = 64) (hu : used + f.length ≤ 64) : (withB sc used f).getD i 0 = if i < used then sc.getD i 0 else if i < used + f.length then f.getD (i - used) 0 else 0 := by
  have h1 : (sc.take used).length = used := by rw [List.length_take]; omega
  unfold withB
  by_cases a : i < used
  · rw [if_pos a, getD_app_left _ _ _ (by rw [List.length_append, h1]; omega), getD_app_left _ _ _ (by rw [h1]; exact a)]
    simp [List.getD, a]
  · rw [if_neg a]
    by_cases c : i < used + f.length
    · rw [if_pos c, getD_app_left _ _ _ (by rw [List.length_append, h1]; omega), getD_app_right _ _ _ (by rw [h1]; omega), h1]
    · rw [if_neg c, getD_app_right _ _ _ (by rw [List.length_append, h1]; omega)]
      unfold zeros
      simp [List.getD, List.getElem?_replicate]
      split <;> rfl

/-- Behind the frame, and a place that was left: what the document's Append goes on with. -/
structure RMd8 (w w2 : World) (tag tag2 : Nat → Nat) (base o o' : Nat) (s : St) (p : ML) (t1 : Sd) (q : TL) (v : Value) (b : List Int) (vf : Value) : Prop where
  d : MD w2 tag2 base o s p
  s : MSt w2 tag2 base o' p.M s.n t1 q
  v : Held w2 tag2 v b
  f : Held w2 tag2 vf (frameB b)
  st : Step2 tag tag2 base o o' w w2

theorem MD.clip {w w' : World} {tag : Nat → Nat} {base o : Nat} {s : St} {p : ML} (h : MD w tag base o s p) (hb : Below w.heap.size w w') : MD w' (Go.Proofs.Ytlgkndebhafliaa.clip tag w.heap.size) base o s p :=
  h.keep (fun k hk _ => hb.block k hk) (fun k hk => clip_lt tag _ k hk)

theorem MS.clip {w w' : World} {tag : Nat → Nat} {base o M n pos used : Nat} {bs : List (List Int)} {cs : List Int} {q : TL} (h : MS w tag base o M n pos used bs cs q) (hb : Below w.heap.size w w') : MS w' (Go.Proofs.Ytlgkndebhafliaa.clip tag w.heap.size) base o M n pos used bs cs q :=
  h.keep (fun k hk _ => hb.block k hk) (fun k hk => clip_lt tag _ k hk) hb.size

section
variable {w w2 w3 : World} {tag tag2 : Nat → Nat} {base o o' : Nat} {s : St} {p : ML} {t1 : Sd} {q : TL} {v : Value} {b : List Int} {vf : Value}

theorem RMd8.clip (h : RMd8 w w2 tag tag2 base o o' s p t1 q v b vf) (hb : Below w2.heap.size w2 w3) (hbase : base ≤ w2.heap.size) : RMd8 w w3 tag (Go.Proofs.Ytlgkndebhafliaa.clip tag2 w2.heap.size) base o o' s p t1 q v b vf :=
  ⟨h.d.clip hb, h.s.clip hb, h.v.alloc hb, h.f.alloc hb, h.st.trans ((step_clip tag2 base o hbase hb).two1 o')⟩

theorem RMd8.later (h : RMd8 w w2 tag tag2 base o o' s p t1 q v b vf) (hb : Below w2.heap.size w2 w3) (hbase : base ≤ w2.heap.size) : RMd8 w w3 tag tag2 base o o' s p t1 q v b vf :=
  ⟨h.d.later hb, h.s.later hb, h.v.grow hb (fun _ _ => rfl), h.f.grow hb (fun _ _ => rfl), h.st.trans ((step_below tag2 base o hbase hb).two1 o')⟩

theorem RMd8.low (h : RMd8 w w2 tag tag2 base o o' s p t1 q v b vf) (hbase : base ≤ w.heap.size) : base ≤ w2.heap.size := Nat.le_trans hbase h.st.below.size
end

/-- What the document's Append leaves. -/
def RAppPost (w : World) (tag : Nat → Nat) (base o o' : Nat) (s : St) (M : Nat) (t : Sd) (T : Nat) (b : List Int) (w' : World) : Prop :=
  ∃ p' q' tag', p'.M = M ∧ q'.T = T ∧ MD w' tag' base o (appS s t b) p' ∧ MSt w' tag' base o' M s.n (appT s t b) q' ∧ Step2 tag tag' base o o' w w'

theorem bts_cells {w : World} {a : Option Addr} {n c : Nat} {l : List Int} (h : Bts w (.slice a n c) l) (hn : l.length = n) (h0 : 0 < n) : ∃ B O, a = some ⟨B, O, none⟩ ∧ ∀ i, i < n → w.cell? ⟨B, O + i, none⟩ = some (.int .u8 (l.getD i 0)) := by
  obtain ⟨a', c', B, O, e, _, _, _, ha, hs⟩ := h
  injection e with e1 _ _
  subst e1
  rcases ha with rfl | hn'
  · exact ⟨B, O, rfl, fun i hi => hs i (by omega)⟩
  · rw [hn'] at hn; simp at hn; omega

set_option maxHeartbeats 1000000 in
theorem rappend_no (w : World) (tag : Nat → Nat) (base o o' : Nat) (s : St) (p : ML) (h : MD w tag base o s p) (t : Sd) (q : TL) (hq : MSt w tag base o' p.M s.n t q) (v : Value) (b : List Int) (hv : Bts w v b) (hE : frameE b ≠ 0) :
    Calls Try.prog 23 #[.pointer (some ⟨q.T, 0, none⟩), v] w fun e w' => e = .returned (.int .i64 (appE s t b)) ∧ RAppPost w tag base o o' s p.M t q.T b w' := by
  have HF := rframe_no w v b hv hE
  have HA : Hid (appE s t b = frameE b) := by show _ = _; unfold appE; rw [if_pos hE]
  have HP : Hid (RAppPost w tag base o o' s p.M t q.T b w) := ⟨p, q, tag, rfl, rfl, by unfold appS; rw [if_pos hE]; exact h, by unfold appT; rw [if_pos hE]; exact hq, Step2.refl _ _ _ _ _⟩
  have hne : (frameE b != 0) = true := by simpa using hE
  clear h hq hE
  obtain ⟨a, c, rfl, _⟩ := bts_src hv
  clear hv
  generalize frameE b = E at *
  go_enter Try.func23, Try.ntmps23
  go_wp2_with (go_at_call 16; refine HF.mono ?_; rintro e w' ⟨rfl, hx⟩; have HX2 : Hid (w' = w) := hx; clear hx; rw [HX2.out])
  go_ret
  exact ⟨by rw [HA.out]; rfl, HP.out⟩

set_option maxHeartbeats 16000000 in
theorem rappend_ok8 (w : World) (tag : Nat → Nat) (base o o' : Nat) (ho : o ≠ o') (ho1 : 1 ≤ o) (ho2 : 1 ≤ o') (s : St) (p : ML) (h : MD w tag base o s p) (t : Sd) (q : TL) (hq : MSt w tag base o' p.M s.n t q) (hbase : base ≤ w.heap.size) (ht : t.Ok s.n) (v : Value) (b : List Int) (hv : Held w tag v b) (hE : frameE b = 0)
    (hops : s.ops ≤ 1000000) (hout : s.outs.length ≤ 1000000) (hsin : s.since.length ≤ 1000000) (hrec : t.recs.length ≤ 900000) :
    Calls Try.prog 23 #[.pointer (some ⟨q.T, 0, none⟩), v] w fun e w' => e = .returned (.int .i64 (appE s t b)) ∧ RAppPost w tag base o o' s p.M t q.T b w' := by
  obtain ⟨hb1, hb2⟩ := frameE_len hE
  obtain ⟨hf1, hf2, hf3⟩ := ht.fit b hE
  have hn2 := h.ok.n2
  have hpn := ht.pn
  have hun := ht.us
  have hfull := ht.full
  have hfpn := hf1.pn
  have hfun := hf1.us
  have HF := rframe_ok w v b hv.1 hb1 hb2
  have HPD : Hid (MD w tag base o s p) := h
  have HPO : Hid (MSt w tag base o' p.M s.n t q) := hq
  have HV : Hid (Held w tag v b) := hv
  obtain ⟨va, vc, hvv, _⟩ := bts_src hv.1
  subst hvv
  have HBA : Hid (base ≤ w.heap.size) := hbase
  have hbb : isBytes b := by obtain ⟨_, _, _, _, _, _, _, hb, _⟩ := hv.1; exact hb
  have HAE : Hid (appE s t b = if s.n ≤ (t.fit b).pos then 6 else errC s.out) := by show _ = _; unfold appE; rw [if_neg (by simp [hE])]
  have HAS : Hid (appS s t b = if s.n ≤ (t.fit b).pos then s else s.write (t.fit b).pos (withB (sec s.now (t.fit b).pos) (t.fit b).used (frameB b))) := by show _ = _; unfold appS; rw [if_neg (by simp [hE])]
  have HAT : Hid (appT s t b = if s.n ≤ (t.fit b).pos then t.fit b else if errC s.out = 0 then (t.fit b).added b else (t.fit b).leave) := by show _ = _; unfold appT; rw [if_neg (by simp [hE])]
  have HFL : Hid ((frameB b).length = b.length + 7) := frameB_len b
  have HST : Hid (∀ w1 v1, Owns w1 w.heap.size v1 (frameB b) → Below w.heap.size w w1 → RMd8 w w1 tag (clip tag w.heap.size) base o o' s p t q (.slice va b.length vc) b v1) := by
    intro w1 v1 hO hB
    exact ⟨HPD.out.clip hB, HPO.out.clip hB, HV.out.alloc hB, hO.held (frameB_bytes b hbb hb2), (step_clip tag base o hbase hB).two1 o'⟩
  clear h hq hv hE hbase hf1
  go_enter Try.func23, Try.ntmps23
  go_wp2_with fail
  refine HF.mono ?_
  rintro e w1 ⟨v1, rfl, hO, hB⟩
  have HM1 : Hid (RMd8 w w1 tag (clip tag w.heap.size) base o o' s p t q (.slice va b.length vc) b v1) := HST.out w1 v1 hO hB
  have hbt := hO.bts (frameB_bytes b hbb hb2)
  obtain ⟨fa, fc, hfv, _, _⟩ := bts_src hbt
  rw [HFL.out] at hfv
  subst hfv
  generalize clip tag w.heap.size = tag1 at *
  have e0 := HM1.out.s.t0
  have e1 := HM1.out.s.t1
  have e2 := HM1.out.s.t2
  have em := HM1.out.d.m0
  clear hO hB hbt HF
  by_cases hpos : t.pos < s.n
  case neg =>
    have hpe : t.pos = s.n := by omega
    have hu0 := hfull hpe
    have HT1 : Hid (t.fit b = t) := by show _ = _; unfold Sd.fit; rw [if_neg (by rw [hu0]; omega)]
    have hd : decide ((t.pos : Int) < (s.n : Int)) = false := by simp; omega
    have hposI : ¬ (t.pos : Int) < (s.n : Int) := by omega
    have HPost : Hid (∀ nq, RAppPost w tag base o o' s p.M t q.T b (w1.drewN nq)) := fun nq => ⟨p, q, tag1, rfl, rfl, by rw [HAS.out, HT1.out, if_pos (by omega)]; exact (HM1.out.later (below_drewN w1 nq) (HM1.out.low HBA.out)).d, by rw [HAT.out, HT1.out, if_pos (by omega)]; exact (HM1.out.later (below_drewN w1 nq) (HM1.out.low HBA.out)).s, (HM1.out.later (below_drewN w1 nq) (HM1.out.low HBA.out)).st⟩
    have HE6 : Hid (appE s t b = 6) := by show _ = _; rw [HAE.out, HT1.out, if_pos (by omega)]
    go_wp2_with fail
    go_quiet (fail)
    rename Nat => nq1
    have k0 := cell_later (below_drewN w1 nq1) e0
    have k1 := cell_later (below_drewN w1 nq1) e1
    have km := cell_later (below_drewN w1 nq1) em
    obtain ⟨w2, hw2⟩ : ∃ w2, w2 = w1.drewN nq1 := ⟨_, rfl⟩
    rw [← hw2] at k0 k1 km ⊢
    have HW2 : Hid (w2 = w1.drewN nq1) := hw2
    clear hw2 e0 e1 e2 em
    go_wp2_with fail
    go_quiet (fail)
    rename Nat => nq2
    go_wp2
    go_ret
    refine ⟨by rw [HE6.out]; rfl, ?_⟩
    rw [HW2.out, World.drewN_drewN]
    exact HPost.out _
  have hposI : (t.pos : Int) < (s.n : Int) := by omega
  have hd : decide ((t.pos : Int) < (s.n : Int)) = true := by simpa using hpos
  by_cases hfit : 64 < t.used + (b.length + 7)
  · have hfitI : (64 : Int) < (t.used : Int) + ((b.length : Int) + 7) := by omega
    have HT1 : Hid (t.fit b = t.leave) := by show _ = _; unfold Sd.fit; rw [if_pos hfit]
    go_wp2_with fail
    go_quiet (fail)
    rename Nat => nq1
    have HM2 := HM1.out.later (below_drewN w1 nq1) (HM1.out.low HBA.out)
    generalize w1.drewN nq1 = w2 at *
    clear e0 e1 e2 em HM1
    have HNx := rnext_ok w2 tag1 base o' p.M s.n t.pos t.used (bodies t) (cntL t.recs s.n) q HM2.s (by omega)
    have HM2h : Hid (RMd8 w w2 tag tag1 base o o' s p t q (.slice va b.length vc) b (.slice fa (b.length + 7) fc)) := HM2
    clear HM2
    go_wp2_with fail
    refine HNx.mono ?_
    rintro e w3 ⟨rfl, hq3, hS3⟩
    have HM3 : Hid (RMd8 w w3 tag tag1 base o o' s p (t.fit b) q (.slice va b.length vc) b (.slice fa (b.length + 7) fc)) := ⟨HM2h.out.d.other hS3 ho, by rw [HT1.out]; exact hq3, HM2h.out.v.step hS3 ho2, HM2h.out.f.step hS3 ho2, HM2h.out.st.trans (hS3.two2 o)⟩
    clear HNx hq3 hS3 HM2h HT1 hd
    generalize ht1 : t.fit b = t1 at *
    have HBB : Hid (base ≤ w3.heap.size) := HM3.out.low HBA.out
    have k0 := HM3.out.s.t0
    have k1 := HM3.out.s.t1
    have km := HM3.out.d.m0
    go_wp2_with fail
    by_cases hfl1 : s.n ≤ t1.pos
    · have hflI : (s.n : Int) ≤ (t1.pos : Int) := by omega
      have HPost : Hid (∀ nq, RAppPost w tag base o o' s p.M t q.T b (w3.drewN nq)) := fun nq => ⟨p, q, tag1, rfl, rfl, by rw [HAS.out, if_pos hfl1]; exact (HM3.out.later (below_drewN w3 nq) HBB.out).d, by rw [HAT.out, if_pos hfl1]; exact (HM3.out.later (below_drewN w3 nq) HBB.out).s, (HM3.out.later (below_drewN w3 nq) HBB.out).st⟩
      have HE6 : Hid (appE s t b = 6) := by show _ = _; rw [HAE.out, if_pos hfl1]
      go_quiet (fail)
      rename Nat => nq2
      go_wp2
      go_ret
      exact ⟨by rw [HE6.out]; rfl, HPost.out _⟩
    have hflI : ¬ (s.n : Int) ≤ (t1.pos : Int) := by omega
    rw [if_neg hfl1] at HAE HAS HAT
    go_quiet (fail)
    rename Nat => nq2
    have HM4 : Hid (RMd8 w (w3.drewN nq2) tag tag1 base o o' s p t1 q (.slice va b.length vc) b (.slice fa (b.length + 7) fc)) := HM3.out.later (below_drewN w3 nq2) HBB.out
    have HB4 : Hid (base ≤ (w3.drewN nq2).heap.size) := HBB.out
    generalize w3.drewN nq2 = w4 at *
    clear k0 k1 km HM3 HBB
    have HSd : Hid (Below w4.heap.size w4 w4.drew) := (Below.refl _ _).drew
    have c0 := HM4.out.s.t0
    have c1 := HM4.out.s.t1
    have K1 : w4.drew.cell? ⟨q.T, 0, none⟩ = some (.pointer (some ⟨p.M, 0, none⟩)) ∧ w4.drew.cell? ⟨q.T, 1, none⟩ = some (.int .i64 t1.pos) := ⟨c0, c1⟩
    have HRd := rread_ok w4.drew tag1 base o s p (HM4.out.d.later HSd.out) t1.pos (by omega)
    have HK2 : Hid (∀ wx, Below w4.drew.heap.size w4.drew wx → wx.cell? ⟨q.T, 0, none⟩ = some (.pointer (some ⟨p.M, 0, none⟩)) ∧ wx.cell? ⟨q.T, 1, none⟩ = some (.int .i64 t1.pos)) := fun wx hx => ⟨cell_later hx c0, cell_later hx c1⟩
    have hsb := sec_bytes HPD.out.ok.nb t1.pos
    have HSL : Hid ((sec s.now t1.pos).length = 64) := sec_len HPD.out.ok.nl (by omega)
    go_wp2_with fail
    go_region_held3 (fun w' => w'.cell? ⟨q.T, 0, none⟩ = some (.pointer (some ⟨p.M, 0, none⟩)) ∧ w'.cell? ⟨q.T, 1, none⟩ = some (.int .i64 t1.pos))
      (first | (with_reducible exact K1) | (with_reducible exact K2)) ((go_at_call 50; refine HRd.mono ?_; rintro e w5 ⟨v5, rfl, hO5, hB5⟩; have K2 := HK2.out w5 hB5))
    have HBt5 : Hid (Bts w5 v5 (sec s.now t1.pos)) := hO5.bts hsb
    obtain ⟨sa, sc', hv5, hsc1, hsc2, _⟩ := bts_src HBt5.out
    rw [HSL.out] at hv5 hsc1
    subst hv5
    unfold maxLen at hsc2
    have HM5 : Hid (RMd8 w w5 tag tag1 base o o' s p t1 q (.slice va b.length vc) b (.slice fa (b.length + 7) fc)) := HM4.out.later (HSd.out.trans hB5) HB4.out
    have HB5 : Hid (base ≤ w5.heap.size) := Nat.le_trans HB4.out (HSd.out.trans hB5).size
    clear K1 K2 HK2 HRd hO5 hB5 HM4 HB4 HSd c0 c1
    generalize hSC : sec s.now t1.pos = sC at *
    clear hSC
    have hfc := bts_src HM5.out.f.1
    obtain ⟨fa', fc', hfv', hf11, hf12, _⟩ := hfc
    rw [HFL.out] at hfv' hf11
    injection hfv' with hfe1 _ hfe2
    subst hfe1; subst hfe2
    unfold maxLen at hf12
    obtain ⟨RB, RO, rfl, hRc⟩ := bts_cells HBt5.out HSL.out (by omega)
    obtain ⟨FB, FO, rfl, hFc⟩ := bts_cells HM5.out.f.1 HFL.out (by omega)
    have HRc : Hid (∀ i, i < 64 → w5.cell? ⟨RB, RO + i, none⟩ = some (.int .u8 (sC.getD i 0))) := hRc
    have HFc : Hid (∀ i, i < b.length + 7 → w5.cell? ⟨FB, FO + i, none⟩ = some (.int .u8 ((frameB b).getD i 0))) := hFc
    have c2 := HM5.out.s.t2
    have hLb := withB_bytes sC t1.used (frameB b) hsb (frameB_bytes b hbb hb2)
    have HLl : Hid ((withB sC t1.used (frameB b)).length = 64) := withB_len _ _ _ HSL.out (by rw [HFL.out]; omega)
    have HLg : Hid (∀ i, i < 64 → (withB sC t1.used (frameB b)).getD i 0 = if i < t1.used then sC.getD i 0 else if i < t1.used + (b.length + 7) then (frameB b).getD (i - t1.used) 0 else 0) := fun i hi => by
      have := withB_get sC (frameB b) t1.used i HSL.out (by rw [HFL.out]; omega)
      rwa [HFL.out] at this
    generalize withB sC t1.used (frameB b) = L at *
    clear hRc hFc hpos hposI hflI
    go_wp2
    go_loopg [9, 10] 64 (fun gk v i wr => ∃ k : Nat, k + gk = 64 ∧ i = .int .i64 k ∧ Owns wr w5.heap.size v (L.take k) ∧ Below w5.heap.size w5 wr)
    case atStart => exact ⟨0, by omega, rfl, by rw [List.take_zero]; exact World.ownsRow_nil _ _ _ _, Below.refl _ _⟩
    case round =>
      obtain ⟨w8, rfl⟩ : ∃ w8, w8 = wr := ⟨wr, rfl⟩
      obtain ⟨k, hk, rfl, hO, hB8⟩ := hrel
      by_cases hk64 : k < 64
      case pos =>
        have hkI : (k : Int) < 64 := by omega
        have d2 := cell_later hB8 c2
        have HTk : Hid (L.take (k + 1) = L.take k ++ [L.getD k 0]) := take_snoc L k (by rw [HLl.out]; exact hk64)
        have hLg := HLg.out k hk64
        have hlt : (L.take k).length ≤ 64 := by rw [List.length_take]; omega
        obtain ⟨vv, w9, hr, hO9, hB9⟩ := append_one w8 w5.heap.size _ (L.take k) (L.getD k 0) hO hB8.size (by omega)
        rw [← HTk.out] at hO9
        have HR9 : Hid (Owns w9 w5.heap.size vv (L.take (k + 1)) ∧ Below w5.heap.size w5 w9) := ⟨hO9, hB8.trans hB9⟩
        by_cases hA : k < t1.used
        · rw [if_pos hA] at hLg
          rw [hLg] at hr
          have hAI : (k : Int) < (t1.used : Int) := by omega
          have dc := cell_later hB8 (HRc.out k hk64)
          clear hO9 hB9 hLg
          generalize sC.getD k 0 = c at *
          go_wp2_with (at_builtin; refine wpl_append_run rfl _ _ 23 rfl _ _ rfl rfl hr ?_)
          go_roundg (64 - (k + 1))
          case rel => exact ⟨k + 1, by omega, by go_num, HR9.out⟩
          case measure => omega
        · rw [if_neg hA] at hLg
          have hAI : ¬ (k : Int) < (t1.used : Int) := by omega
          by_cases hA2 : k < t1.used + (b.length + 7)
          · rw [if_pos hA2] at hLg
            rw [hLg] at hr
            have hA2I : (k : Int) < (t1.used : Int) + ((b.length : Int) + 7) := by omega
            have dc := cell_later hB8 (HFc.out (k - t1.used) (by omega))
            obtain ⟨m, hm⟩ : ∃ m, m = k - t1.used := ⟨_, rfl⟩
            rw [← hm] at dc hr
            have hmI : (k : Int) - (t1.used : Int) = (m : Int) := by omega
            have hm63 : m < b.length + 7 := by omega
            have hm63I : (m : Int) < (b.length : Int) + 7 := by omega
            have HmI : Hid ((k : Int) - (t1.used : Int) = (m : Int)) := hmI
            clear hO9 hB9 hLg hm
            generalize (frameB b).getD m 0 = c at *
            go_wp2_with (at_builtin; refine wpl_append_run rfl _ _ 23 rfl _ _ rfl rfl hr ?_)
            go_roundg (64 - (k + 1))
            case rel => exact ⟨k + 1, by omega, by go_num, HR9.out⟩
            case measure => omega
          · rw [if_neg hA2] at hLg
            rw [hLg] at hr
            have hA2I : ¬ (k : Int) < (t1.used : Int) + ((b.length : Int) + 7) := by omega
            clear hO9 hB9 hLg
            go_wp2_with (at_builtin; refine wpl_append_run rfl _ _ 23 rfl _ _ rfl rfl hr ?_)
            go_roundg (64 - (k + 1))
            case rel => exact ⟨k + 1, by omega, by go_num, HR9.out⟩
            case measure => omega
      have hge : ¬ (k : Int) < 64 := by omega
      rw [List.take_of_length_le (by rw [HLl.out]; omega)] at hO
      have HM8 : Hid (RMd8 w w8 tag (clip tag1 w5.heap.size) base o o' s p t1 q (.slice va b.length vc) b (.slice (some ⟨FB, FO, none⟩) (b.length + 7) fc)) := HM5.out.clip hB8 HB5.out
      have HW8 : Hid (base ≤ w8.heap.size) := Nat.le_trans HB5.out hB8.size
      have hbt8 := hO.bts hLb
      have hfar := hO.tag0 tag1 o ho1
      obtain ⟨ua8, uc8, hv8, _⟩ := bts_src hbt8
      rw [HLl.out] at hv8
      subst hv8
      generalize clip tag1 w5.heap.size = tag8 at *
      have HSd : Below w8.heap.size w8 w8.drew := (Below.refl _ _).drew
      have HWr := rwrite_okI w8.drew tag8 base o s p (HM8.out.d.later HSd) HW8.out t1.pos (by omega) _ L (hbt8.later HSd) HLl.out hfar hops hout hsin
      have c0 := HM8.out.s.t0
      have c1 := HM8.out.s.t1
      have K1 : w8.drew.cell? ⟨q.T, 0, none⟩ = some (.pointer (some ⟨p.M, 0, none⟩)) ∧ w8.drew.cell? ⟨q.T, 1, none⟩ = some (.int .i64 t1.pos) := ⟨c0, c1⟩
      have hE := err_cases s.out
      clear hO hB8 hbt8 hfar HSd HRc HFc HLg c2 HBt5 HSL HM5 HB5
      generalize s.write t1.pos L = s9 at *
      generalize errC s.out = E at *
      go_wp2_with fail
      go_region_held3 (fun w' => w'.cell? ⟨q.T, 0, none⟩ = some (.pointer (some ⟨p.M, 0, none⟩)) ∧ w'.cell? ⟨q.T, 1, none⟩ = some (.int .i64 t1.pos))
        (first | (with_reducible exact K1) | (with_reducible exact K9)) ((go_at_call 53; refine HWr.mono ?_; rintro e w9 ⟨rfl, p9, tag9, hM9, hP9, hS9⟩; have hq9 := (HM8.out.s.later (Below.refl _ _).drew).other hS9 (fun e => ho e.symm); have K9 : w9.cell? ⟨q.T, 0, none⟩ = some (.pointer (some ⟨p.M, 0, none⟩)) ∧ w9.cell? ⟨q.T, 1, none⟩ = some (.int .i64 t1.pos) := ⟨hq9.t0, hq9.t1⟩; have HQ9 : Hid (MSt w9 tag9 base o' p.M s.n t1 q) := hq9; have HP9 : Hid (MD w9 tag9 base o s9 p9) := hP9; have HS9 : Hid (Step tag8 tag9 base o w8.drew w9) := hS9; clear hP9 hS9 hq9))
      have HV9 : Hid (Held w9 tag9 (.slice va b.length vc) b) := (HM8.out.v.grow (Below.refl _ _).drew (fun _ _ => rfl)).step HS9.out ho1
      have HSt9 : Hid (Step2 tag tag9 base o o' w w9) := (HM8.out.st.trans ((step_below tag8 base o HW8.out (Below.refl _ _).drew).two1 o')).trans (HS9.out.two1 o')
      clear K1 K9 HWr HM8 HW8 HS9 c0 c1
      rcases hE with rfl | rfl
      case inr =>
        rw [if_neg (by decide)] at HAT
        have HNx := rnext_ok w9 tag9 base o' p.M s.n t1.pos t1.used (bodies t1) (cntL t1.recs s.n) q HQ9.out (by omega)
        go_wp2_with fail
        refine HNx.mono ?_
        rintro e w10 ⟨rfl, hq10, hS10⟩
        have HPost : Hid (RAppPost w tag base o o' s p.M t q.T b w10) := ⟨p9, q, tag9, hM9, rfl, by rw [HAS.out]; exact HP9.out.other hS10 ho, by rw [HAT.out]; exact hq10, HSt9.out.trans (hS10.two2 o)⟩
        clear HNx hq10 hS10 HQ9 HP9 HSt9 HV9
        go_wp2
        go_ret
        exact ⟨by rw [HAE.out]; rfl, HPost.out⟩
      rw [if_pos rfl] at HAT
      have HBas9 : Hid (base ≤ w9.heap.size) := Nat.le_trans HBA.out HSt9.out.below.size
      obtain ⟨g10, h10⟩ := HQ9.out.byte (t1.used + (b.length + 7))
      have e2 := HQ9.out.t2
      have f2 := HQ9.out.fT 2
      have HM10 : Hid (MS (w9.setCell ⟨q.T, 2, none⟩ (.int .i64 ((t1.used + (b.length + 7) : Nat) : Int))) tag9 base o' p.M s.n t1.pos (t1.used + (b.length + 7)) (bodies t1) (cntL t1.recs s.n) q ∧ Step tag9 tag9 base o' w9 (w9.setCell ⟨q.T, 2, none⟩ (.int .i64 ((t1.used + (b.length + 7) : Nat) : Int)))) := ⟨g10, h10⟩
      obtain ⟨w10, hw10⟩ : ∃ w10, w10 = w9.setCell ⟨q.T, 2, none⟩ (.int .i64 ((t1.used + (b.length + 7) : Nat) : Int)) := ⟨_, rfl⟩
      rw [← hw10] at HM10
      have HW10 : Hid (w9.setCell ⟨q.T, 2, none⟩ (.int .i64 ((t1.used : Int) + ((b.length : Int) + 7))) = w10) := by show _ = _; rw [hw10]; rfl
      clear g10 h10 hw10
      go_wp2_with fail
      rw [HW10.out]
      clear HW10 e2 f2
      have d1 := HM10.out.1.t1
      have d4 := HM10.out.1.t4
      have di := HM10.out.1.i t1.pos (by omega)
      have dfi := HM10.out.1.fI t1.pos
      have hcc : 0 ≤ (cntL t1.recs s.n).getD t1.pos 0 ∧ (cntL t1.recs s.n).getD t1.pos 0 ≤ 900000 := by
        rw [cntL_get _ _ _ (by omega)]
        have := List.countP_le_length (p := fun x : Nat × List Int => x.1 == t1.pos) (l := t1.recs)
        rw [hf3] at this ⊢
        omega
      obtain ⟨hcc0, hcc1⟩ := hcc
      obtain ⟨g11, h11⟩ := HM10.out.1.count t1.pos ((cntL t1.recs s.n).getD t1.pos 0 + 1)
      rw [← cntL_snoc t1.recs s.n t1.pos b (by omega)] at g11
      have HM11 : Hid (MS (w10.setCell ⟨q.I, t1.pos, none⟩ (.int .i64 ((cntL t1.recs s.n).getD t1.pos 0 + 1))) tag9 base o' p.M s.n t1.pos (t1.used + (b.length + 7)) (bodies t1) (cntL (t1.recs ++ [(t1.pos, b)]) s.n) q ∧ Step tag9 tag9 base o' w9 (w10.setCell ⟨q.I, t1.pos, none⟩ (.int .i64 ((cntL t1.recs s.n).getD t1.pos 0 + 1)))) := ⟨g11, HM10.out.2.trans h11⟩
      have hposn : (t1.pos : Int) < (s.n : Int) := by omega
      generalize (cntL t1.recs s.n).getD t1.pos 0 = C at *
      clear g11 h11 HM10
      go_wp2_with fail
      go_region
      all_goals
        have hq12 := HM11.out.1.later (Below.refl _ _).drew
        have HS12 := HM11.out.2.drewN 1
        obtain ⟨w12, hw12⟩ : ∃ w12, w12 = (w10.setCell ⟨q.I, t1.pos, none⟩ (.int .i64 (C + 1))).drew := ⟨_, rfl⟩
        rw [← hw12] at hq12 ⊢
        have hS12 : Step tag9 tag9 base o' w9 w12 := by rw [hw12]; exact HS12
        have HV12 : Hid (Held w12 tag9 (.slice va b.length vc) b) := HV9.out.step hS12 ho2
        have HP12 : Hid (MD w12 tag9 base o s9 p9) := HP9.out.other hS12 ho
        have HSt12 : Hid (Step2 tag tag9 base o o' w w12) := HSt9.out.trans (hS12.two2 o)
        have HBas12 : Hid (base ≤ w12.heap.size) := Nat.le_trans HBas9.out hS12.below.size
        clear HM11 HS12 hS12 hw12 HV9 HP9 HSt9 HBas9 HQ9 d1 d4 di dfi hcc0 hcc1 hposn
        have hB12 : Below w12.heap.size w12 w12.drew := (Below.refl _ _).drew
        have HC := copy_bts w12.drew _ b (HV12.out.1.later hB12) (by omega)
        have d3 := hq12.t3
        have hTlt12 : q.T < w12.heap.size := hq12.bT.lt
        obtain ⟨ra, rc, hrv⟩ := win_shape hq12.wL
        have hbl : (bodies t1).length ≤ 900000 := by rw [bodies_len, hf3]; exact hrec
        have HRV : Hid (q.lv = .slice ra (bodies t1).length rc) := hrv
        have HAP : Hid (∀ w14 ua uc, Owns w14 w12.heap.size (.slice ua b.length uc) b → Below w12.heap.size w12.drew w14 → ∀ v' w16, (w14.alloc (.cells #[.slice ua b.length uc] 23)).grownBy w16 (Value.slice ra (bodies t1).length rc).ownBlock → (v'.ownBlock = (Value.slice ra (bodies t1).length rc).ownBlock ∨ v'.ownBlock = some (w14.alloc (.cells #[.slice ua b.length uc] 23)).heap.size) →
            Win w16 1 v' ((bodies t1).length + 1) (q.vs ++ [.slice ua b.length uc]) → RAppPost w tag base o o' s p.M t q.T b (w16.setCell ⟨q.T, 3, none⟩ v') ∧ w16.cell? ⟨q.T, 3, none⟩ = some q.lv ∧ w16.frozen? ⟨q.T, 3, none⟩ = false) := by
          intro w14 ua uc hO hB14 v' w16 hg ha hw
          have hB1214 : Below w12.heap.size w12 w14 := hB12.trans hB14
          have hS14 := step_over tag9 base o' (16 * o' + 9) HBas12.out hB1214
          have hq14 := hq12.keep (w' := w14) (tag' := tagOver tag9 w12.heap.size (16 * o' + 9)) (fun k hk _ => hB1214.block k hk) hS14.tags hB1214.size
          rw [← HRV.out] at hg ha
          obtain ⟨tag', e1, e2, _⟩ := hq14.pushed (Nat.le_trans HBas12.out hB1214.size) (below_alloc w14 (.cells #[.slice ua b.length uc] 23)) b _ v' (hO.bts hbb)
            (fun g hg' => ⟨tagOver_ge _ _ _ _ (hO.lt g hg').1, Nat.le_trans HBas12.out (hO.lt g hg').1, (hO.lt g hg').2⟩) hg ha hw
          have hSall := (HSt12.out.trans (hS14.two2 o)).trans (e2.two2 o)
          have hne : q.lv.ownBlock ≠ some q.T := fun e => by have := (hq14.tL _ e).1; rw [hq14.tT.1] at this; omega
          have hblk : Blk w16 q.T _ := hq14.bT.same ((hg.block q.T (by simp; have := hq14.bT.lt; omega) (fun e => hne e.symm)).trans ((below_alloc w14 _).block q.T hq14.bT.lt))
          refine ⟨⟨p9, ⟨q.T, v', q.vs ++ [.slice ua b.length uc], q.I⟩, tag', hM9, rfl, ?_, ?_, hSall⟩, hblk.cell 3, hblk.frozen 3⟩
          · rw [HAS.out]
            exact (HP12.out.other hS14 ho).other e2 ho
          · rw [HAT.out]
            have hbod : bodies (t1.added b) = bodies t1 ++ [b] := by simp [bodies, Sd.added]
            show MS _ _ _ _ _ _ _ _ (bodies (t1.added b)) _ _
            rw [hbod]
            exact e1
        have HWn : Hid (∀ w14, Below w12.heap.size w12.drew w14 → Win w14 1 (.slice ra (bodies t1).length rc) (bodies t1).length q.vs) := by
          intro w14 hB14
          rw [← HRV.out]
          exact (hq12.wL.later hB12).later hB14
        rw [hrv] at d3 HAP
        obtain ⟨i0, hi, hz0, hz1, hz2⟩ := info_parts infoB
        generalize (bodies t1).length = rn at *
        clear hrv hq12 HV12 HP12 HSt12 HBas12 HRV
        go_wp2_with fail
        go_region_law (first
          | (refine step_call1 rfl 18 (.tmp 152) 23 rfl (.slice va b.length vc) (by go_simp) enters_copy (by with_reducible exact HC) ?_; rintro e w14 ⟨u, rfl, hO, hB14⟩; refine ⟨_, rfl, ?_⟩; obtain ⟨ua, uc, rfl, _⟩ := bts_src (hO.bts hbb); have d3' := cell_later (hB12.trans hB14) d3; have hsz14 : q.T < w14.heap.size := Nat.lt_of_lt_of_le hTlt12 hB14.size; have hwn14 := HWn.out w14 hB14)
          | (refine step_win_append rfl (.tmp 151) (.tmp 154) 40 rfl 23 i0 (.slice none 0 0) 1 24 Try.underlying40 hi hz0 hz1 hz2 rfl (by decide) (.slice ra rn rc) rn q.vs (by rfl) (by exact hwn14.later (below_alloc w14 _)) ⟨w14.heap.size, 0, none⟩ 1 1 [.slice ua b.length uc] (by rfl) rfl (by exact news_new w14 #[.slice ua b.length uc] 23) (by intro u hu; simp at hu; subst hu; rfl) (by unfold maxLen; omega) (by omega) ?_; intro v' w16 hwin hgrow hat; obtain ⟨va', vc', hvv⟩ := win_shape hwin; subst hvv; obtain ⟨hAP, g4, g5⟩ := HAP.out w14 ua uc hO hB14 _ w16 hgrow hat hwin))
        all_goals
          go_wp2
          go_ret
          exact ⟨by rw [HAE.out]; rfl, hAP⟩
  · have hfitI : ¬ (64 : Int) < (t.used : Int) + ((b.length : Int) + 7) := by omega
    have HT1 : Hid (t.fit b = t) := by show _ = _; unfold Sd.fit; rw [if_neg hfit]
    go_wp2_with fail
    go_quiet (fail)
    rename Nat => nq1
    have HM3 : Hid (RMd8 w (w1.drewN nq1) tag tag1 base o o' s p (t.fit b) q (.slice va b.length vc) b (.slice fa (b.length + 7) fc)) := by
      show RMd8 _ _ _ _ _ _ _ _ _ _ _ _ _ _
      rw [HT1.out]; exact HM1.out.later (below_drewN w1 nq1) (HM1.out.low HBA.out)
    generalize w1.drewN nq1 = w3 at *
    clear e0 e1 e2 em HM1 HT1 hd
    generalize ht1 : t.fit b = t1 at *
    have HBB : Hid (base ≤ w3.heap.size) := HM3.out.low HBA.out
    have k0 := HM3.out.s.t0
    have k1 := HM3.out.s.t1
    have km := HM3.out.d.m0
    go_wp2_with fail
    by_cases hfl1 : s.n ≤ t1.pos
    · have hflI : (s.n : Int) ≤ (t1.pos : Int) := by omega
      have HPost : Hid (∀ nq, RAppPost w tag base o o' s p.M t q.T b (w3.drewN nq)) := fun nq => ⟨p, q, tag1, rfl, rfl, by rw [HAS.out, if_pos hfl1]; exact (HM3.out.later (below_drewN w3 nq) HBB.out).d, by rw [HAT.out, if_pos hfl1]; exact (HM3.out.later (below_drewN w3 nq) HBB.out).s, (HM3.out.later (below_drewN w3 nq) HBB.out).st⟩
      have HE6 : Hid (appE s t b = 6) := by show _ = _; rw [HAE.out, if_pos hfl1]
      go_quiet (fail)
      rename Nat => nq2
      go_wp2
      go_ret
      exact ⟨by rw [HE6.out]; rfl, HPost.out _⟩
    have hflI : ¬ (s.n : Int) ≤ (t1.pos : Int) := by omega
    rw [if_neg hfl1] at HAE HAS HAT
    go_quiet (fail)
    rename Nat => nq2
    have HM4 : Hid (RMd8 w (w3.drewN nq2) tag tag1 base o o' s p t1 q (.slice va b.length vc) b (.slice fa (b.length + 7) fc)) := HM3.out.later (below_drewN w3 nq2) HBB.out
    have HB4 : Hid (base ≤ (w3.drewN nq2).heap.size) := HBB.out
    generalize w3.drewN nq2 = w4 at *
    clear k0 k1 km HM3 HBB
    have HSd : Hid (Below w4.heap.size w4 w4.drew) := (Below.refl _ _).drew
    have c0 := HM4.out.s.t0
    have c1 := HM4.out.s.t1
    have K1 : w4.drew.cell? ⟨q.T, 0, none⟩ = some (.pointer (some ⟨p.M, 0, none⟩)) ∧ w4.drew.cell? ⟨q.T, 1, none⟩ = some (.int .i64 t1.pos) := ⟨c0, c1⟩
    have HRd := rread_ok w4.drew tag1 base o s p (HM4.out.d.later HSd.out) t1.pos (by omega)
    have HK2 : Hid (∀ wx, Below w4.drew.heap.size w4.drew wx → wx.cell? ⟨q.T, 0, none⟩ = some (.pointer (some ⟨p.M, 0, none⟩)) ∧ wx.cell? ⟨q.T, 1, none⟩ = some (.int .i64 t1.pos)) := fun wx hx => ⟨cell_later hx c0, cell_later hx c1⟩
    have hsb := sec_bytes HPD.out.ok.nb t1.pos
    have HSL : Hid ((sec s.now t1.pos).length = 64) := sec_len HPD.out.ok.nl (by omega)
    go_wp2_with fail
    go_region_held3 (fun w' => w'.cell? ⟨q.T, 0, none⟩ = some (.pointer (some ⟨p.M, 0, none⟩)) ∧ w'.cell? ⟨q.T, 1, none⟩ = some (.int .i64 t1.pos))
      (first | (with_reducible exact K1) | (with_reducible exact K2)) ((go_at_call 50; refine HRd.mono ?_; rintro e w5 ⟨v5, rfl, hO5, hB5⟩; have K2 := HK2.out w5 hB5))
    have HBt5 : Hid (Bts w5 v5 (sec s.now t1.pos)) := hO5.bts hsb
    obtain ⟨sa, sc', hv5, hsc1, hsc2, _⟩ := bts_src HBt5.out
    rw [HSL.out] at hv5 hsc1
    subst hv5
    unfold maxLen at hsc2
    have HM5 : Hid (RMd8 w w5 tag tag1 base o o' s p t1 q (.slice va b.length vc) b (.slice fa (b.length + 7) fc)) := HM4.out.later (HSd.out.trans hB5) HB4.out
    have HB5 : Hid (base ≤ w5.heap.size) := Nat.le_trans HB4.out (HSd.out.trans hB5).size
    clear K1 K2 HK2 HRd hO5 hB5 HM4 HB4 HSd c0 c1
    generalize hSC : sec s.now t1.pos = sC at *
    clear hSC
    have hfc := bts_src HM5.out.f.1
    obtain ⟨fa', fc', hfv', hf11, hf12, _⟩ := hfc
    rw [HFL.out] at hfv' hf11
    injection hfv' with hfe1 _ hfe2
    subst hfe1; subst hfe2
    unfold maxLen at hf12
    obtain ⟨RB, RO, rfl, hRc⟩ := bts_cells HBt5.out HSL.out (by omega)
    obtain ⟨FB, FO, rfl, hFc⟩ := bts_cells HM5.out.f.1 HFL.out (by omega)
    have HRc : Hid (∀ i, i < 64 → w5.cell? ⟨RB, RO + i, none⟩ = some (.int .u8 (sC.getD i 0))) := hRc
    have HFc : Hid (∀ i, i < b.length + 7 → w5.cell? ⟨FB, FO + i, none⟩ = some (.int .u8 ((frameB b).getD i 0))) := hFc
    have c2 := HM5.out.s.t2
    have hLb := withB_bytes sC t1.used (frameB b) hsb (frameB_bytes b hbb hb2)
    have HLl : Hid ((withB sC t1.used (frameB b)).length = 64) := withB_len _ _ _ HSL.out (by rw [HFL.out]; omega)
    have HLg : Hid (∀ i, i < 64 → (withB sC t1.used (frameB b)).getD i 0 = if i < t1.used then sC.getD i 0 else if i < t1.used + (b.length + 7) then (frameB b).getD (i - t1.used) 0 else 0) := fun i hi => by
      have := withB_get sC (frameB b) t1.used i HSL.out (by rw [HFL.out]; omega)
      rwa [HFL.out] at this
    generalize withB sC t1.used (frameB b) = L at *
    clear hRc hFc hpos hposI hflI
    go_wp2
    go_loopg [9, 10] 64 (fun gk v i wr => ∃ k : Nat, k + gk = 64 ∧ i = .int .i64 k ∧ Owns wr w5.heap.size v (L.take k) ∧ Below w5.heap.size w5 wr)
    case atStart => exact ⟨0, by omega, rfl, by rw [List.take_zero]; exact World.ownsRow_nil _ _ _ _, Below.refl _ _⟩
    case round =>
      obtain ⟨w8, rfl⟩ : ∃ w8, w8 = wr := ⟨wr, rfl⟩
      obtain ⟨k, hk, rfl, hO, hB8⟩ := hrel
      by_cases hk64 : k < 64
      case pos =>
        have hkI : (k : Int) < 64 := by omega
        have d2 := cell_later hB8 c2
        have HTk : Hid (L.take (k + 1) = L.take k ++ [L.getD k 0]) := take_snoc L k (by rw [HLl.out]; exact hk64)
        have hLg := HLg.out k hk64
        have hlt : (L.take k).length ≤ 64 := by rw [List.length_take]; omega
        obtain ⟨vv, w9, hr, hO9, hB9⟩ := append_one w8 w5.heap.size _ (L.take k) (L.getD k 0) hO hB8.size (by omega)
        rw [← HTk.out] at hO9
        have HR9 : Hid (Owns w9 w5.heap.size vv (L.take (k + 1)) ∧ Below w5.heap.size w5 w9) := ⟨hO9, hB8.trans hB9⟩
        by_cases hA : k < t1.used
        · rw [if_pos hA] at hLg
          rw [hLg] at hr
          have hAI : (k : Int) < (t1.used : Int) := by omega
          have dc := cell_later hB8 (HRc.out k hk64)
          clear hO9 hB9 hLg
          generalize sC.getD k 0 = c at *
          go_wp2_with (at_builtin; refine wpl_append_run rfl _ _ 23 rfl _ _ rfl rfl hr ?_)
          go_roundg (64 - (k + 1))
          case rel => exact ⟨k + 1, by omega, by go_num, HR9.out⟩
          case measure => omega
        · rw [if_neg hA] at hLg
          have hAI : ¬ (k : Int) < (t1.used : Int) := by omega
          by_cases hA2 : k < t1.used + (b.length + 7)
          · rw [if_pos hA2] at hLg
            rw [hLg] at hr
            have hA2I : (k : Int) < (t1.used : Int) + ((b.length : Int) + 7) := by omega
            have dc := cell_later hB8 (HFc.out (k - t1.used) (by omega))
            obtain ⟨m, hm⟩ : ∃ m, m = k - t1.used := ⟨_, rfl⟩
            rw [← hm] at dc hr
            have hmI : (k : Int) - (t1.used : Int) = (m : Int) := by omega
            have hm63 : m < b.length + 7 := by omega
            have hm63I : (m : Int) < (b.length : Int) + 7 := by omega
            have HmI : Hid ((k : Int) - (t1.used : Int) = (m : Int)) := hmI
            clear hO9 hB9 hLg hm
            generalize (frameB b).getD m 0 = c at *
            go_wp2_with (at_builtin; refine wpl_append_run rfl _ _ 23 rfl _ _ rfl rfl hr ?_)
            go_roundg (64 - (k + 1))
            case rel => exact ⟨k + 1, by omega, by go_num, HR9.out⟩
            case measure => omega
          · rw [if_neg hA2] at hLg
            rw [hLg] at hr
            have hA2I : ¬ (k : Int) < (t1.used : Int) + ((b.length : Int) + 7) := by omega
            clear hO9 hB9 hLg
            go_wp2_with (at_builtin; refine wpl_append_run rfl _ _ 23 rfl _ _ rfl rfl hr ?_)
            go_roundg (64 - (k + 1))
            case rel => exact ⟨k + 1, by omega, by go_num, HR9.out⟩
            case measure => omega
      have hge : ¬ (k : Int) < 64 := by omega
      rw [List.take_of_length_le (by rw [HLl.out]; omega)] at hO
      have HM8 : Hid (RMd8 w w8 tag (clip tag1 w5.heap.size) base o o' s p t1 q (.slice va b.length vc) b (.slice (some ⟨FB, FO, none⟩) (b.length + 7) fc)) := HM5.out.clip hB8 HB5.out
      have HW8 : Hid (base ≤ w8.heap.size) := Nat.le_trans HB5.out hB8.size
      have hbt8 := hO.bts hLb
      have hfar := hO.tag0 tag1 o ho1
      obtain ⟨ua8, uc8, hv8, _⟩ := bts_src hbt8
      rw [HLl.out] at hv8
      subst hv8
      generalize clip tag1 w5.heap.size = tag8 at *
      have HSd : Below w8.heap.size w8 w8.drew := (Below.refl _ _).drew
      have HWr := rwrite_okI w8.drew tag8 base o s p (HM8.out.d.later HSd) HW8.out t1.pos (by omega) _ L (hbt8.later HSd) HLl.out hfar hops hout hsin
      have c0 := HM8.out.s.t0
      have c1 := HM8.out.s.t1
      have K1 : w8.drew.cell? ⟨q.T, 0, none⟩ = some (.pointer (some ⟨p.M, 0, none⟩)) ∧ w8.drew.cell? ⟨q.T, 1, none⟩ = some (.int .i64 t1.pos) := ⟨c0, c1⟩
      have hE := err_cases s.out
      clear hO hB8 hbt8 hfar HSd HRc HFc HLg c2 HBt5 HSL HM5 HB5
      generalize s.write t1.pos L = s9 at *
      generalize errC s.out = E at *
      go_wp2_with fail
      go_region_held3 (fun w' => w'.cell? ⟨q.T, 0, none⟩ = some (.pointer (some ⟨p.M, 0, none⟩)) ∧ w'.cell? ⟨q.T, 1, none⟩ = some (.int .i64 t1.pos))
        (first | (with_reducible exact K1) | (with_reducible exact K9)) ((go_at_call 53; refine HWr.mono ?_; rintro e w9 ⟨rfl, p9, tag9, hM9, hP9, hS9⟩; have hq9 := (HM8.out.s.later (Below.refl _ _).drew).other hS9 (fun e => ho e.symm); have K9 : w9.cell? ⟨q.T, 0, none⟩ = some (.pointer (some ⟨p.M, 0, none⟩)) ∧ w9.cell? ⟨q.T, 1, none⟩ = some (.int .i64 t1.pos) := ⟨hq9.t0, hq9.t1⟩; have HQ9 : Hid (MSt w9 tag9 base o' p.M s.n t1 q) := hq9; have HP9 : Hid (MD w9 tag9 base o s9 p9) := hP9; have HS9 : Hid (Step tag8 tag9 base o w8.drew w9) := hS9; clear hP9 hS9 hq9))
      have HV9 : Hid (Held w9 tag9 (.slice va b.length vc) b) := (HM8.out.v.grow (Below.refl _ _).drew (fun _ _ => rfl)).step HS9.out ho1
      have HSt9 : Hid (Step2 tag tag9 base o o' w w9) := (HM8.out.st.trans ((step_below tag8 base o HW8.out (Below.refl _ _).drew).two1 o')).trans (HS9.out.two1 o')
      clear K1 K9 HWr HM8 HW8 HS9 c0 c1
      rcases hE with rfl | rfl
      case inr =>
        rw [if_neg (by decide)] at HAT
        have HNx := rnext_ok w9 tag9 base o' p.M s.n t1.pos t1.used (bodies t1) (cntL t1.recs s.n) q HQ9.out (by omega)
        go_wp2_with fail
        refine HNx.mono ?_
        rintro e w10 ⟨rfl, hq10, hS10⟩
        have HPost : Hid (RAppPost w tag base o o' s p.M t q.T b w10) := ⟨p9, q, tag9, hM9, rfl, by rw [HAS.out]; exact HP9.out.other hS10 ho, by rw [HAT.out]; exact hq10, HSt9.out.trans (hS10.two2 o)⟩
        clear HNx hq10 hS10 HQ9 HP9 HSt9 HV9
        go_wp2
        go_ret
        exact ⟨by rw [HAE.out]; rfl, HPost.out⟩
      rw [if_pos rfl] at HAT
      have HBas9 : Hid (base ≤ w9.heap.size) := Nat.le_trans HBA.out HSt9.out.below.size
      obtain ⟨g10, h10⟩ := HQ9.out.byte (t1.used + (b.length + 7))
      have e2 := HQ9.out.t2
      have f2 := HQ9.out.fT 2
      have HM10 : Hid (MS (w9.setCell ⟨q.T, 2, none⟩ (.int .i64 ((t1.used + (b.length + 7) : Nat) : Int))) tag9 base o' p.M s.n t1.pos (t1.used + (b.length + 7)) (bodies t1) (cntL t1.recs s.n) q ∧ Step tag9 tag9 base o' w9 (w9.setCell ⟨q.T, 2, none⟩ (.int .i64 ((t1.used + (b.length + 7) : Nat) : Int)))) := ⟨g10, h10⟩
      obtain ⟨w10, hw10⟩ : ∃ w10, w10 = w9.setCell ⟨q.T, 2, none⟩ (.int .i64 ((t1.used + (b.length + 7) : Nat) : Int)) := ⟨_, rfl⟩
      rw [← hw10] at HM10
      have HW10 : Hid (w9.setCell ⟨q.T, 2, none⟩ (.int .i64 ((t1.used : Int) + ((b.length : Int) + 7))) = w10) := by show _ = _; rw [hw10]; rfl
      clear g10 h10 hw10
      go_wp2_with fail
      rw [HW10.out]
      clear HW10 e2 f2
      have d1 := HM10.out.1.t1
      have d4 := HM10.out.1.t4
      have di := HM10.out.1.i t1.pos (by omega)
      have dfi := HM10.out.1.fI t1.pos
      have hcc : 0 ≤ (cntL t1.recs s.n).getD t1.pos 0 ∧ (cntL t1.recs s.n).getD t1.pos 0 ≤ 900000 := by
        rw [cntL_get _ _ _ (by omega)]
        have := List.countP_le_length (p := fun x : Nat × List Int => x.1 == t1.pos) (l := t1.recs)
        rw [hf3] at this ⊢
        omega
      obtain ⟨hcc0, hcc1⟩ := hcc
      obtain ⟨g11, h11⟩ := HM10.out.1.count t1.pos ((cntL t1.recs s.n).getD t1.pos 0 + 1)
      rw [← cntL_snoc t1.recs s.n t1.pos b (by omega)] at g11
      have HM11 : Hid (MS (w10.setCell ⟨q.I, t1.pos, none⟩ (.int .i64 ((cntL t1.recs s.n).getD t1.pos 0 + 1))) tag9 base o' p.M s.n t1.pos (t1.used + (b.length + 7)) (bodies t1) (cntL (t1.recs ++ [(t1.pos, b)]) s.n) q ∧ Step tag9 tag9 base o' w9 (w10.setCell ⟨q.I, t1.pos, none⟩ (.int .i64 ((cntL t1.recs s.n).getD t1.pos 0 + 1)))) := ⟨g11, HM10.out.2.trans h11⟩
      have hposn : (t1.pos : Int) < (s.n : Int) := by omega
      generalize (cntL t1.recs s.n).getD t1.pos 0 = C at *
      clear g11 h11 HM10
      go_wp2_with fail
      go_region
      all_goals
        have hq12 := HM11.out.1.later (Below.refl _ _).drew
        have HS12 := HM11.out.2.drewN 1
        obtain ⟨w12, hw12⟩ : ∃ w12, w12 = (w10.setCell ⟨q.I, t1.pos, none⟩ (.int .i64 (C + 1))).drew := ⟨_, rfl⟩
        rw [← hw12] at hq12 ⊢
        have hS12 : Step tag9 tag9 base o' w9 w12 := by rw [hw12]; exact HS12
        have HV12 : Hid (Held w12 tag9 (.slice va b.length vc) b) := HV9.out.step hS12 ho2
        have HP12 : Hid (MD w12 tag9 base o s9 p9) := HP9.out.other hS12 ho
        have HSt12 : Hid (Step2 tag tag9 base o o' w w12) := HSt9.out.trans (hS12.two2 o)
        have HBas12 : Hid (base ≤ w12.heap.size) := Nat.le_trans HBas9.out hS12.below.size
        clear HM11 HS12 hS12 hw12 HV9 HP9 HSt9 HBas9 HQ9 d1 d4 di dfi hcc0 hcc1 hposn
        have hB12 : Below w12.heap.size w12 w12.drew := (Below.refl _ _).drew
        have HC := copy_bts w12.drew _ b (HV12.out.1.later hB12) (by omega)
        have d3 := hq12.t3
        have hTlt12 : q.T < w12.heap.size := hq12.bT.lt
        obtain ⟨ra, rc, hrv⟩ := win_shape hq12.wL
        have hbl : (bodies t1).length ≤ 900000 := by rw [bodies_len, hf3]; exact hrec
        have HRV : Hid (q.lv = .slice ra (bodies t1).length rc) := hrv
        have HAP : Hid (∀ w14 ua uc, Owns w14 w12.heap.size (.slice ua b.length uc) b → Below w12.heap.size w12.drew w14 → ∀ v' w16, (w14.alloc (.cells #[.slice ua b.length uc] 23)).grownBy w16 (Value.slice ra (bodies t1).length rc).ownBlock → (v'.ownBlock = (Value.slice ra (bodies t1).length rc).ownBlock ∨ v'.ownBlock = some (w14.alloc (.cells #[.slice ua b.length uc] 23)).heap.size) →
            Win w16 1 v' ((bodies t1).length + 1) (q.vs ++ [.slice ua b.length uc]) → RAppPost w tag base o o' s p.M t q.T b (w16.setCell ⟨q.T, 3, none⟩ v') ∧ w16.cell? ⟨q.T, 3, none⟩ = some q.lv ∧ w16.frozen? ⟨q.T, 3, none⟩ = false) := by
          intro w14 ua uc hO hB14 v' w16 hg ha hw
          have hB1214 : Below w12.heap.size w12 w14 := hB12.trans hB14
          have hS14 := step_over tag9 base o' (16 * o' + 9) HBas12.out hB1214
          have hq14 := hq12.keep (w' := w14) (tag' := tagOver tag9 w12.heap.size (16 * o' + 9)) (fun k hk _ => hB1214.block k hk) hS14.tags hB1214.size
          rw [← HRV.out] at hg ha
          obtain ⟨tag', e1, e2, _⟩ := hq14.pushed (Nat.le_trans HBas12.out hB1214.size) (below_alloc w14 (.cells #[.slice ua b.length uc] 23)) b _ v' (hO.bts hbb)
            (fun g hg' => ⟨tagOver_ge _ _ _ _ (hO.lt g hg').1, Nat.le_trans HBas12.out (hO.lt g hg').1, (hO.lt g hg').2⟩) hg ha hw
          have hSall := (HSt12.out.trans (hS14.two2 o)).trans (e2.two2 o)
          have hne : q.lv.ownBlock ≠ some q.T := fun e => by have := (hq14.tL _ e).1; rw [hq14.tT.1] at this; omega
          have hblk : Blk w16 q.T _ := hq14.bT.same ((hg.block q.T (by simp; have := hq14.bT.lt; omega) (fun e => hne e.symm)).trans ((below_alloc w14 _).block q.T hq14.bT.lt))
          refine ⟨⟨p9, ⟨q.T, v', q.vs ++ [.slice ua b.length uc], q.I⟩, tag', hM9, rfl, ?_, ?_, hSall⟩, hblk.cell 3, hblk.frozen 3⟩
          · rw [HAS.out]
            exact (HP12.out.other hS14 ho).other e2 ho
          · rw [HAT.out]
            have hbod : bodies (t1.added b) = bodies t1 ++ [b] := by simp [bodies, Sd.added]
            show MS _ _ _ _ _ _ _ _ (bodies (t1.added b)) _ _
            rw [hbod]
            exact e1
        have HWn : Hid (∀ w14, Below w12.heap.size w12.drew w14 → Win w14 1 (.slice ra (bodies t1).length rc) (bodies t1).length q.vs) := by
          intro w14 hB14
          rw [← HRV.out]
          exact (hq12.wL.later hB12).later hB14
        rw [hrv] at d3 HAP
        obtain ⟨i0, hi, hz0, hz1, hz2⟩ := info_parts infoB
        generalize (bodies t1).length = rn at *
        clear hrv hq12 HV12 HP12 HSt12 HBas12 HRV
        go_wp2_with fail
        go_region_law (first
          | (refine step_call1 rfl 18 (.tmp 152) 23 rfl (.slice va b.length vc) (by go_simp) enters_copy (by with_reducible exact HC) ?_; rintro e w14 ⟨u, rfl, hO, hB14⟩; refine ⟨_, rfl, ?_⟩; obtain ⟨ua, uc, rfl, _⟩ := bts_src (hO.bts hbb); have d3' := cell_later (hB12.trans hB14) d3; have hsz14 : q.T < w14.heap.size := Nat.lt_of_lt_of_le hTlt12 hB14.size; have hwn14 := HWn.out w14 hB14)
          | (refine step_win_append rfl (.tmp 151) (.tmp 154) 40 rfl 23 i0 (.slice none 0 0) 1 24 Try.underlying40 hi hz0 hz1 hz2 rfl (by decide) (.slice ra rn rc) rn q.vs (by rfl) (by exact hwn14.later (below_alloc w14 _)) ⟨w14.heap.size, 0, none⟩ 1 1 [.slice ua b.length uc] (by rfl) rfl (by exact news_new w14 #[.slice ua b.length uc] 23) (by intro u hu; simp at hu; subst hu; rfl) (by unfold maxLen; omega) (by omega) ?_; intro v' w16 hwin hgrow hat; obtain ⟨va', vc', hvv⟩ := win_shape hwin; subst hvv; obtain ⟨hAP, g4, g5⟩ := HAP.out w14 ua uc hO hB14 _ w16 hgrow hat hwin))
        all_goals
          go_wp2
          go_ret
          exact ⟨by rw [HAE.out]; rfl, hAP⟩

end Go.Proofs.Ytlgkndebhafliaa

namespace Go.Proofs.Ytlgkndebhafliaa
open Go.RowKit

def cntN (rs : List (Nat × List Int)) (i : Nat) : Nat := rs.countP fun x => x.1 == i
def segCi (rs : List (Nat × List Int)) (i j : Nat) : Nat := rs.countP fun x => x.1 / 16 == j && decide (x.1 < i)

theorem segCi_step (rs : List (Nat × List Int)) (i j : Nat) : segCi rs (i + 1) j = segCi rs i j + if i / 16 = j then cntN rs i else 0 := by
  unfold segCi cntN
  induction rs with
  | nil => simp
  | cons x rs ih =>
    rw [List.countP_cons, List.countP_cons, List.countP_cons, ih]
    by_cases h1 : x.1 = i
    · subst h1
      by_cases h2 : x.1 / 16 = j
      · simp [h2]; omega
      · simp [h2]
    · by_cases h2 : x.1 / 16 = j
      · by_cases h3 : x.1 < i
        · simp [h1, h2, h3, show x.1 < i + 1 by omega]; split <;> omega
        · simp [h1, h2, h3, show ¬ x.1 < i + 1 by omega]
      · simp [h1, h2]

theorem segCi_zero (rs : List (Nat × List Int)) (i j : Nat) (h : i ≤ 16 * j) : segCi rs i j = 0 := by
  unfold segCi
  rw [List.countP_eq_zero]
  intro x _
  simp
  omega

theorem segCi_all (rs : List (Nat × List Int)) (n j : Nat) (h : ∀ x ∈ rs, x.1 < n) : segCi rs n j = segC rs j := by
  unfold segCi segC
  apply List.countP_congr
  intro x hx
  have := h x hx
  simp [this]

def outI (rs : List (Nat × List Int)) (i : Nat) : List Int := (List.range ((i + 15) / 16)).map fun j => (segCi rs i j : Int)
def outP (rs : List (Nat × List Int)) (i : Nat) : List Int := if i % 16 = 0 then outI rs i ++ [0] else outI rs i

theorem outI_len (rs : List (Nat × List Int)) (i : Nat) : (outI rs i).length = (i + 15) / 16 := by simp [outI]
theorem outP_len (rs : List (Nat × List Int)) (i : Nat) : (outP rs i).length = i / 16 + 1 := by
  unfold outP
  split
  · rw [List.length_append, outI_len, List.length_singleton]; omega
  · rw [outI_len]; omega

theorem outI_get (rs : List (Nat × List Int)) (i j : Nat) (h : j < (i + 15) / 16) : (outI rs i).getD j 0 = segCi rs i j := by
  simp [outI, List.getD, h]

theorem outP_get (rs : List (Nat × List Int)) (i j : Nat) (h : j < i / 16 + 1) : (outP rs i).getD j 0 = segCi rs i j := by
  unfold outP
  split
  · rename_i h0
    by_cases hj : j < (i + 15) / 16
    · rw [getD_app_left _ _ _ (by rw [outI_len]; exact hj), outI_get _ _ _ hj]
    · rw [getD_app_right _ _ _ (by rw [outI_len]; omega), outI_len, segCi_zero _ _ _ (by omega), show j - (i + 15) / 16 = 0 by omega]
      rfl
  · rw [outI_get _ _ _ (by omega)]

theorem outI_step (rs : List (Nat × List Int)) (i : Nat) : (outP rs i).set (i / 16) ((outP rs i).getD (i / 16) 0 + (cntN rs i : Int)) = outI rs (i + 1) := by
  apply List.ext_getElem
  · rw [List.length_set, outP_len, outI_len]; omega
  · intro j h1 h2
    rw [List.length_set, outP_len] at h1
    rw [List.getElem_set]
    have e1 : (outI rs (i + 1))[j] = (segCi rs (i + 1) j : Int) := by simp [outI]
    have e2 : (outP rs i)[j]'(by rw [outP_len]; exact h1) = (segCi rs i j : Int) := by
      rw [← outP_get rs i j h1]; simp [List.getD, List.getElem?_eq_getElem (show j < (outP rs i).length by rw [outP_len]; exact h1)]
    rw [e1, segCi_step]
    by_cases e : i / 16 = j
    · rw [if_pos e, if_pos e, e, outP_get rs i j h1]; omega
    · rw [if_neg e, if_neg e, e2]; omega

def mostI (rs : List (Nat × List Int)) : Nat → Nat
  | 0 => 0
  | i + 1 => if 0 < cntN rs i then i / 16 + 1 else mostI rs i

theorem cnt_pos (rs : List (Nat × List Int)) (i : Nat) : 0 < cntN rs i ↔ ∃ x ∈ rs, x.1 = i := by
  unfold cntN
  rw [List.countP_pos_iff]
  simp

theorem most_bounds (rs : List (Nat × List Int)) : ∀ i, (∀ x ∈ rs, x.1 < i → x.1 / 16 + 1 ≤ mostI rs i) ∧ (mostI rs i = 0 ∨ ∃ x ∈ rs, x.1 < i ∧ x.1 / 16 + 1 = mostI rs i) ∧ mostI rs i ≤ (i + 15) / 16 := by
  intro i
  induction i with
  | zero => exact ⟨fun x _ h => by omega, .inl rfl, Nat.zero_le _⟩
  | succ i ih =>
    obtain ⟨h1, h2, h3⟩ := ih
    unfold mostI
    by_cases hc : 0 < cntN rs i
    · rw [if_pos hc]
      obtain ⟨x, hx, rfl⟩ := (cnt_pos rs i).1 hc
      exact ⟨fun y _ hy => by omega, .inr ⟨x, hx, by omega, rfl⟩, by omega⟩
    · rw [if_neg hc]
      refine ⟨fun x hx hlt => ?_, ?_, by omega⟩
      · by_cases e : x.1 = i
        · exact absurd ((cnt_pos rs i).2 ⟨x, hx, e⟩) hc
        · exact h1 x hx (by omega)
      · rcases h2 with h2 | ⟨x, hx, h4, h5⟩
        · exact .inl h2
        · exact .inr ⟨x, hx, by omega, h5⟩

theorem fold_le (rs : List (Nat × List Int)) (m : Nat) (h : ∀ x ∈ rs, x.1 / 16 + 1 ≤ m) : ∀ k, k ≤ m → rs.foldl (fun m x => max m (x.1 / 16 + 1)) k ≤ m := by
  induction rs with
  | nil => intro k hk; exact hk
  | cons x rs ih =>
    intro k hk
    have := h x (by simp)
    exact ih (fun y hy => h y (by simp [hy])) _ (by show max k (x.1 / 16 + 1) ≤ m; omega)

theorem most_all (rs : List (Nat × List Int)) (n : Nat) (h : ∀ x ∈ rs, x.1 < n) : mostI rs n = segM rs := by
  obtain ⟨h1, h2, _⟩ := most_bounds rs n
  have a : segM rs ≤ mostI rs n := fold_le rs _ (fun x hx => h1 x hx (h x hx)) 0 (Nat.zero_le _)
  rcases h2 with h2 | ⟨x, hx, _, h3⟩
  · omega
  · have := segM_ge rs 0 x hx
    unfold segM at a ⊢
    omega

theorem seg_all (rs : List (Nat × List Int)) (n : Nat) (h : ∀ x ∈ rs, x.1 < n) : (outI rs n).take (mostI rs n) = segL rs := by
  have hm := (most_bounds rs n).2.2
  rw [most_all rs n h] at hm ⊢
  unfold outI segL
  rw [← List.map_take, List.take_range, Nat.min_eq_left hm]
  apply List.map_congr_left
  intro j _
  rw [segCi_all rs n j h]

theorem cnt_le (rs : List (Nat × List Int)) (i : Nat) : cntN rs i ≤ rs.length := List.countP_le_length
theorem segCi_le (rs : List (Nat × List Int)) (i j : Nat) : segCi rs i j ≤ rs.length := List.countP_le_length

theorem cntL_cnt (rs : List (Nat × List Int)) (n k : Nat) (h : k < n) : (cntL rs n).getD k 0 = (cntN rs k : Int) := cntL_get rs n k h

end Go.Proofs.Ytlgkndebhafliaa

namespace Go.Proofs.Ytlgkndebhafliaa
open Go.RowKit
attribute [local go_sem ↓] Go.wp_at_zero Go.wp_at_succ

/-- A row of numbers, wherever it lies. -/
def WinI (w : World) (v : Value) (l : List Int) : Prop := Win w 1 v l.length (l.map (Value.int .i64))

theorem OwnI.win {w : World} {base : Nat} {v : Value} {l : List Int} (h : OwnI w base v l) : WinI w v l := win_of_owns h

theorem WinI.later {w w' : World} {v : Value} {l : List Int} (h : WinI w v l) (hb : Below w.heap.size w w') : WinI w' v l := Win.later h hb

theorem WinI.read {w : World} {v : Value} {l : List Int} (h : WinI w v l) (hne : 0 < l.length) : ∃ B O c, v = .slice (some ⟨B, O, none⟩) l.length c ∧ l.length ≤ c ∧ c ≤ maxLen ∧ ∀ i, i < l.length → w.cell? ⟨B, O + i, none⟩ = some (.int .i64 (l.getD i 0)) := by
  rcases h.2 with ⟨_, h0⟩ | ⟨B, O, c, cs, e, hb, h2, h3, h4, h5⟩
  · omega
  refine ⟨B, O, c, e, h2, h3, fun i hi => ?_⟩
  exact hb.range O (l.length * 1) i (.int .i64 (l.getD i 0)) (by rw [h5]; simp [List.getD, List.getElem?_eq_getElem hi])

set_option maxHeartbeats 4000000 in
theorem ints8_ok (w : World) (v v' : Value) (l : List Int) (h : WinI w v l) (h' : WinI w v' l) :
    Calls Try.prog 61 #[v, v'] w fun e w' => e = .returned (.bool true) ∧ ∃ nq, w' = w.drewN nq := by
  have H1 : Hid (WinI w v l) := h
  have H2 : Hid (WinI w v' l) := h'
  obtain ⟨av, cv, rfl⟩ := win_shape h
  obtain ⟨au, cu, rfl⟩ := win_shape h'
  clear h h'
  go_enter Try.func61, Try.ntmps61
  go_wp2
  go_loopg [5] l.length (fun gk i wr => ∃ (k nq : Nat), k + gk = l.length ∧ i = .int .i64 k ∧ wr = w.drewN nq)
  case atStart => exact ⟨0, 0, by omega, rfl, rfl⟩
  case round =>
    obtain ⟨k, nq, hk, rfl, rfl⟩ := hrel
    by_cases hlt : k < l.length
    case neg =>
      have hge : ¬ (k : Int) < (l.length : Int) := by omega
      go_wp2
      go_ret
      exact ⟨rfl, nq, rfl⟩
    have hltI : (k : Int) < (l.length : Int) := by omega
    obtain ⟨B1, O1, d1, e1, g1, g2, g3⟩ := H1.out.read (by omega)
    obtain ⟨B2, O2, d2, e2, f1, f2, f3⟩ := H2.out.read (by omega)
    injection e1 with e1a _ e1c
    injection e2 with e2a _ e2c
    subst e1a; subst e1c; subst e2a; subst e2c
    unfold maxLen at g2 f2
    have c1 := g3 k hlt
    have c2 := f3 k hlt
    have c1' : (w.drewN nq).cell? ⟨B1, O1 + k, none⟩ = some (.int .i64 (l.getD k 0)) := cell_later (below_drewN w nq) c1
    have c2' : (w.drewN nq).cell? ⟨B2, O2 + k, none⟩ = some (.int .i64 (l.getD k 0)) := cell_later (below_drewN w nq) c2
    obtain ⟨wx, hwx⟩ : ∃ x, x = w.drewN nq := ⟨_, rfl⟩
    rw [← hwx] at c1' c2' ⊢
    have HWX : Hid (wx = w.drewN nq) := hwx
    clear hwx c1 c2 g3 f3
    generalize l.getD k 0 = z at *
    go_wp2_with fail
    go_quiet (fail)
    rename_i nq2
    go_wp2
    go_roundg (l.length - (k + 1))
    case rel => exact ⟨k + 1, _, by omega, by go_num, by rw [HWX.out, World.drewN_drewN]⟩
    case measure => omega

theorem app_getD {α : Type} (l m : List α) (d : α) (i : Nat) : (l ++ m).getD i d = if i < l.length then l.getD i d else m.getD (i - l.length) d := by
  split
  · rename_i h; simp only [List.getD, List.getElem?_append_left h]
  · rename_i h; simp only [List.getD, List.getElem?_append_right (Nat.not_lt.1 h)]

/-- A row of slices behind another one. -/
theorem Lst.join {w w1 : World} {base : Nat} {v u : Value} {vs us : List Value} {ls ms : List (List Int)} (h : Lst w base v vs ls) (hB : Below w.heap.size w w1) (hu : Lst w1 w.heap.size u us ms) (hbase : base ≤ w.heap.size) (hn : ls.length + ms.length ≤ 1000000) :
    ∃ v' w3, (Builtin.append_ #[40, 40] 40 #[v, u]).run Try.prog w1 = .ok v' w3 ∧ Lst w3 base v' (vs ++ us) (ls ++ ms) ∧ w1.grownBy w3 v.ownBlock ∧ ∃ a c, v' = .slice a (ls.length + ms.length) c := by
  obtain ⟨i0, hi, hz0, hz1, hz2⟩ := info_parts infoB
  have hL := h.later hB
  obtain ⟨au, cu, rfl⟩ := win_shape hu.win
  have hvl : vs.length = ls.length := by have := h.win.1; omega
  have hul : us.length = ms.length := by have := hu.win.1; omega
  have hsrc : (∃ ad, au = some ad ∧ ∀ j x, us[j]? = some x → w1.cell? (ad.add j) = some x) ∨ ms.length = 0 := by
    by_cases h0 : ms.length = 0
    · exact .inr h0
    · left
      obtain ⟨B, O, c, e, _, _, hc⟩ := hu.read (by omega)
      injection e with ea _ ec
      subst ea
      refine ⟨_, rfl, fun j x hj => ?_⟩
      have hjl := (List.getElem?_eq_some_iff.1 hj).1
      rw [add_at, hc j (by omega)]
      simp [List.getD, hj]
  obtain ⟨v', w3, hr, hw, hgr, hat⟩ := win_append (P := Try.prog) w1 40 40 23 i0 (.slice none 0 0) 1 24 Try.underlying40 hi hz0 hz1 hz2 rfl (by decide) v ls.length vs hL.win
    au ms.length cu us (by omega) hsrc (by
      intro x hx
      obtain ⟨j, hj⟩ := List.getElem?_of_mem hx
      have hjl := (List.getElem?_eq_some_iff.1 hj).1
      have := hu.bts j (by omega)
      rw [List.getD, hj] at this
      exact one_of_bts this) (by unfold maxLen; omega) (by omega)
  have hs3 := hgr.size
  have hs1 := hB.size
  refine ⟨v', w3, hr, ?_, hgr, win_shape hw⟩
  have hkeep : ∀ (y : Value) (l : List Int), Bts w1 y l → (∀ g, y.ownBlock = some g → v.ownBlock ≠ some g) → Bts w3 y l := fun y l hy hne =>
    bts_same hy (fun g hg hlt => hgr.block g hlt (fun e => hne g hg e.symm))
  refine ⟨by rw [List.length_append]; exact hw, ?_, ?_, ?_⟩
  · intro g hg'
    rcases hat with e | e
    · rw [e] at hg'; exact h.blk g hg'
    · rw [e] at hg'; simp at hg'; omega
  · intro i hi
    rw [List.length_append] at hi
    rw [app_getD, app_getD, hvl]
    split
    · rename_i hil
      exact hkeep _ _ (hL.bts i hil) (fun g hg => (h.ent i hil g hg).2.2)
    · rename_i hil
      refine hkeep _ _ (hu.bts (i - ls.length) (by omega)) (fun g hg' e => ?_)
      have := h.win.lt g e
      have := (hu.ent (i - ls.length) (by omega) g hg').1
      omega
  · intro i hi g hg'
    rw [List.length_append] at hi
    rw [app_getD, hvl] at hg'
    split at hg'
    · rename_i hil
      obtain ⟨e1, e2, e3⟩ := h.ent i hil g hg'
      refine ⟨e1, by omega, ?_⟩
      rcases hat with e | e
      · rw [e]; exact e3
      · rw [e]; intro e'; simp at e'; omega
    · rename_i hil
      obtain ⟨e1, e2, e3⟩ := hu.ent (i - ls.length) (by omega) g hg'
      refine ⟨by omega, by omega, ?_⟩
      rcases hat with e | e
      · rw [e]; intro e'; have := h.win.lt g e'; omega
      · rw [e]; intro e'; simp at e'; omega

end Go.Proofs.Ytlgkndebhafliaa

namespace Go.Proofs.Ytlgkndebhafliaa
open Go.RowKit
attribute [local go_sem ↓] Go.wp_at_zero Go.wp_at_succ

/-- A row's beginning. -/
theorem own_take {w : World} {base g n cap : Nat} {l : List Int} (h : OwnI w base (.slice (some ⟨g, 0, none⟩) n cap) l) (hn : l.length = n) (m : Nat) (hm : m ≤ n) : WinI w (.slice (some ⟨g, 0, none⟩) m cap) (l.take m) := by
  unfold OwnI at h
  rw [hn] at h
  rcases h.2 with ⟨h0, _⟩ | ⟨g', cap', cur, e, _, hg, h1, h2, h3, h4⟩
  · cases h0
  · simp only [Value.slice.injEq, Option.some.injEq, Addr.mk.injEq, and_true, true_and] at e
    obtain ⟨rfl, rfl⟩ := e
    have hl : (l.take m).length = m := by rw [List.length_take]; omega
    unfold WinI
    rw [hl]
    refine ⟨by simp; omega, .inr ⟨g, 0, cap, cur.toList, rfl, ⟨3, by simpa using hg⟩, by omega, h2, by simp [h3], ?_⟩⟩
    rw [List.drop_zero, List.map_take, ← h4, List.take_take]
    congr 1
    omega

set_option maxHeartbeats 8000000 in
theorem rsegments_ok (w : World) (tag : Nat → Nat) (base o M n pos used : Nat) (bs : List (List Int)) (rs : List (Nat × List Int)) (q : TL) (h : MS w tag base o M n pos used bs (cntL rs n) q) (hn1 : 1 ≤ n) (hn : n ≤ 4096) (hr : ∀ x ∈ rs, x.1 < n) (hrec : rs.length ≤ 900000) :
    Calls Try.prog 63 #[.pointer (some ⟨q.T, 0, none⟩)] w fun e w' => ∃ v, e = .returned v ∧ WinI w' v (segL rs) ∧ Below w.heap.size w w' := by
  obtain ⟨i0, hi, hz0, hz1, hz2⟩ := info_parts info3
  have HQ : Hid (MS w tag base o M n pos used bs (cntL rs n) q) := h
  clear h
  go_enter Try.func63, Try.ntmps63
  go_wp2
  go_loopg [3, 4, 5] n (fun gk v mv iv wr => ∃ k : Nat, k + gk = n ∧ iv = .int .i64 k ∧ mv = .int .i64 (mostI rs k) ∧ OwnI wr w.heap.size v (outI rs k) ∧ Below w.heap.size w wr)
  case atStart => exact ⟨0, by omega, rfl, rfl, World.ownsRow_nil _ _ _ _, Below.refl _ _⟩
  case round =>
    obtain ⟨k, hk, rfl, rfl, hO, hB⟩ := hrel
    have h4 := cell_later hB HQ.out.t4
    obtain ⟨av, cv, rfl⟩ := win_shape (win_of_owns hO)
    have hmb := (most_bounds rs k).2.2
    have hln := outI_len rs k
    by_cases hlt : k < n
    case neg =>
      have hge : ¬ (k : Int) < (n : Int) := by omega
      have hke : k = n := by omega
      subst hke
      have HS : Hid ((outI rs k).take (mostI rs k) = segL rs) := seg_all rs k hr
      obtain ⟨G, cp, e⟩ := Go.Joins.ownsRow_form hO (by rw [hln]; omega)
      injection e with e1 _ e2
      subst e1; subst e2
      have hW := own_take (m := mostI rs k) hO rfl (by rw [hln]; exact hmb)
      rw [HS.out] at hW
      have hc1 : (mostI rs k : Int) ≤ (cv : Int) := by
        obtain ⟨B', O', c', e', h1, _⟩ := OwnI.win hO |>.read (by rw [hln]; omega)
        injection e' with _ _ e3
        subst e3
        omega
      have hcm : cv ≤ maxLen := by
        obtain ⟨B', O', c', e', _, h2, _⟩ := OwnI.win hO |>.read (by rw [hln]; omega)
        injection e' with _ _ e3
        subst e3
        exact h2
      unfold maxLen at hcm
      have hm0 : (mostI rs k : Int) ≤ 4096 := by omega
      clear hO HS
      generalize mostI rs k = m at *
      go_wp2
      go_ret
      exact ⟨_, rfl, hW, hB⟩
    have hltI : (k : Int) < (n : Int) := by omega
    by_cases h16 : k % 16 = 0
    · have h16I : (k : Int) % 16 = 0 := by omega
      have hO0 : (wr.alloc (.cells #[.int .i64 0] 3)).ownsRow w.heap.size 3 1 _ (outI rs k).length ((outI rs k).map (Value.int .i64)) := World.ownsRow.alloc hO _
      obtain ⟨v', W1, hrun, ho, hg, _⟩ := run_append_own (P := Try.prog) (wr.alloc (.cells #[.int .i64 0] 3)) w.heap.size 87 87 3 i0 (.int .i64 0) 1 8 Try.underlying87 hi hz0 hz1 hz2 rfl (by decide) _ _ _ hO0 ⟨wr.heap.size, 0, none⟩ 1 1 [.int .i64 0] rfl (news_new wr #[.int .i64 0] 3) (by intro u hu; simp at hu; subst hu; rfl) (by rw [hln]; unfold maxLen; omega) (by rw [hln]; omega) (by have := hB.size; simp; omega)
      have hPe : outP rs k = outI rs k ++ [0] := if_pos h16
      have hO1 : Hid (OwnI W1 w.heap.size v' (outP rs k)) := by
        show OwnI _ _ _ _
        unfold OwnI
        rw [hPe, List.length_append, List.map_append]
        exact ho
      have hB1 : Hid (Below w.heap.size w W1) := (hB.alloc hB.size _).grown hg (by have := hB.size; simp; omega) (fun i hi => (hO.lt i hi).1)
      obtain ⟨av1, cv1, rfl⟩ := win_shape (win_of_owns hO1.out)
      clear ho hg hO0 hO hB hPe
      go_wp2_with (at_builtin; refine wpl_append_run rfl _ _ 87 rfl _ _ rfl rfl hrun ?_)
      obtain ⟨G, cp, e⟩ := Go.Joins.ownsRow_form hO1.out (by rw [outP_len]; omega)
      injection e with e1 _ e2
      subst e1; subst e2
      have hO2 : W1.ownsRow w.heap.size 3 1 (.slice (some ⟨G, 0, none⟩) (outP rs k).length cv1) (outP rs k).length ((outP rs k).map (Value.int .i64)) := hO1.out
      have hGlt : w.heap.size ≤ G := (hO2.lt G rfl).1
      have hca := OwnI.cell hO1.out rfl (k / 16) (by rw [outP_len]; omega)
      have hfz := hO2.frozenAt (k / 16)
      have t4 := cell_later hB1.out HQ.out.t4
      have ic := cell_later hB1.out (HQ.out.i k hlt)
      rw [cntL_cnt rs n k hlt] at ic
      have hTlt := HQ.out.bT.lt
      have hIlt := HQ.out.rI.lt
      have HR : Hid (OwnI (W1.setCell ⟨G, k / 16, none⟩ (.int .i64 ((outP rs k).getD (k / 16) 0 + (cntN rs k : Int)))) w.heap.size (.slice (some ⟨G, 0, none⟩) (k / 16 + 1) cv1) (outI rs (k + 1))) := by
        have := (hO2.stored (k / 16) (.int .i64 ((outP rs k).getD (k / 16) 0 + (cntN rs k : Int)))).1
        show OwnI _ _ _ _
        unfold OwnI
        rw [← outI_step, List.length_set, List.map_set, outP_len]
        rw [outP_len] at this
        exact this
      have HB2 : Hid (Below w.heap.size w (W1.setCell ⟨G, k / 16, none⟩ (.int .i64 ((outP rs k).getD (k / 16) 0 + (cntN rs k : Int))))) := hB1.out.setCell hGlt _
      have u4 : (W1.setCell ⟨G, k / 16, none⟩ (.int .i64 ((outP rs k).getD (k / 16) 0 + (cntN rs k : Int)))).cell? ⟨q.T, 4, none⟩ = some (.slice (some ⟨q.I, 0, none⟩) n n) := by
        rw [World.cell?_setCell_far _ _ _ _ (by show G ≠ q.T; omega)]; exact t4
      have uc : (W1.setCell ⟨G, k / 16, none⟩ (.int .i64 ((outP rs k).getD (k / 16) 0 + (cntN rs k : Int)))).cell? ⟨q.I, k, none⟩ = some (.int .i64 (cntN rs k)) := by
        rw [World.cell?_setCell_far _ _ _ _ (by show G ≠ q.I; omega)]; exact ic
      have hx1 := outP_get rs k (k / 16) (by omega)
      have hx2 := segCi_le rs k (k / 16)
      have hx3 := cnt_le rs k
      have hx4 : 0 ≤ (outP rs k).getD (k / 16) 0 ∧ (outP rs k).getD (k / 16) 0 ≤ 900000 := by rw [hx1]; omega
      have hx5 : 0 ≤ (cntN rs k : Int) ∧ (cntN rs k : Int) ≤ 900000 := by omega
      have HM : Hid (∀ b : Bool, decide (0 < (cntN rs k : Int)) = b → mostI rs (k + 1) = if b then k / 16 + 1 else mostI rs k) := by
        intro b hb
        subst hb
        simp only [mostI]
        by_cases h0 : 0 < cntN rs k
        · rw [if_pos h0, if_pos (by simpa using h0)]
        · rw [if_neg h0, if_neg (by simpa using h0)]
      have hcpm : cv1 ≤ maxLen ∧ k / 16 + 1 ≤ cv1 := by
        obtain ⟨B', O', c', e', h1, h2, _⟩ := OwnI.win hO1.out |>.read (by rw [outP_len]; omega)
        injection e' with _ _ e3
        subst e3
        rw [outP_len] at h1
        exact ⟨h2, h1⟩
      unfold maxLen at hcpm
      have hk16 : k / 16 ≤ 4096 := by omega
      rw [outP_len]
      generalize (outP rs k).getD (k / 16) 0 = A at *
      generalize (cntN rs k : Int) = C at *
      generalize hmm : k / 16 = m at *
      obtain ⟨hcp1, hcp2⟩ := hcpm
      obtain ⟨hx6, hx7⟩ := hx4
      obtain ⟨hx8, hx9⟩ := hx5
      have HO1 : True := trivial
      clear hO1 hO2 hB1 hx1 hx2 hx3 hmb hln hmm
      go_wp2_with fail
      go_region
      all_goals
        by_cases hC : 0 < C
        · have hmo := HM.out true (by simpa using hC)
          rw [if_pos rfl] at hmo
          go_wp2
          go_roundg (n - (k + 1))
          case rel => exact ⟨k + 1, by omega, by go_num, by rw [hmo]; go_num, HR.out, HB2.out.drew⟩
          case measure => omega
        · have hmo := HM.out false (by simpa using hC)
          rw [if_neg (by simp)] at hmo
          have hC' : ¬ (0 : Int) < C := hC
          go_wp2
          go_roundg (n - (k + 1))
          case rel => exact ⟨k + 1, by omega, by go_num, by rw [hmo], HR.out, HB2.out.drew⟩
          case measure => omega
    · have h16I : ¬ (k : Int) % 16 = 0 := by omega
      have hPe : outP rs k = outI rs k := if_neg h16
      obtain ⟨W1, hW1⟩ : ∃ W1, W1 = wr := ⟨_, rfl⟩
      rw [← hW1] at hO hB ⊢
      clear hW1 h4
      have hO1 : Hid (OwnI W1 w.heap.size (.slice av (outP rs k).length cv) (outP rs k)) := by show OwnI _ _ _ _; rw [hPe]; exact hO
      have hB1 : Hid (Below w.heap.size w W1) := hB
      rw [← hPe]
      obtain ⟨cv1, hcv⟩ : ∃ cv1, cv1 = cv := ⟨_, rfl⟩
      rw [← hcv] at hO1 ⊢
      clear hO hB hPe hcv
      obtain ⟨G, cp, e⟩ := Go.Joins.ownsRow_form hO1.out (by rw [outP_len]; omega)
      injection e with e1 _ e2
      subst e1; subst e2
      have hO2 : W1.ownsRow w.heap.size 3 1 (.slice (some ⟨G, 0, none⟩) (outP rs k).length cv1) (outP rs k).length ((outP rs k).map (Value.int .i64)) := hO1.out
      have hGlt : w.heap.size ≤ G := (hO2.lt G rfl).1
      have hca := OwnI.cell hO1.out rfl (k / 16) (by rw [outP_len]; omega)
      have hfz := hO2.frozenAt (k / 16)
      have t4 := cell_later hB1.out HQ.out.t4
      have ic := cell_later hB1.out (HQ.out.i k hlt)
      rw [cntL_cnt rs n k hlt] at ic
      have hTlt := HQ.out.bT.lt
      have hIlt := HQ.out.rI.lt
      have HR : Hid (OwnI (W1.setCell ⟨G, k / 16, none⟩ (.int .i64 ((outP rs k).getD (k / 16) 0 + (cntN rs k : Int)))) w.heap.size (.slice (some ⟨G, 0, none⟩) (k / 16 + 1) cv1) (outI rs (k + 1))) := by
        have := (hO2.stored (k / 16) (.int .i64 ((outP rs k).getD (k / 16) 0 + (cntN rs k : Int)))).1
        show OwnI _ _ _ _
        unfold OwnI
        rw [← outI_step, List.length_set, List.map_set, outP_len]
        rw [outP_len] at this
        exact this
      have HB2 : Hid (Below w.heap.size w (W1.setCell ⟨G, k / 16, none⟩ (.int .i64 ((outP rs k).getD (k / 16) 0 + (cntN rs k : Int))))) := hB1.out.setCell hGlt _
      have u4 : (W1.setCell ⟨G, k / 16, none⟩ (.int .i64 ((outP rs k).getD (k / 16) 0 + (cntN rs k : Int)))).cell? ⟨q.T, 4, none⟩ = some (.slice (some ⟨q.I, 0, none⟩) n n) := by
        rw [World.cell?_setCell_far _ _ _ _ (by show G ≠ q.T; omega)]; exact t4
      have uc : (W1.setCell ⟨G, k / 16, none⟩ (.int .i64 ((outP rs k).getD (k / 16) 0 + (cntN rs k : Int)))).cell? ⟨q.I, k, none⟩ = some (.int .i64 (cntN rs k)) := by
        rw [World.cell?_setCell_far _ _ _ _ (by show G ≠ q.I; omega)]; exact ic
      have hx1 := outP_get rs k (k / 16) (by omega)
      have hx2 := segCi_le rs k (k / 16)
      have hx3 := cnt_le rs k
      have hx4 : 0 ≤ (outP rs k).getD (k / 16) 0 ∧ (outP rs k).getD (k / 16) 0 ≤ 900000 := by rw [hx1]; omega
      have hx5 : 0 ≤ (cntN rs k : Int) ∧ (cntN rs k : Int) ≤ 900000 := by omega
      have HM : Hid (∀ b : Bool, decide (0 < (cntN rs k : Int)) = b → mostI rs (k + 1) = if b then k / 16 + 1 else mostI rs k) := by
        intro b hb
        subst hb
        simp only [mostI]
        by_cases h0 : 0 < cntN rs k
        · rw [if_pos h0, if_pos (by simpa using h0)]
        · rw [if_neg h0, if_neg (by simpa using h0)]
      have hcpm : cv1 ≤ maxLen ∧ k / 16 + 1 ≤ cv1 := by
        obtain ⟨B', O', c', e', h1, h2, _⟩ := OwnI.win hO1.out |>.read (by rw [outP_len]; omega)
        injection e' with _ _ e3
        subst e3
        rw [outP_len] at h1
        exact ⟨h2, h1⟩
      unfold maxLen at hcpm
      have hk16 : k / 16 ≤ 4096 := by omega
      rw [outP_len]
      generalize (outP rs k).getD (k / 16) 0 = A at *
      generalize (cntN rs k : Int) = C at *
      generalize hmm : k / 16 = m at *
      obtain ⟨hcp1, hcp2⟩ := hcpm
      obtain ⟨hx6, hx7⟩ := hx4
      obtain ⟨hx8, hx9⟩ := hx5
      have HO1 : True := trivial
      clear hO1 hO2 hB1 hx1 hx2 hx3 hmb hln hmm
      go_wp2_with fail
      go_region
      all_goals
        by_cases hC : 0 < C
        · have hmo := HM.out true (by simpa using hC)
          rw [if_pos rfl] at hmo
          go_wp2
          go_roundg (n - (k + 1))
          case rel => exact ⟨k + 1, by omega, by go_num, by rw [hmo]; go_num, HR.out, HB2.out.drew⟩
          case measure => omega
        · have hmo := HM.out false (by simpa using hC)
          rw [if_neg (by simp)] at hmo
          have hC' : ¬ (0 : Int) < C := hC
          go_wp2
          go_roundg (n - (k + 1))
          case rel => exact ⟨k + 1, by omega, by go_num, by rw [hmo], HR.out, HB2.out.drew⟩
          case measure => omega

end Go.Proofs.Ytlgkndebhafliaa

namespace Go.Proofs.Ytlgkndebhafliaa
open Go.RowKit
attribute [local go_sem ↓] Go.wp_at_zero Go.wp_at_succ

theorem rappend_any (w : World) (tag : Nat → Nat) (base o o' : Nat) (ho : o ≠ o') (ho1 : 1 ≤ o) (ho2 : 1 ≤ o') (s : St) (p : ML) (h : MD w tag base o s p) (t : Sd) (q : TL) (M T : Nat) (hM : p.M = M) (hT : q.T = T) (hq : MSt w tag base o' M s.n t q) (hbase : base ≤ w.heap.size) (ht : t.Ok s.n) (v : Value) (b : List Int) (hv : Bts w v b) (hvh : b ≠ [] → Held w tag v b)
    (hops : s.ops ≤ 1000000) (hout : s.outs.length ≤ 1000000) (hsin : s.since.length ≤ 1000000) (hrec : t.recs.length ≤ 900000) :
    Calls Try.prog 23 #[.pointer (some ⟨T, 0, none⟩), v] w fun e w' => e = .returned (.int .i64 (appE s t b)) ∧ RAppPost w tag base o o' s M t T b w' := by
  subst hM; subst hT
  by_cases hE : frameE b = 0
  · exact rappend_ok8 w tag base o o' ho ho1 ho2 s p h t q hq hbase ht v b (hvh (fun e => by rw [e] at hE; cases hE)) hE hops hout hsin hrec
  · exact rappend_no w tag base o o' s p h t q hq v b hv hE

theorem rread_okJ (w : World) (tag : Nat → Nat) (base o : Nat) (s : St) (p : ML) (h : MD w tag base o s p) (k : Nat) (hk : k < s.n) (l : List Int) (hl : sec s.now k = l) (M : Nat) (hM : p.M = M) :
    Calls Try.prog 50 #[.pointer (some ⟨M, 0, none⟩), .int .i64 k] w fun e w' => ∃ v, e = .returned (.tuple #[v, .int .i64 0]) ∧ Bts w' v l ∧ Below w.heap.size w w' := by
  subst hM; subst hl
  refine (rread_ok w tag base o s p h k hk).mono ?_
  rintro e w' ⟨v, rfl, hO, hB⟩
  exact ⟨v, rfl, hO.bts (sec_bytes h.ok.nb k), hB⟩

set_option maxHeartbeats 4000000 in
theorem same8x_ok (w : World) (v v' : Value) (vs us : List Value) (ls : List (List Int)) (h : Lsx w v vs ls) (h' : Lsx w v' us ls) :
    Calls Try.prog 19 #[v, v'] w fun e w' => e = .returned (.bool true) ∧ ∃ nq, w' = w.drewN nq := by
  have H1 : Hid (Lsx w v vs ls) := h
  have H2 : Hid (Lsx w v' us ls) := h'
  obtain ⟨av, cv, rfl⟩ := win_shape h.win
  obtain ⟨au, cu, rfl⟩ := win_shape h'.win
  clear h h'
  go_enter Try.func19, Try.ntmps19
  go_wp2
  go_loopg [5] ls.length (fun gk i wr => ∃ (k nq : Nat), k + gk = ls.length ∧ i = .int .i64 k ∧ wr = w.drewN nq)
  case atStart => exact ⟨0, 0, by omega, rfl, rfl⟩
  case round =>
    obtain ⟨k, nq, hk, rfl, rfl⟩ := hrel
    by_cases hlt : k < ls.length
    case neg =>
      have hge : ¬ (k : Int) < (ls.length : Int) := by omega
      go_wp2
      go_ret
      exact ⟨rfl, nq, rfl⟩
    have hltI : (k : Int) < (ls.length : Int) := by omega
    obtain ⟨B1, O1, d1, e1, g1, g2, g3⟩ := win_read H1.out.win (by omega)
    obtain ⟨B2, O2, d2, e2, f1, f2, f3⟩ := win_read H2.out.win (by omega)
    injection e1 with e1a _ e1c
    injection e2 with e2a _ e2c
    subst e1a; subst e1c; subst e2a; subst e2c
    unfold maxLen at g2 f2
    have c1 := g3 k hlt
    have c2 := f3 k hlt
    have hb1 := H1.out.bts k hlt
    have hb2 := H2.out.bts k hlt
    have HS : ∀ n, Calls Try.prog 15 #[vs.getD k undef, us.getD k undef] ((w.drewN nq).drewN n) fun e w' => e = .returned (.bool true) ∧ ∃ nq', w' = ((w.drewN nq).drewN n).drewN nq' := fun n => by
      rw [World.drewN_drewN]
      have := same_one (w.drewN (nq + n)) _ _ _ _ (hb1.later (below_drewN w _)) (hb2.later (below_drewN w _))
      rwa [show sameB (ls.getD k []) (ls.getD k []) = true by unfold sameB; simp] at this
    obtain ⟨z1, z2, hz, _⟩ := bts_src hb1
    obtain ⟨y1, y2, hy, _⟩ := bts_src hb2
    rw [hz] at c1 HS
    rw [hy] at c2 HS
    clear hz hy hb1 hb2 g3 f3
    generalize (ls.getD k []).length = m at *
    have c1' : (w.drewN nq).cell? ⟨B1, O1 + k, none⟩ = some (.slice z1 m z2) := cell_later (below_drewN w nq) c1
    have c2' : (w.drewN nq).cell? ⟨B2, O2 + k, none⟩ = some (.slice y1 m y2) := cell_later (below_drewN w nq) c2
    obtain ⟨wx, hwx⟩ : ∃ x, x = w.drewN nq := ⟨_, rfl⟩
    rw [← hwx] at c1' c2' HS ⊢
    have HWX : Hid (wx = w.drewN nq) := hwx
    clear hwx c1 c2
    go_wp2_with fail
    go_quiet ((go_at_call 15; refine Calls.quiet_of (HS _)))
    rename Nat => nq2
    go_wp2
    go_roundg (ls.length - (k + 1))
    case rel => exact ⟨k + 1, _, by omega, by go_num, by rw [HWX.out, World.drewN_drewN]⟩
    case measure => omega

set_option maxHeartbeats 8000000 in
theorem looks8_ok (w : World) (tag : Nat → Nat) (base : Nat) (s : St) (p : PL) (h : PD w tag base 1 s p) (t : Sd) (q : SL) (hq : PO w tag base 2 p.D t q) (pm : ML) (hm : MD w tag base 3 s pm) (qm : TL) (hqm : MSt w tag base 4 pm.M s.n t qm) (ht : t.Ok s.n) (hrec : t.recs.length ≤ 900000) :
    Calls Try.prog 30 #[.pointer (some ⟨q.S, 0, none⟩), .pointer (some ⟨qm.T, 0, none⟩), .pointer (some ⟨p.D, 0, none⟩)] w fun e w' => e = .returned (.bool true) ∧ Below w.heap.size w w' := by
  have hn1 := h.ok.n1
  have hn2 := h.ok.n2
  have HPl := place_ok w tag base 2 p.D t q hq
  have HPD : Hid (PD w tag base 1 s p) := h
  have HPO : Hid (PO w tag base 2 p.D t q) := hq
  have HMD : Hid (MD w tag base 3 s pm) := hm
  have HMS : Hid (MSt w tag base 4 pm.M s.n t qm) := hqm
  clear h hq hm hqm
  obtain ⟨lva, lvc, hlv⟩ := win_shape HMS.out.wL
  have HLV : Hid (qm.lv = .slice lva (bodies t).length lvc) := hlv
  have KL : Hid (∀ wx, Below w.heap.size w wx → wx.cell? ⟨qm.T, 1, none⟩ = some (.int .i64 t.pos) ∧ wx.cell? ⟨qm.T, 2, none⟩ = some (.int .i64 t.used) ∧ wx.cell? ⟨qm.T, 3, none⟩ = some (.slice lva (bodies t).length lvc) ∧ wx.cell? ⟨qm.T, 0, none⟩ = some (.pointer (some ⟨pm.M, 0, none⟩)) ∧ wx.cell? ⟨pm.M, 5, none⟩ = some (.int .i64 s.ops)) := fun wx hx =>
    ⟨cell_later hx HMS.out.t1, cell_later hx HMS.out.t2, by rw [← HLV.out]; exact cell_later hx HMS.out.t3, cell_later hx HMS.out.t0, cell_later hx HMD.out.m5⟩
  clear hlv
  go_enter Try.func30, Try.ntmps30
  go_wp2_with fail
  refine HPl.mono ?_
  rintro e w1 ⟨rfl, hB1⟩
  have HBd : Hid (Below w.heap.size w w1.drew) := hB1.drew
  have K1 := KL.out w1.drew HBd.out
  have HAll := all_ok w1.drew tag base 2 p.D t q (HPO.out.later HBd.out) s.n ht hrec
  clear HPl hB1
  go_wp2_with fail
  go_region_held3 (fun w' => w'.cell? ⟨qm.T, 1, none⟩ = some (.int .i64 t.pos) ∧ w'.cell? ⟨qm.T, 2, none⟩ = some (.int .i64 t.used) ∧ w'.cell? ⟨qm.T, 3, none⟩ = some (.slice lva (bodies t).length lvc) ∧ w'.cell? ⟨qm.T, 0, none⟩ = some (.pointer (some ⟨pm.M, 0, none⟩)) ∧ w'.cell? ⟨pm.M, 5, none⟩ = some (.int .i64 s.ops))
    (first | (with_reducible exact K1) | (with_reducible exact K2) | (with_reducible exact K3) | (with_reducible exact K4) | (with_reducible exact K5) | (with_reducible exact K6) | (with_reducible exact K7))
    (first
      | (go_at_call 32; refine HAll.mono ?_; rintro e w2 ⟨v2, vs2, rfl, hL2, hB2⟩; have HB2 : Hid (Below w.heap.size w w2) := HBd.out.trans (hB2.mono HBd.out.size); have K2 := KL.out w2 HB2.out; have hX2 := HMS.out.lsx.later HB2.out; rw [HLV.out] at hX2; obtain ⟨a2, c2, rfl⟩ := win_shape hL2.win; have HSm := same8x_ok w2 _ _ _ _ _ hL2.lsx hX2; clear hL2 hX2 hB2)
      | (go_at_call 19; refine HSm.mono ?_; rintro e w3 ⟨rfl, nq3, hx3⟩; have HB3 : Hid (Below w.heap.size w w3) := (by show Below _ _ _; rw [hx3]; exact HB2.out.trans ((below_drewN w2 nq3).mono HB2.out.size)); have K3 := KL.out w3 HB3.out; have HSg := segments_ok w3 tag base 2 p.D t q (HPO.out.later HB3.out) s.n ht hn2 hrec; clear hx3)
      | (go_at_call 62; refine HSg.mono ?_; rintro e w4 ⟨v4, rfl, hI4, hB4⟩; have HB4 : Hid (Below w.heap.size w w4) := HB3.out.trans (hB4.mono HB3.out.size); have K4 := KL.out w4 HB4.out; have HW4 : Hid (WinI w4 v4 (segL t.recs)) := hI4.win; obtain ⟨a4, c4, rfl⟩ := win_shape hI4.win; have HRg := rsegments_ok w4 tag base 4 pm.M s.n t.pos t.used (bodies t) t.recs qm (HMS.out.later HB4.out) hn1 hn2 (fun x hx => (ht.rc x hx).1) hrec; clear hI4 hB4)
      | (go_at_call 63; refine HRg.mono ?_; rintro e w5 ⟨v5, rfl, hI5, hB5⟩; have HB5 : Hid (Below w.heap.size w w5) := HB4.out.trans (hB5.mono HB4.out.size); have K5 := KL.out w5 HB5.out; have HIn := ints8_ok w5 _ _ _ (HW4.out.later hB5) hI5; obtain ⟨a5, c5, rfl⟩ := win_shape hI5; clear hI5 hB5)
      | (go_at_call 61; refine HIn.mono ?_; rintro e w6 ⟨rfl, nq6, hx6⟩; have HB6 : Hid (Below w.heap.size w w6) := (by show Below _ _ _; rw [hx6]; exact HB5.out.trans ((below_drewN w5 nq6).mono HB5.out.size)); have K6 := KL.out w6 HB6.out; have HOp := ops_ok w6 tag base 1 s p (HPD.out.later HB6.out); clear hx6)
      | (go_at_call 64; refine HOp.mono ?_; rintro e w7 ⟨rfl, hx7⟩; have HB7 : Hid (Below w.heap.size w w7) := (by show Below _ _ _; rw [hx7]; exact HB6.out); have K7 := KL.out w7 HB7.out; clear hx7))
  have HZ : Hid (Below w.heap.size w w7) := HB7.out
  clear K1 K2 K3 K4 K5 K6 K7 HAll HSm HSg HRg HIn HOp HB2 HB3 HB4 HB5 HB6 HB7 HW4 HBd
  go_wp2_with fail
  go_loopg [9] s.n (fun gk i wr => ∃ k : Nat, k + gk = s.n ∧ i = .int .i64 k ∧ Below w.heap.size w wr)
  case atStart => exact ⟨0, by omega, rfl, HZ.out⟩
  case round =>
    obtain ⟨w8, rfl⟩ : ∃ w8, w8 = wr := ⟨wr, rfl⟩
    obtain ⟨k, hk, rfl, hB8⟩ := hrel
    have d0 := (KL.out w8 hB8).2.2.2.1
    have dm := cell_later hB8 HMD.out.m0
    by_cases hlt : k < s.n
    case neg =>
      have hge : ¬ (k : Int) < (s.n : Int) := by omega
      go_wp2
      go_ret
      exact ⟨rfl, hB8⟩
    have hltI : (k : Int) < (s.n : Int) := by omega
    have HR1 := read_okI w8 tag base 1 s p (HPD.out.later hB8) k k rfl hlt _ rfl
    have HB8 : Hid (Below w.heap.size w w8) := hB8
    clear hB8
    go_wp2_with fail
    refine HR1.mono ?_
    rintro e w9 ⟨v9, rfl, hU9, _, hB9⟩
    have HB9 : Hid (Below w.heap.size w w9) := HB8.out.trans (hB9.mono HB8.out.size)
    have g0 := (KL.out w9 HB9.out).2.2.2.1
    have HR2 := rread_okJ w9 tag base 3 s pm (HMD.out.later HB9.out) k hlt _ rfl pm.M rfl
    have HU9 : Hid (Bts w9 v9 (sec s.now k)) := hU9
    obtain ⟨ua, uc, rfl, _⟩ := bts_src hU9
    clear HR1 hU9 hB9 d0 dm
    go_wp2_with fail
    refine HR2.mono ?_
    rintro e w10 ⟨v10, rfl, hU10, hB10⟩
    have HB10 : Hid (Below w.heap.size w w10) := HB9.out.trans (hB10.mono HB9.out.size)
    have HSm := same_one w10 _ _ _ _ (HU9.out.later hB10) hU10
    rw [sameB_self] at HSm
    obtain ⟨xa, xc, rfl, _⟩ := bts_src hU10
    clear HR2 hU10 hB10 g0
    go_wp2_with fail
    refine HSm.mono ?_
    rintro e w11 ⟨rfl, nq, rfl⟩
    have HB11 : Hid (Below w.heap.size w (w10.drewN nq)) := HB10.out.trans ((below_drewN w10 nq).mono HB10.out.size)
    clear HSm
    go_wp2
    go_roundg (s.n - (k + 1))
    case rel => exact ⟨k + 1, by omega, by go_num, HB11.out⟩
    case measure => omega

end Go.Proofs.Ytlgkndebhafliaa

namespace Go.Proofs.Ytlgkndebhafliaa
open Go.ChangeShapes Go.WideShapes Go.ChangeAt Go.RowKit

/-- A deed in numbers, with its slice. -/
structure De : Type where
  dO : Int
  vb : Value
  b : List Int

def deC (d : De) : List Value := [.int .i64 d.dO, d.vb]

structure De.Ok (w : World) (d : De) : Prop where
  bt : Bts w d.vb d.b
  o1 : -9223372036854775808 ≤ d.dO ∧ d.dO < 9223372036854775808

/-- A slice of deeds. -/
def Dees (w : World) (v : Value) (B O : Nat) (l : List De) : Prop :=
  ∃ (a : Option Addr) (cap : Nat), v = .slice a l.length cap ∧ l.length ≤ cap ∧ cap ≤ maxLen ∧ (a = some ⟨B, O, none⟩ ∨ l = []) ∧ ∀ i (h : i < l.length), l[i].Ok w ∧ w.rangeAt B (O + i * 2) (deC l[i])

def IsDees (w : World) (v : Value) : Prop := ∃ B O l, Dees w v B O l

theorem bts_of_read8 {H : Type} {enc : TypeId × Value → H} {P : Program} {w : World} {base : Nat} {held : Bool} {t e : TypeId} {fuel : Nat} {v : Value} {x : DataW H × List MemPlace}
    (ht : P.underlying t = some (.slice e)) (he : P.underlying e = some (.int .u8)) (hc : P.cellsOf e = 1)
    (h : DataW.trod enc P w base (fun _ => true) held fuel t [v] = some x) : ∃ l, Bts w v l := by
  rcases open_ints ht he hc h with ⟨hcs, _⟩ | ⟨a, len, cap, zs, hcs, _, hl, hm, hz, hx, hcell, hwz⟩
  · simp only [List.cons.injEq, and_true] at hcs
    subst hcs
    exact ⟨[], bts_nil w⟩
  · simp only [List.cons.injEq, and_true] at hcs
    subst hcs
    simp only [if_true] at hz
    have hlen : (zs.take len).length = len := by simp; omega
    refine ⟨zs.take len, ⟨some a, cap, a.block, a.off, by rw [hlen], by omega, hm, ?_, ?_, ?_⟩⟩
    · intro z hz'; exact byte_of_wf (hwz z (List.mem_of_mem_take hz'))
    · by_cases h0 : len = 0
      · right; subst h0; simp
      · left
        obtain ⟨b, off, spot⟩ := a
        have hs : spot = none := by simpa [Addr.add] using World.cell?_spot (hcell 0 (by omega))
        subst hs; rfl
    · intro i hi
      rw [hlen] at hi
      obtain ⟨b, off, spot⟩ := a
      have hs : spot = none := by simpa [Addr.add] using World.cell?_spot (hcell 0 (by omega))
      subst hs
      have hc := hcell i (by omega)
      rw [add_at] at hc
      rw [getD_take _ _ _ hi]
      exact hc

theorem cells38 : Try.prog.cellsOf 3 = 1 := by kernel_rfl

theorem cellsDe : Try.prog.cellsOf 51 = 2 := by kernel_rfl

theorem list2 {α : Type} {l : List α} (h : l.length = 2) : ∃ a b, l = [a, b] := by
  match l, h with
  | [a, b], _ => exact ⟨a, b, rfl⟩

section
variable {H : Type} {enc : TypeId × Value → H} {w : World} {base b0 : Nat} {held : Bool} {r : Reach} {v : Value} {d : DataW H} {ps : List MemPlace}

set_option maxRecDepth 100000 in
theorem dee_of {n : Nat} {cs : List Value} {x : DataW H × List MemPlace} (hf : DataW.trod enc Try.prog w base (fun _ => true) held n 51 cs = some x) : ∃ q : De, cs = deC q ∧ q.Ok w := by
  obtain ⟨xs, m, _, hx, hl, hlen, hfield⟩ := DataW.trod_struct Try.underlying51 hf
  rw [cellsDe] at hl
  obtain ⟨c0, c1, rfl⟩ := list2 hl
  obtain ⟨y0, y1, rfl⟩ := list2 hlen
  have t0 : DataW.trod enc Try.prog w base (fun _ => true) held m 3 [c0] = some y0 := by
    have := hfield 0 _ rfl
    simpa [cells38] using this
  have t1 : DataW.trod enc Try.prog w base (fun _ => true) held m 23 [c1] = some y1 := by
    have := hfield 1 _ rfl
    simpa [cells26] using this
  obtain ⟨z0, e0, _, w0⟩ := DataW.trod_int Try.underlying3 t0
  obtain ⟨l, hb⟩ := bts_of_read8 Try.underlying23 Try.underlying5 cells5 t1
  simp at e0
  subst e0
  exact ⟨⟨z0, c1, l⟩, rfl, hb, i64_of_wf w0⟩

theorem viewDe (hv : Value.okWide Try.prog w r b0 45 v) (h : DataW.Trod enc Try.prog w base (fun _ => true) held 45 v d ps) (_ : ∀ n ∈ d.weights Try.prog 45, n ≤ reachBytes) : IsDees w v := by
  obtain ⟨a0, len0, cap0, rfl⟩ := okWide_slice Try.underlying45 hv
  obtain ⟨fuel, hf⟩ := h
  rcases Go.Deep.open_slice Try.underlying45 hf with ⟨hcs, _⟩ | ⟨a, len, cap, m, n, D, Pl, hcs, _, hl, hm, hmm, _, hrow⟩
  · simp [Value.cells] at hcs
    obtain ⟨rfl, rfl, rfl⟩ := hcs
    exact ⟨0, 0, [], none, 0, rfl, by simp, by decide, .inr rfl, fun i hi => by simp at hi⟩
  · simp [Value.cells] at hcs
    obtain ⟨rfl, rfl, rfl⟩ := hcs
    simp only [if_true] at hmm
    subst hmm
    rw [cellsDe] at hrow
    obtain ⟨b, off, spot⟩ := a
    have hq : ∀ i, i < len0 → ∃ q : De, q.Ok w ∧ ∀ j, j < 2 → w.cell? (((⟨b, off, spot⟩ : Addr).add (i * 2)).add j) = (deC q)[j]? := by
      intro i hi
      obtain ⟨cs', h1, h2⟩ := hrow i (by omega)
      obtain ⟨q, rfl, hq⟩ := dee_of h2
      unfold World.cells? at h1
      split at h1
      case isFalse => cases h1
      exact ⟨q, hq, fun j hj => mapM_some_get h1 j j (by simp [hj])⟩
    have hspot : 0 < len0 → spot = none := fun h0 => by
      obtain ⟨q, _, hget⟩ := hq 0 h0
      have h0' := hget 0 (by omega)
      have h00 : (deC q)[0]? = some (.int .i64 q.dO) := rfl
      rw [h00] at h0'
      simpa [Addr.add] using World.cell?_spot h0'
    haveI : Inhabited De := ⟨⟨0, .slice none 0 0, []⟩⟩
    obtain ⟨f, hf'⟩ := Go.Deep.choose_lt (α := De) (n := len0) (p := fun i q => q.Ok w ∧ ∀ j, j < 2 → w.cell? (((⟨b, off, spot⟩ : Addr).add (i * 2)).add j) = (deC q)[j]?) hq
    refine ⟨b, off, (List.range len0).map f, _, _, by simp; rfl, by simpa using hl, hm, ?_, ?_⟩
    · by_cases h0 : len0 = 0
      · right; subst h0; simp
      · left; rw [hspot (by omega)]
    · intro i hi
      simp at hi
      obtain ⟨h1, h2⟩ := hf' i hi
      have hs := hspot (by omega)
      subst hs
      simp only [List.getElem_map, List.getElem_range]
      refine ⟨h1, fun j u hu => ?_⟩
      have hj : j < 2 := by
        have := (List.getElem?_eq_some_iff.1 hu).1
        simpa [deC] using this
      have := h2 j hj
      rw [Go.Deep.add_add, add_at, ← Nat.add_assoc] at this
      rw [this]; exact hu
end

theorem De.Ok.later {w w' : World} {d : De} (h : d.Ok w) (hb : Below w.heap.size w w') : d.Ok w' := ⟨h.bt.later hb, h.o1⟩

theorem Dees.later {w w' : World} {v : Value} {B O : Nat} {l : List De} (h : Dees w v B O l) (hb : Below w.heap.size w w') : Dees w' v B O l := by
  obtain ⟨a, cap, h1, h2, h3, h4, hd⟩ := h
  exact ⟨a, cap, h1, h2, h3, h4, fun i hi => ⟨(hd i hi).1.later hb, fun j u hu => cell_later hb ((hd i hi).2 j u hu)⟩⟩

theorem Dees.cell {w : World} {v : Value} {B O : Nat} {l : List De} (h : Dees w v B O l) (i : Nat) (hi : i < l.length) : w.cell? ⟨B, O + i * 2, none⟩ = some (.int .i64 l[i].dO) ∧ w.cell? ⟨B, O + i * 2 + 1, none⟩ = some l[i].vb := by
  obtain ⟨a, cap, _, _, _, _, hd⟩ := h
  have := (hd i hi).2
  exact ⟨by have := this 0 _ rfl; rwa [Nat.add_zero] at this, this 1 _ rfl⟩

theorem Dees.ok {w : World} {v : Value} {B O : Nat} {l : List De} (h : Dees w v B O l) (i : Nat) (hi : i < l.length) : l[i].Ok w := by
  obtain ⟨a, cap, _, _, _, _, hd⟩ := h
  exact (hd i hi).1

def sumD (l : List De) (k : Nat) : Nat := ((l.take k).map fun d => d.b.length).sum
def roomD (l : List De) : Bool := decide (l.length ≤ 200 ∧ (∀ d ∈ l, d.b.length ≤ 1000) ∧ sumD l l.length ≤ 20000)

theorem sumD_succ (l : List De) (k : Nat) (h : k < l.length) : sumD l (k + 1) = sumD l k + l[k].b.length := by
  unfold sumD
  rw [List.take_succ_eq_append_getElem h, List.map_append, List.sum_append]
  simp only [List.map_cons, List.map_nil, List.sum_cons, List.sum_nil, Nat.add_zero]

theorem sumD_le (l : List De) (k : Nat) (h : ∀ d ∈ l.take k, d.b.length ≤ 1000) : sumD l k ≤ 1000 * (l.take k).length := by
  unfold sumD
  generalize l.take k = m at *
  induction m with
  | nil => simp
  | cons d m ih =>
    have := ih (fun x hx => h x (by simp [hx]))
    have := h d (by simp)
    simp only [List.map_cons, List.sum_cons, List.length_cons]
    omega

set_option maxHeartbeats 1000000 in
theorem room8_ok (w : World) (v : Value) (B O : Nat) (l : List De) (h : Dees w v B O l) : Calls Try.prog 21 #[v] w fun e w' => e = .returned (.bool (roomD l)) ∧ w' = w := by
  have HD : Hid (Dees w v B O l) := h
  obtain ⟨a, cap, rfl, hl, hm, ha, _⟩ := h
  unfold maxLen at hm
  by_cases h300 : l.length ≤ 200
  · have h300I : ¬ (200 : Int) < (l.length : Int) := by omega
    go_enter Try.func21, Try.ntmps21
    go_wp2
    go_loop [3, 4] (fun n i => ∃ k : Nat, k ≤ l.length ∧ i = .int .i64 k ∧ n = .int .i64 (sumD l k) ∧ ∀ d ∈ l.take k, d.b.length ≤ 1000) (fun _ i => l.length - (intOf i).toNat)
    case atStart => exact ⟨0, Nat.zero_le _, rfl, by simp [sumD], by simp⟩
    case round =>
      obtain ⟨k, hk, rfl, rfl, hall⟩ := hrel
      have hsm := sumD_le l k hall
      have hsm2 : sumD l k ≤ 200000 := by
        have : (l.take k).length ≤ 200 := by simp; omega
        omega
      clear hsm
      by_cases hlt : k < l.length
      · have hltI : (k : Int) < (l.length : Int) := by omega
        rcases ha with rfl | hnil
        case inr => rw [hnil] at hlt; simp at hlt
        obtain ⟨_, c4⟩ := HD.out.cell k hlt
        obtain ⟨ba, bc, hvb, _, hbm, _⟩ := bts_src (HD.out.ok k hlt).bt
        rw [hvb] at c4
        unfold maxLen at hbm
        have HS : Hid (sumD l (k + 1) = sumD l k + l[k].b.length) := sumD_succ l k hlt
        have HA : Hid (∀ d ∈ l.take k, d.b.length ≤ 1000) := hall
        clear hall
        by_cases h1000 : l[k].b.length ≤ 1000
        · have h1I : ¬ (1000 : Int) < (l[k].b.length : Int) := by omega
          have HT : Hid (∀ d ∈ l.take (k + 1), d.b.length ≤ 1000) := by
            intro d hd
            rw [List.take_succ_eq_append_getElem hlt, List.mem_append, List.mem_singleton] at hd
            rcases hd with hd | rfl
            · exact HA.out d hd
            · exact h1000
          clear hvb
          generalize l[k].b.length = q at *
          go_wp2
          go_round
          case rel => exact ⟨k + 1, by omega, by go_num, by rw [HS.out]; go_num, HT.out⟩
          case measure => simp [intOf]; omega
        · have h1I : (1000 : Int) < (l[k].b.length : Int) := by omega
          have HR : Hid (roomD l = false) := by
            show _ = _
            unfold roomD
            rw [decide_eq_false_iff_not]
            rintro ⟨_, h2, _⟩
            have := h2 l[k] (List.getElem_mem hlt)
            omega
          go_wp2
          go_ret
          exact ⟨ret_bool HR.out.symm, rfl⟩
      · have hke : k = l.length := by omega
        subst hke
        have hall' : ∀ d ∈ l, d.b.length ≤ 1000 := by rwa [List.take_length] at hall
        have HR : Hid (roomD l = decide (sumD l l.length ≤ 20000)) := by
          show _ = _
          unfold roomD
          exact decide_eq_decide.2 ⟨fun h => h.2.2, fun h => ⟨h300, hall', h⟩⟩
        clear hall
        go_wp2
        go_ret
        exact ⟨ret_bool (by rw [HR.out]; simp; omega), rfl⟩
  · have h300I : (200 : Int) < (l.length : Int) := by omega
    have HR : Hid (roomD l = false) := by
      show _ = _
      unfold roomD
      rw [decide_eq_false_iff_not]
      rintro ⟨h1, _⟩
      omega
    go_enter Try.func21, Try.ntmps21
    go_wp2
    go_ret
    exact ⟨ret_bool HR.out.symm, rfl⟩

theorem room_few {l : List De} (h : roomD l = true) : l.length ≤ 200 ∧ (∀ d ∈ l, d.b.length ≤ 1000) ∧ sumD l l.length ≤ 20000 := of_decide_eq_true h

theorem sumD_mono (l : List De) (k : Nat) : sumD l k ≤ sumD l l.length := by
  unfold sumD
  rw [List.take_length]
  conv => rhs; rw [← List.take_append_drop k l]
  rw [List.map_append, List.sum_append]
  omega

end Go.Proofs.Ytlgkndebhafliaa
