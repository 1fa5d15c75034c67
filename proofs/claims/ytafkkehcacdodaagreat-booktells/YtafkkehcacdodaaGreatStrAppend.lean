/- Append. -/
import Derived.Test.YtafkkehcacdodaaGreatM10
import Derived.Deep.RegionLaw
import Derived.Deep.CutRange
import Derived.Deep.CutBlock
import Derived.Shelf.Abstract
set_option maxRecDepth 100000
namespace Go.Proofs.YtafkkehcacdodaaGreat
open Go.RowKit

/-- A call of a function of the program, as one step of a region that draws its order. -/
theorem step_call1 {P : Program} {ops : Array Oper} {o : Oper} {a : Act} {w : World} {K : Act → World → Prop} {Q : Exit → Act → World → Prop} {E : Prop} (hgd : o.guard = none) (f : Nat) (x : Operand) (t : TypeId)
    (ho : o.op = .call { callee := .value (.func f), args := #[x], argTypes := #[t] }) (v : Value) (hx : a.eval x = v) (he : ∀ args w, (callFunc f args).run P w = .ok (.enter f args) w) {R : Ending → World → Prop} (hc : Calls P f #[v] w R)
    (h : ∀ e w', R e w' → ∃ v', e = .returned v' ∧ K (a.put o.dst v') w') : if Region.wanted o (yielded ops a.tmps) = true then Oper.wp P o a w K Q else E := by
  have hw : Region.wanted o (yielded ops a.tmps) = true := by simp [Region.wanted, hgd]
  rw [if_pos hw]
  unfold Oper.wp
  have hf : a.eval (.func f) = .func (.func f) #[] #[] := rfl
  simp [execOp, ho, resolve, invoke, hx, he, hf, Deferred.ofValue, Oper.upon]
  refine hc.mono ?_
  intro e w' hr
  obtain ⟨v', rfl, hk⟩ := h e w' hr
  exact hk

theorem enters_clone : ∀ (args : Array Value) (w : World), (callFunc 72 args).run Tryz.prog w = .ok (.enter 72 args) w := enters_of Tryz.func72 (by kernel_rfl) rfl

theorem infoR : (Tryz.prog.info? 138).map (fun i => (i.zero, i.size, i.bytes)) = some (some (.agg #[.int .i64 0, .slice none 0 0]), 2, 32) := by kernel_rfl

theorem PO.clip {w w' : World} {tag : Nat → Nat} {base o D : Nat} {t : Sd} {q : SL} (h : PO w tag base o D t q) (hb : Below w.heap.size w w') : PO w' (clip tag w.heap.size) base o D t q :=
  h.keep (fun k hk _ => hb.block k hk) (fun k hk => clip_lt tag _ k hk) hb.size

theorem step_clip (tag : Nat → Nat) (base o : Nat) {w w' : World} (hb : base ≤ w.heap.size) (h : Below w.heap.size w w') : Step tag (Go.Proofs.YtafkkehcacdodaaGreat.clip tag w.heap.size) base o w w' :=
  ⟨h.mono hb, fun _ hk => clip_lt _ _ _ hk, fun k hk _ => h.block k hk⟩

/-- What Append leaves. -/
def AppPost (w : World) (tag : Nat → Nat) (base o o' : Nat) (s : St) (D : Nat) (t : Sd) (S : Nat) (b : List Int) (w' : World) : Prop :=
  ∃ p' q' tag', p'.D = D ∧ q'.S = S ∧ PD w' tag' base o (appS s t b) p' ∧ PO w' tag' base o' D (appT s t b) q' ∧ Step2 tag tag' base o o' w w'

set_option maxHeartbeats 1000000 in
theorem append_no (w : World) (tag : Nat → Nat) (base o o' : Nat) (s : St) (p : PL) (h : PD w tag base o s p) (t : Sd) (q : SL) (hq : PO w tag base o' p.D t q) (v : Value) (b : List Int) (hv : Bts w v b) (hE : frameE b ≠ 0) :
    Calls Tryz.prog 89 #[.pointer (some ⟨q.S, 0, none⟩), v] w fun e w' => e = .returned (.int .i64 (appE s t b)) ∧ AppPost w tag base o o' s p.D t q.S b w' := by
  have HM := smade_ok w tag base o' p.D t q hq
  have HF := frame_no w v b hv hE
  have HA : Hid (appE s t b = frameE b) := by show _ = _; unfold appE; rw [if_pos hE]
  have HP : Hid (AppPost w tag base o o' s p.D t q.S b w) := ⟨p, q, tag, rfl, rfl, by unfold appS; rw [if_pos hE]; exact h, by unfold appT; rw [if_pos hE]; exact hq, Step2.refl _ _ _ _ _⟩
  have hne : (frameE b != 0) = true := by simpa using hE
  clear h hq hE
  obtain ⟨a, c, rfl, _⟩ := bts_src hv
  clear hv
  generalize frameE b = E at *
  go_enter Tryz.func89, Tryz.ntmps89
  go_wp2_with (first
    | (go_at_call 71; refine HM.mono ?_; rintro e w' ⟨rfl, hx⟩; have HX1 : Hid (w' = w) := hx; clear hx; rw [HX1.out])
    | (go_at_call 108; refine HF.mono ?_; rintro e w' ⟨rfl, hx⟩; have HX2 : Hid (w' = w) := hx; clear hx; rw [HX2.out]))
  go_ret
  exact ⟨by rw [HA.out]; rfl, HP.out⟩

/-- Behind the frame, and a place that was left: what Append goes on with. -/
structure Mid8 (w w2 : World) (tag tag2 : Nat → Nat) (base o o' : Nat) (s : St) (p : PL) (t1 : Sd) (q : SL) (v : Value) (b : List Int) (G : Nat) : Prop where
  d : PD w2 tag2 base o s p
  s : PO w2 tag2 base o' p.D t1 q
  v : Held w2 tag2 v b
  f : Held w2 tag2 (.slice (some ⟨G, 0, none⟩) (b.length + 7) (b.length + 7)) (frameB b)
  st : Step2 tag tag2 base o o' w w2

theorem Mid8.later {w w2 w3 : World} {tag tag2 : Nat → Nat} {base o o' : Nat} {s : St} {p : PL} {t1 : Sd} {q : SL} {v : Value} {b : List Int} {G : Nat} (h : Mid8 w w2 tag tag2 base o o' s p t1 q v b G) (hb : Below w2.heap.size w2 w3) (hbase : base ≤ w2.heap.size) :
    Mid8 w w3 tag (clip tag2 w2.heap.size) base o o' s p t1 q v b G :=
  ⟨h.d.clip hb, h.s.clip hb, h.v.alloc hb, h.f.alloc hb, h.st.trans ((step_clip tag2 base o hbase hb).two1 o')⟩

set_option maxHeartbeats 8000000 in
theorem append_ok8 (w : World) (tag : Nat → Nat) (base o o' : Nat) (ho : o ≠ o') (ho1 : 1 ≤ o) (ho2 : 1 ≤ o') (s : St) (p : PL) (h : PD w tag base o s p) (t : Sd) (q : SL) (hq : PO w tag base o' p.D t q) (hbase : base ≤ w.heap.size) (ht : t.Ok s.n) (v : Value) (b : List Int) (hv : Held w tag v b) (hE : frameE b = 0)
    (hops : s.ops ≤ 1000000) (hout : s.outs.length ≤ 1000000) (hsin : s.since.length ≤ 1000000) (hrec : t.recs.length ≤ 900000) :
    Calls Tryz.prog 89 #[.pointer (some ⟨q.S, 0, none⟩), v] w fun e w' => e = .returned (.int .i64 (appE s t b)) ∧ AppPost w tag base o o' s p.D t q.S b w' := by
  obtain ⟨hb1, hb2⟩ := frameE_len hE
  obtain ⟨hf1, hf2, hf3⟩ := ht.fit b hE
  have hn2 := h.ok.n2
  have hpn := ht.pn
  have hun := ht.us
  have hfpn := hf1.pn
  have hfun := hf1.us
  have HM := smade_ok w tag base o' p.D t q hq
  have HF := frame_ok w v b hv.1 hb1 hb2
  have HPD : Hid (PD w tag base o s p) := h
  have HPO : Hid (PO w tag base o' p.D t q) := hq
  have HV : Hid (Held w tag v b) := hv
  obtain ⟨va, vc, hvv, _⟩ := bts_src hv.1
  subst hvv
  have HBA : Hid (base ≤ w.heap.size) := hbase
  have h2 := hq.s2
  have hbb : isBytes b := by obtain ⟨_, _, _, _, _, _, _, hb, _⟩ := hv.1; exact hb
  have hSlt := hq.bS.lt
  have HAE : Hid (appE s t b = if s.n ≤ (t.fit b).pos then 6 else errC s.out) := by show _ = _; unfold appE; rw [if_neg (by simp [hE])]
  have HAS : Hid (appS s t b = if s.n ≤ (t.fit b).pos then s else s.write (t.fit b).pos (withB (sec s.now (t.fit b).pos) (t.fit b).used (frameB b))) := by show _ = _; unfold appS; rw [if_neg (by simp [hE])]
  have HAT : Hid (appT s t b = if s.n ≤ (t.fit b).pos then t.fit b else if errC s.out = 0 then (t.fit b).added b else (t.fit b).leave) := by show _ = _; unfold appT; rw [if_neg (by simp [hE])]
  have HST : Hid (∀ w1 G, Holds8 w1 w.heap.size G (b.length + 7) (b.length + 7) (frameB b) → Below w.heap.size w w1 → Mid8 w w1 tag (clip tag w.heap.size) base o o' s p t q (.slice va b.length vc) b G) := by
    intro w1 G hH hB
    have hO : Owns w1 w.heap.size (.slice (some ⟨G, 0, none⟩) (b.length + 7) (b.length + 7)) (frameB b) := hH.owns
    exact ⟨HPD.out.clip hB, HPO.out.clip hB, HV.out.alloc hB, hO.held (frameB_bytes b hbb hb2), (step_clip tag base o hbase hB).two1 o'⟩
  clear h hq hv hE hbase
  go_enter Tryz.func89, Tryz.ntmps89
  go_upto_if 26 with (first
    | (go_at_call 71; refine HM.mono ?_; rintro e w' ⟨rfl, hx⟩; have HX1 : Hid (w' = w) := hx; clear hx; rw [HX1.out])
    | (go_at_call 108; refine HF.mono ?_; rintro e w1 ⟨G, rfl, hH, hB⟩; have hM1 := HST.out w1 G hH hB; have g2 := cell_later hB h2))
  go_cut [5] from 8 (fun fr wc => fr = .slice (some ⟨G, 0, none⟩) (b.length + 7) (b.length + 7) ∧ Mid8 w wc tag (clip tag w.heap.size) base o o' s p (t.fit b) q (.slice va b.length vc) b G ∧ w.heap.size ≤ wc.heap.size)
  case first =>
    by_cases hfit : 64 < t.used + (b.length + 7)
    · have hfitI : (64 : Int) < (t.used : Int) + ((b.length : Int) + 7) := by omega
      have HT1 : Hid (t.fit b = t.leave) := by show _ = _; unfold Sd.fit; rw [if_pos hfit]
      have HLv := leave_ok w1 _ base o' p.D t q hM1.s (by omega)
      have HM1 : Hid (Mid8 w w1 tag (clip tag w.heap.size) base o o' s p t q (.slice va b.length vc) b G) := hM1
      have HB1 : Hid (Below w.heap.size w w1) := hB
      clear hM1 hB hH
      go_wp2_with (go_at_call 109; refine HLv.mono ?_; rintro e w2 ⟨rfl, hq2, hS2⟩)
      go_meet
      exact ⟨rfl, ⟨HM1.out.d.other hS2 ho, by rw [HT1.out]; exact hq2, HM1.out.v.step hS2 ho2, HM1.out.f.step hS2 ho2, HM1.out.st.trans (hS2.two2 o)⟩, Nat.le_trans HB1.out.size hS2.below.size⟩
    · have hfitI : ¬ (64 : Int) < (t.used : Int) + ((b.length : Int) + 7) := by omega
      have HT1 : Hid (t.fit b = t) := by show _ = _; unfold Sd.fit; rw [if_neg hfit]
      have HM1 : Hid (Mid8 w w1 tag (clip tag w.heap.size) base o o' s p t q (.slice va b.length vc) b G) := hM1
      have HB1 : Hid (Below w.heap.size w w1) := hB
      clear hM1 hB hH
      go_wp2
      go_meet
      exact ⟨rfl, by rw [HT1.out]; exact HM1.out, HB1.out.size⟩
  case rest =>
    obtain ⟨rfl, hM2, hsz2⟩ := hcut
    generalize wc = w2 at *
    clear hM1 hB hH g2 HST HF HM h2
    generalize hT1 : t.fit b = t1 at *
    clear hT1
    generalize hTG : clip tag w.heap.size = tag1 at *
    clear hTG
    have hbase2 : base ≤ w2.heap.size := Nat.le_trans HBA.out hsz2
    have hSd : Below w2.heap.size w2 w2.drew := (Below.refl _ _).drew
    have c0 := hM2.s.s0
    have c1 := hM2.s.s1
    have K1 : w2.drew.cell? ⟨q.S, 0, none⟩ = some (.pointer (some ⟨p.D, 0, none⟩)) ∧ w2.drew.cell? ⟨q.S, 1, none⟩ = some (.int .i64 t1.pos) := ⟨c0, c1⟩
    have HSz := size_ok w2.drew tag1 base o s p (hM2.d.later hSd)
    have HM2 : Hid (Mid8 w w2 tag tag1 base o o' s p t1 q (.slice va b.length vc) b G) := hM2
    clear hM2
    go_wp2
    go_region_held3 (fun w' => w'.cell? ⟨q.S, 0, none⟩ = some (.pointer (some ⟨p.D, 0, none⟩)) ∧ w'.cell? ⟨q.S, 1, none⟩ = some (.int .i64 t1.pos))
      (with_reducible exact K1) ((go_at_call 62; refine HSz.mono ?_; rintro e w3 ⟨rfl, rfl⟩))
    by_cases hfull : s.n ≤ t1.pos
    · have hfullI : (s.n : Int) ≤ (t1.pos : Int) := by omega
      rw [if_pos hfull] at HAE HAS HAT
      have HPO : Hid (AppPost w tag base o o' s p.D t q.S b w2.drew) := ⟨p, q, tag1, rfl, rfl, by rw [HAS.out]; exact HM2.out.d.later hSd, by rw [HAT.out]; exact HM2.out.s.later hSd, ⟨HM2.out.st.below.drew, HM2.out.st.tags, HM2.out.st.kept⟩⟩
      go_wp2
      go_ret
      exact ⟨by rw [HAE.out]; rfl, HPO.out⟩
    · have hfullI : ¬ (s.n : Int) ≤ (t1.pos : Int) := by omega
      rw [if_neg hfull] at HAE HAS HAT
      have hfl := frameB_len b
      have hSd2 : Below w2.heap.size w2 w2.drew.drew := hSd.drew
      have hM4 := HM2.out.later hSd2 hbase2
      have HWi := with_ok w2.drew.drew tag1 base o o' s p (HM2.out.d.later hSd2) t1 q (HM2.out.s.later hSd2) (by omega) _ (frameB b) (HM2.out.f.1.later hSd2) (by omega) (by omega)
      have K4 : w2.drew.drew.cell? ⟨q.S, 0, none⟩ = some (.pointer (some ⟨p.D, 0, none⟩)) ∧ w2.drew.drew.cell? ⟨q.S, 1, none⟩ = some (.int .i64 t1.pos) := ⟨c0, c1⟩
      have HWr : Hid (∀ w5 g, w2.heap.size ≤ g → Bts w5 (.slice (some ⟨g, 0, none⟩) 64 64) (withB (sec s.now t1.pos) t1.used (frameB b)) → Below w2.heap.size w2 w5 →
          Mid8 w w5 tag (clip tag1 w2.heap.size) base o o' s p t1 q (.slice va b.length vc) b G ∧
          Calls Tryz.prog 110 #[.pointer (some ⟨p.D, 0, none⟩), .int .i64 t1.pos, .slice (some ⟨g, 0, none⟩) 64 64] w5 fun e w' => e = .returned (.int .i64 (errC s.out)) ∧ ∃ p' tag', p'.D = p.D ∧ PD w' tag' base o (s.write t1.pos (withB (sec s.now t1.pos) t1.used (frameB b))) p' ∧ Step (clip tag1 w2.heap.size) tag' base o w5 w') := by
        intro w5 g hg hbt hB5
        have hM5 := HM2.out.later hB5 hbase2
        refine ⟨hM5, write_ok w5 _ base o s p hM5.d (Nat.le_trans hbase2 hB5.size) t1.pos (by omega) _ _ hbt (withB_len _ _ _ (sec_len HPD.out.ok.nl (by omega)) (by rw [hfl]; omega)) ?_ hops hout hsin⟩
        intro g' hg'
        simp [Value.ownBlock] at hg'
        subst hg'
        simp [Go.Proofs.YtafkkehcacdodaaGreat.clip, Nat.not_lt.2 hg]
        omega
      have hposI : (t1.pos : Int) < s.n := by omega
      clear hM4
      go_wp2
      go_region_held3 (fun w' => w'.cell? ⟨q.S, 0, none⟩ = some (.pointer (some ⟨p.D, 0, none⟩)) ∧ w'.cell? ⟨q.S, 1, none⟩ = some (.int .i64 t1.pos))
        (first | (with_reducible exact K4) | (with_reducible exact K5) | (with_reducible exact K6))
        (first
          | (go_at_call 111; refine HWi.mono ?_; rintro e w5 ⟨g, rfl, hg, hbt, hB5⟩; obtain ⟨hM5, HW5⟩ := HWr.out w5 g hg hbt (hSd2.trans (hB5.mono hSd2.size)); have K5 : w5.cell? ⟨q.S, 0, none⟩ = some (.pointer (some ⟨p.D, 0, none⟩)) ∧ w5.cell? ⟨q.S, 1, none⟩ = some (.int .i64 t1.pos) := ⟨hM5.s.s0, hM5.s.s1⟩; have HM5 : Hid (Mid8 w w5 tag (clip tag1 w2.heap.size) base o o' s p t1 q (.slice va b.length vc) b G) := hM5; clear hM5 hbt hB5)
          | (go_at_call 110; refine HW5.mono ?_; rintro e w6 ⟨rfl, p6, tag6, hD6, hP6, hS6⟩; have hq6 := HM5.out.s.other hS6 (fun e => ho e.symm); have K6 : w6.cell? ⟨q.S, 0, none⟩ = some (.pointer (some ⟨p.D, 0, none⟩)) ∧ w6.cell? ⟨q.S, 1, none⟩ = some (.int .i64 t1.pos) := ⟨hq6.s0, hq6.s1⟩; have HQ6 : Hid (PO w6 tag6 base o' p.D t1 q) := hq6; have HP6 : Hid (PD w6 tag6 base o (s.write t1.pos (withB (sec s.now t1.pos) t1.used (frameB b))) p6) := hP6; have HS6 : Hid (Step (clip tag1 w2.heap.size) tag6 base o w5 w6) := hS6; clear hP6 hS6 hq6 HW5))
      have hSt : Step2 tag tag6 base o o' w w6 := HM5.out.st.trans (HS6.out.two1 o')
      have hv6 : Held w6 tag6 (.slice va b.length vc) b := HM5.out.v.step HS6.out ho1
      have hb6 : base ≤ w6.heap.size := Nat.le_trans HBA.out hSt.below.size
      have e2 := HQ6.out.s2
      rcases err_cases s.out with hE0 | hE8
      · rw [if_pos hE0] at HAT
        rw [hE0] at HAE ⊢
        obtain ⟨i0, hi, hz0, hz1, hz2⟩ := info_parts infoR
        have f2 := HQ6.out.fS 2
        have hS7 := step_set tag6 base o' w6 HQ6.out.tS.2 (show tag6 q.S / 16 = o' by have := HQ6.out.tS.1; omega) 2 (.int .i64 ((t1.used + (b.length + 7) : Nat) : Int))
        have hq7 : PO (w6.setCell ⟨q.S, 2, none⟩ (.int .i64 ((t1.used + (b.length + 7) : Nat) : Int))) tag6 base o' p.D ⟨t1.pos, t1.used + (b.length + 7), t1.recs⟩ q :=
          HQ6.out.placed _ _ (by simpa using HQ6.out.bS.set 2 (.int .i64 ((t1.used + (b.length + 7) : Nat) : Int))) rfl (fun k _ hk => heap_setCell_other _ _ k _ hk) (by simp [World.setCell])
        have hp7 := HP6.out.other hS7 ho
        have hv7 := hv6.step hS7 ho2
        have hst7 := hSt.trans (hS7.two2 o)
        obtain ⟨w7, hW7⟩ : ∃ w7, w7 = w6.setCell ⟨q.S, 2, none⟩ (.int .i64 ((t1.used + (b.length + 7) : Nat) : Int)) := ⟨_, rfl⟩
        rw [← hW7] at hq7 hp7 hv7 hst7
        have hB8 : Below w7.heap.size w7 w7.drew := (Below.refl _ _).drew
        have HC := clone8_ok w7.drew _ b (hv7.1.later hB8) (fun e => by rw [e] at hb1; simp at hb1) (by omega)
        have hb7 : base ≤ w7.heap.size := Nat.le_trans HBA.out hst7.below.size
        have d1 := hq7.s1
        have d3 := hq7.s3
        obtain ⟨ra, rc, hrv, hr1, hr2⟩ := hq7.rform
        have HRV : Hid (q.rv = .slice ra t1.recs.length rc) := hrv
        rw [hrv] at d3
        have HAP : Hid (∀ w9 ua uc, Owns w9 w7.heap.size (.slice ua b.length uc) b → Below w7.heap.size w7.drew w9 → ∀ v' w11, (w9.alloc (.cells #[.int .i64 t1.pos, .slice ua b.length uc] 138)).grownBy w11 (Value.slice ra t1.recs.length rc).ownBlock → (v'.ownBlock = (Value.slice ra t1.recs.length rc).ownBlock ∨ v'.ownBlock = some (w9.alloc (.cells #[.int .i64 t1.pos, .slice ua b.length uc] 138)).heap.size) →
            Win w11 2 v' (t1.recs.length + 1) (rcells t1.recs q.vs ++ [.int .i64 t1.pos, .slice ua b.length uc]) → AppPost w tag base o o' s p.D t q.S b (w11.setCell ⟨q.S, 3, none⟩ v') ∧ w11.cell? ⟨q.S, 3, none⟩ = some q.rv ∧ w11.frozen? ⟨q.S, 3, none⟩ = false) := by
          intro w9 ua uc hO hB9 v' w11 hg ha hw
          have hB79 : Below w7.heap.size w7 w9 := hB8.trans hB9
          have hS9 := step_over tag6 base o' (16 * o' + 9) hb7 hB79
          have hq9 : PO w9 (tagOver tag6 w7.heap.size (16 * o' + 9)) base o' p.D ⟨t1.pos, t1.used + (b.length + 7), t1.recs⟩ q := hq7.keep (fun k hk _ => hB79.block k hk) hS9.tags hB79.size
          rw [← HRV.out] at hg ha
          obtain ⟨tag', e1, e2, _⟩ := hq9.pushed (Nat.le_trans hb7 hB79.size) (below_alloc w9 (.cells #[.int .i64 t1.pos, .slice ua b.length uc] 138)) t1.pos b _ v' (hO.bts hbb)
            (fun g hg' => ⟨tagOver_ge _ _ _ _ (hO.lt g hg').1, Nat.le_trans hb7 (hO.lt g hg').1, (hO.lt g hg').2⟩) hg ha hw
          have hSall := (hst7.trans (hS9.two2 o)).trans (e2.two2 o)
          have hne : q.rv.ownBlock ≠ some q.S := fun e => by have := (hq9.tR _ e).1; rw [hq9.tS.1] at this; omega
          have hbl : Blk w11 q.S _ := hq9.bS.same ((hg.block q.S (by simp; have := hq9.bS.lt; omega) (fun e => hne e.symm)).trans ((below_alloc w9 _).block q.S hq9.bS.lt))
          refine ⟨⟨p6, ⟨q.S, v', q.vs ++ [.slice ua b.length uc]⟩, tag', hD6, rfl, ?_, ?_, hSall⟩, hbl.cell 3, hbl.frozen 3⟩
          · rw [HAS.out]
            exact (hp7.other hS9 ho).other e2 ho
          · rw [HAT.out]; exact e1
        have HWn : Hid (∀ w9, Below w7.heap.size w7.drew w9 → Win w9 2 (.slice ra t1.recs.length rc) t1.recs.length (rcells t1.recs q.vs)) := by
          intro w9 hB9
          rw [← HRV.out]
          exact (hq7.wR.later hB8).later hB9
        have hSlt7 : q.S < w7.heap.size := hq7.bS.lt
        have hrec7 : t1.recs.length ≤ 900000 := by rw [hf3]; exact hrec
        have HW7 : Hid (w6.setCell ⟨q.S, 2, none⟩ (.int .i64 ((t1.used + (b.length + 7) : Nat) : Int)) = w7) := hW7.symm
        have hused : ((t1.used + (b.length + 7) : Nat) : Int) = (t1.used : Int) + ((b.length : Int) + 7) := by omega
        rw [hused] at HW7
        unfold maxLen at hr2
        have hu64 : (t1.used : Int) ≤ 64 := by omega
        clear hrv hq7 hp7 hv7 hv6 hS7 hst7 hSt hW7 hE0 hused
        go_upto_region 14 with fail
        go_cut [5] from 8 (fun fr wc => wc = w7)
        case first =>
          go_wp2
          go_meet
          exact HW7.out
        case rest =>
        have HCUT : Hid (wc = w7) := hcut
        clear hcut
        rw [HCUT.out]
        clear HCUT
        go_wp2
        clear HW7 e2 f2 K1 K4 K5 K6 HWr HWi HSz c0 c1 hSd hSd2 HM2 HM5 HQ6 HP6 HS6 hb6 hb7 HRV hr1 hr2 hfull hfullI hposI hfl hf1 hf2 hf3 hfpn hfun HAS HAT hbase2 hsz2 hSlt HPD HPO HV HBA hn2 hpn hun ht hops hout hsin hrec hu64 hD6
        go_region_law (first
          | (refine step_call1 rfl 72 (.tmp 74) 39 rfl (.slice va b.length vc) (by go_simp) enters_clone (by with_reducible exact HC) ?_; rintro e w9 ⟨u, rfl, hO, hB9⟩; refine ⟨_, rfl, ?_⟩; obtain ⟨ua, uc, rfl, _⟩ := bts_src (hO.bts hbb); have d1' := cell_later (hB8.trans hB9) d1; have d3' := cell_later (hB8.trans hB9) d3; have hsz9 : q.S < w9.heap.size := Nat.lt_of_lt_of_le hSlt7 hB9.size; have hwn9 := HWn.out w9 hB9)
          | (refine step_win_append rfl (.tmp 69) (.tmp 77) 131 rfl 138 i0 (.agg #[.int .i64 0, .slice none 0 0]) 2 32 Tryz.underlying131 hi hz0 hz1 hz2 rfl (by decide) (.slice ra t1.recs.length rc) t1.recs.length (rcells t1.recs q.vs) (by rfl) (by exact hwn9.later (below_alloc w9 _)) ⟨w9.heap.size, 0, none⟩ 1 1 [.int .i64 t1.pos, .slice ua b.length uc] (by rfl) rfl (by exact news_new w9 #[.int .i64 t1.pos, .slice ua b.length uc] 138) (by intro u hu; simp at hu; rcases hu with rfl | rfl <;> rfl) (by unfold maxLen; omega) (by omega) ?_; intro v' w11 hwin hgrow hat; obtain ⟨va', vc', hvv⟩ := win_shape hwin; subst hvv; obtain ⟨hAP, g4, g5⟩ := HAP.out w9 ua uc hO hB9 _ w11 hgrow hat hwin))
        all_goals
          go_wp2
          go_ret
          exact ⟨by rw [HAE.out]; rfl, hAP⟩
      · rw [if_neg (by rw [hE8]; decide)] at HAT
        rw [hE8] at HAE ⊢
        have HLv := leave_ok w6 tag6 base o' p.D t1 q HQ6.out (by omega)
        clear hE8
        go_wp2_with (go_at_call 109; refine HLv.mono ?_; rintro e w7 ⟨rfl, hq7, hS7⟩)
        go_ret
        exact ⟨by rw [HAE.out]; rfl, p6, q, tag6, hD6, rfl, by rw [HAS.out]; exact HP6.out.other hS7 ho, by rw [HAT.out]; exact hq7, hSt.trans (hS7.two2 o)⟩

end Go.Proofs.YtafkkehcacdodaaGreat
