/- The document's Open, where a disk and a time are. -/
import Derived.Test.YtafkkehcacdodaaGreatM25
import Derived.Test.YtafkkehcacdodaaGreatM23
set_option maxRecDepth 100000
namespace Go.Proofs.YtafkkehcacdodaaGreat
open Go.RowKit Go.Shelf

set_option maxHeartbeats 4000000 in
/-- What is open is ended: the loop over the spans. -/
theorem ropen11_ok (w : World) (tag : Nat → Nat) (base o : Nat) (ho : 1 ≤ o) (ho2 : o + 2 < 40) (s : St) (p : ML) (h : MD w tag base o s p) (hbase : base ≤ w.heap.size) (now : Int) (hg : goodT now = true)
    (hops : s.ops ≤ 700000) (hsin : s.since.length ≤ 700000) (hout : s.outs.length ≤ 700000) (hL : (startL s).length ≤ 400) :
    Calls Tryz.prog 10 #[.pointer (some ⟨p.M, 0, none⟩), .int .i64 now] w fun e w' => ∃ tag' B, StepR tag tag' base o (o + 2) w w' ∧ RK w' tag' base o p.M B (wrB (b0 s) (moreE (startL s) now)) ∧ e = .returned (.tuple #[bookV (opnE s now) B, .int .i64 (opnE s now)]) := by
  obtain ⟨ME, hMEe⟩ : ∃ ME, ME = moreE (startL s) now := ⟨_, rfl⟩
  rw [← hMEe]
  have HMEe : Hid (ME = moreE (startL s) now) := hMEe
  clear hMEe
  have hG := rgood_ok w now
  rw [hg] at hG
  have HMD : Hid (MD w tag base o s p) := h
  have HO := ropen_ok w tag base o (o + 1) s p h hbase
  obtain ⟨hok1, hok2, hok3⟩ := openT_ok h.ok
  have hn2 := h.ok.n2
  have HOk : Hid (s.Ok) := h.ok
  have HG : Hid (goodT now = true) := hg
  clear h hg
  go_enter Tryz.func10, Tryz.ntmps10
  go_wp2_with fail
  refine (by exact hG : Calls _ _ _ _ _).mono ?_
  rintro e w1 ⟨rfl, hx⟩
  rw [hx]
  clear hx hG
  go_wp2_with fail
  refine (by exact HO : Calls _ _ _ _ _).mono ?_
  rintro e w2 ⟨q, tag2, rfl, hQ, hT, hB2⟩
  have hb2 : base ≤ w2.heap.size := Nat.le_trans hbase hB2.size
  obtain ⟨tag3, hT3, hK3⟩ := rk_made (HMD.out.keep (fun k hk _ => hB2.block k hk) hT) hQ hb2 90
  have hba := below_alloc w2 (.cells #[.pointer (some ⟨q.T, 0, none⟩), .slice none 0 0, .slice none 0 0] 90)
  have HS3 : Hid (StepR tag tag3 base o (o + 2) w (w2.alloc (.cells #[.pointer (some ⟨q.T, 0, none⟩), .slice none 0 0, .slice none 0 0] 90))) := ⟨(hB2.mono hbase).trans (hba.mono hb2), fun k hk => (hT3 k (Nat.lt_of_lt_of_le hk hB2.size)).trans (hT k hk), fun k hk _ => (hba.block k (Nat.lt_of_lt_of_le hk hB2.size)).trans (hB2.block k hk)⟩
  have HK3 : Hid (RKT (w2.alloc (.cells #[.pointer (some ⟨q.T, 0, none⟩), .slice none 0 0, .slice none 0 0] 90)) tag3 base o p.M q.T w2.heap.size ⟨s, openT s, foundE ((bodies (openT s)).take 0), []⟩) := hK3
  have hbl : (bodies (openT s)).length ≤ 32768 := by rw [bodies_len]; omega
  clear hK3 HO hQ hT hT3 hba
  go_wp2_with fail
  go_loopg [9] (bodies (openT s)).length (fun gk i wr => ∃ (k : Nat) (tag' : Nat → Nat), k + gk = (bodies (openT s)).length ∧ i = .int .i64 k ∧ StepR tag tag' base o (o + 2) w wr ∧ RKT wr tag' base o p.M q.T w2.heap.size ⟨s, openT s, foundE ((bodies (openT s)).take k), []⟩)
  case atStart => exact ⟨0, tag3, by omega, rfl, HS3.out, HK3.out⟩
  case round =>
    obtain ⟨wx, rfl⟩ : ∃ wx, wx = wr := ⟨wr, rfl⟩
    obtain ⟨k, tag4, hk, rfl, hS4, hK4⟩ := hrel
    obtain ⟨lv, vs, g3, hwin, hbts⟩ := hK4.bodies
    obtain ⟨la, lc, rfl, hlc1, hlc2⟩ := win_form hwin
    unfold maxLen at hlc2
    have HS4 : Hid (StepR tag tag4 base o (o + 2) w wx) := hS4
    have HK4 : Hid (RKT wx tag4 base o p.M q.T w2.heap.size ⟨s, openT s, foundE ((bodies (openT s)).take k), []⟩) := hK4
    have hbx : base ≤ wx.heap.size := Nat.le_trans hbase hS4.below.size
    by_cases hlt : k < (bodies (openT s)).length
    case neg =>
      have hge : ¬ (k : Int) < ((bodies (openT s)).length : Int) := by omega
      have hke : foundE ((bodies (openT s)).take k) = startL s := by rw [List.take_of_length_le (by omega)]; rfl
      rw [hke] at HK4
      have hfin : Fine (startL s) := start_fine HOk.out
      obtain ⟨kv, EB, EO, g1, hEns⟩ := HK4.out.seen
      have hSp := rspans_ok kv EB EO (startL s) wx hEns hfin.ok (by omega)
      obtain ⟨ka, kc, rfl, _⟩ := hEns
      clear hK4 hS4 hwin hbts hke
      go_wp2_with fail
      refine (by exact hSp : Calls _ _ _ _ _).mono ?_
      rintro e w5 ⟨rv, rfl, hR5, hB5⟩
      obtain ⟨SB, SO, hSps, hSB⟩ := sps_row3 hR5
      have HK5 : Hid (RKT w5 (clip tag4 wx.heap.size) base o p.M q.T w2.heap.size ⟨s, openT s, startL s, []⟩) := HK4.out.new hB5
      have HS5 : Hid (StepR tag (clip tag4 wx.heap.size) base o (o + 2) w w5) := HS4.out.trans (stepR_clip tag4 base o (o + 2) hbx hB5)
      obtain ⟨tag5, ht5⟩ : ∃ t, t = clip tag4 wx.heap.size := ⟨_, rfl⟩
      rw [← ht5] at HK5 HS5
      have HSB : Hid (spans (startL s) ≠ [] → w5.heap[SB]? = w5.heap[SB]? ∧ tag5 SB = 0 ∧ SB < w5.heap.size) := fun hne => by
        obtain ⟨h1, h2⟩ := hSB hne
        refine ⟨rfl, ?_, h2⟩
        rw [ht5]
        simp [clip, show ¬ SB < wx.heap.size by omega]
      have HSps : Hid (Sps w5 rv SB SO (spans (startL s))) := hSps
      obtain ⟨sa, sc, rfl, hs1, hs2, hsa, _⟩ := hSps
      unfold maxLen at hs2
      have hsl := spans_length (startL s)
      have HML : Hid ((moreE (startL s) now).length ≤ 401) := by
        have := more_len (startL s) now
        show _ ≤ _
        omega
      have hgt : 0 ≤ now ∧ now ≤ 1099511627776 := of_decide_eq_true HG.out
      have HMF : Hid (Fine (moreE (startL s) now)) := more_fine hfin hgt.1 hgt.2
      have HMeq : Hid (moreE (startL s) now = endsE (spans (startL s)) now ++ [bootE now]) := rfl
      have HSL : Hid ((startL s).length ≤ 400) := hL
      have HNb : Hid (Nb s (openT s) 700000) := ⟨HOk.out, hok1, hops, hsin⟩
      have HE0 : Hid (opnE s now = wrtE s (openT s) (moreE (startL s) now)) := rfl
      clear hR5 hSB hB5 ht5 hSp hfin HK4 HS4
      generalize hSS : spans (startL s) = SS at *
      clear hSS
      go_wp2_with fail
      go_loopg [12, 14] SS.length (fun gk2 v12 iv wr2 => ∃ (j : Nat) (x12 : Value) (tag' : Nat → Nat), j + gk2 = SS.length ∧ iv = .int .i64 j ∧ x12 = v12 ∧ StepR tag tag' base o (o + 2) w wr2 ∧ RKT wr2 tag' base o p.M q.T w2.heap.size ⟨s, openT s, startL s, []⟩ ∧ MoreR w wr2 tag' base x12 (endsE (SS.take j) now) ∧ (SS ≠ [] → wr2.heap[SB]? = w5.heap[SB]? ∧ tag' SB = 0 ∧ SB < wr2.heap.size))
      case atStart => exact ⟨0, _, tag5, by omega, rfl, rfl, HS5.out, HK5.out, ⟨win_nil _ _, fun g hg => by simp [Value.ownBlock] at hg⟩, fun hn => ⟨rfl, (HSB.out hn).2.1, (HSB.out hn).2.2⟩⟩
      case round =>
        obtain ⟨wy, rfl⟩ : ∃ wy, wy = wr := ⟨wr, rfl⟩
        obtain ⟨j, x12, tag6, hj, rfl, rfl, hS6, hK6, hM6, hSB6⟩ := hrel
        have HS6 : Hid (StepR tag tag6 base o (o + 2) w wy) := hS6
        have HK6 : Hid (RKT wy tag6 base o p.M q.T w2.heap.size ⟨s, openT s, startL s, []⟩) := hK6
        have HM6 : Hid (MoreR w wy tag6 base x12 (endsE (SS.take j) now)) := hM6
        have HSB6 : Hid (SS ≠ [] → wy.heap[SB]? = w5.heap[SB]? ∧ tag6 SB = 0 ∧ SB < wy.heap.size) := hSB6
        have hby : base ≤ wy.heap.size := Nat.le_trans hbase hS6.below.size
        clear hS6 hK6 hM6 hSB6
        by_cases hltS : j < SS.length
        case pos =>
          have hltSI : (j : Int) < (SS.length : Int) := by omega
          obtain rfl : sa = some ⟨SB, SO, none⟩ := by
            rcases hsa with g | g
            · exact g
            · subst g; simp at hltS
          obtain ⟨x, hx⟩ : ∃ x, SS[j]? = some x := ⟨_, List.getElem?_eq_getElem hltS⟩
          have hne : SS ≠ [] := fun e => by rw [e] at hltS; simp at hltS
          have HSn : Hid (endsE (SS.take (j + 1)) now = endsE (SS.take j) now ++ (if x.opn then [⟨3, max now x.frm, 0, x.addr, x.block⟩] else [])) := ends_snoc SS now j x hx
          have hSy := sps_same3 HSps.out (fun hn => (HSB6.out hn).1)
          obtain ⟨_, _, _, _, _, _, hat⟩ := hSy
          obtain ⟨c0, c1, c2, c3, c4, c5⟩ := hat j x hx
          have hSBl := (HSB6.out hne).2.2
          have HLe : Hid ((endsE (SS.take j) now).length ≤ 100000) := by
            have h1 := ends_len2 (SS.take j) now
            rw [List.length_take] at h1
            show _ ≤ _
            omega
          clear hat hx
          generalize endsE (SS.take j) now = F at *
          obtain ⟨x0, x1, x2, x3, x4, x5⟩ := x
          simp only at c0 c1 c2 c3 c4 c5 HSn
          cases x5 with
          | false =>
            simp only [Bool.false_eq_true, if_false, List.append_nil] at HSn
            go_wp2
            go_roundg (SS.length - (j + 1))
            case rel => exact ⟨j + 1, _, tag6, by omega, by go_num, rfl, HS6.out, HK6.out, by rw [HSn.out]; exact HM6.out, HSB6.out⟩
            case measure => omega
          | true =>
            simp only [if_true] at HSn
            have hSd : StepR tag tag6 base o (o + 2) w wy.drew := ⟨HS6.out.below.drew, HS6.out.tags, HS6.out.kept⟩
            have hMd : MoreR w wy.drew tag6 base x12 F := ⟨HM6.out.1.later (Below.refl _ wy).drew, HM6.out.2⟩
            obtain ⟨ma, mc, a7, c7, w7, tag7, hmv, hr7, hM7, hS7, hK7, hkp7, hs7⟩ := hMd.push ho2 hSd (HK6.out.later (Below.refl _ wy).drew) hbase (by have := HLe.out; omega) ⟨3, max now x3, 0, x1, x2⟩
            have HR7 : Hid (StepR tag tag7 base o (o + 2) w w7 ∧ RKT w7 tag7 base o p.M q.T w2.heap.size ⟨s, openT s, startL s, []⟩ ∧ MoreR w w7 tag7 base (.slice a7 (F.length + 1) c7) (endsE (SS.take (j + 1)) now) ∧ (SS ≠ [] → w7.heap[SB]? = w5.heap[SB]? ∧ tag7 SB = 0 ∧ SB < w7.heap.size)) := by
              refine ⟨hS7, hK7, by rw [HSn.out]; exact hM7, fun hn => ?_⟩
              obtain ⟨h1, h2, h3⟩ := HSB6.out hn
              obtain ⟨h4, h5⟩ := hkp7 SB h3 (by rw [h2]; decide)
              exact ⟨h4.trans h1, h5.trans h2, Nat.lt_of_lt_of_le h3 hs7⟩
            subst hmv
            clear hMd hSd hM7 hS7 hK7 hkp7 hs7 HM6
            by_cases hm : now < x3
            · have hmx : max now x3 = x3 := by omega
              rw [hmx] at hr7
              clear hmx
              go_wp2_with fail
              go_region_law (refine step_app_run rfl (.tmp 84) (.tmp 103) 63 rfl (.slice ma F.length mc) (.slice (some ⟨wy.drew.heap.size, 0, none⟩) 1 1) (by rfl) (by rfl) hr7 ?_)
              all_goals
                go_wp2
                go_roundg (SS.length - (j + 1))
                case rel => exact ⟨j + 1, _, tag7, by omega, by go_num, rfl, HR7.out⟩
                case measure => omega
            · have hmx : max now x3 = now := by omega
              rw [hmx] at hr7
              clear hmx
              have hm4 : (if now < x3 then x3 else now) = now := if_neg hm
              go_wp2_with fail
              go_region_law (refine step_app_run rfl (.tmp 84) (.tmp 103) 63 rfl (.slice ma F.length mc) (.slice (some ⟨wy.drew.heap.size, 0, none⟩) 1 1) (by rfl) (by rfl) hr7 ?_)
              all_goals
                go_wp2
                go_roundg (SS.length - (j + 1))
                case rel => exact ⟨j + 1, _, tag7, by omega, by go_num, rfl, HR7.out⟩
                case measure => omega
        case neg =>
          have hgeS : ¬ (j : Int) < (SS.length : Int) := by omega
          have hje : endsE (SS.take j) now = endsE SS now := by rw [List.take_of_length_le (by omega)]
          rw [hje] at HM6
          have hFl : (endsE SS now).length + 1 = (moreE (startL s) now).length := by rw [HMeq.out]; simp
          have hMl := HML.out
          obtain ⟨ma, mc, a7, c7, w7, tag7, hmv, hr7, hM7, hS7, hK7, _, _⟩ := HM6.out.push ho2 HS6.out HK6.out hbase (by omega) (bootE now)
          subst hmv
          rw [← HMeq.out] at hM7
          rw [hFl] at hM7 hr7
          have hMEe := HMEe.out
          rw [← hMEe] at hM7 hr7 hMl HMF HE0
          have HK7 : Hid (RK w7 tag7 base o p.M w2.heap.size ⟨s, openT s, startL s, []⟩) := hK7.rk
          have HM7 : Hid (MoreR w w7 tag7 base (.slice a7 ME.length c7) ME) := hM7
          have HS7 : Hid (StepR tag tag7 base o (o + 2) w w7) := hS7
          have HSLl : Hid ((startL s).length ≤ 400) := HSL
          have hr7 : Hid _ := hr7
          clear hM7 hS7 hK7 HM6 HK6 HS6 HSB6 HK5 HS5 HSB HSps hFl HMeq hMEe hje hsa hs1 hs2 hj HML hby hsl hb2 hbl
          go_wp2_with (at_builtin; refine wpl_append_run rfl _ _ 63 rfl _ _ rfl rfl (by exact hr7.out) ?_)
          clear hr7
          go_loopg [15] ME.length (fun gk3 i3 wr3 => ∃ (k3 : Nat) (sk : St) (tk : Sd) (tag' : Nat → Nat), k3 + gk3 = ME.length ∧ i3 = .int .i64 k3 ∧ RLaid s ME k3 sk tk ∧ StepR tag tag' base o (o + 2) w wr3 ∧ RK wr3 tag' base o p.M w2.heap.size ⟨sk, tk, startL s, []⟩ ∧ MoreR w wr3 tag' base (.slice a7 ME.length c7) ME)
          case atStart => exact ⟨0, s, openT s, tag7, by omega, rfl, rlaid_new s ME HNb.out hout (by omega), HS7.out, HK7.out, HM7.out⟩
          case round =>
            obtain ⟨wz, rfl⟩ : ∃ wz, wz = wr := ⟨wr, rfl⟩
            obtain ⟨k3, sk, tk, tag8, hk3, rfl, hR8, hS8, hK8, hM8⟩ := hrel
            have HS8 : Hid (StepR tag tag8 base o (o + 2) w wz) := hS8
            have HK8 : Hid (RK wz tag8 base o p.M w2.heap.size ⟨sk, tk, startL s, []⟩) := hK8
            have HM8 : Hid (MoreR w wz tag8 base (.slice a7 ME.length c7) ME) := hM8
            have HR8 : Hid (RLaid s ME k3 sk tk) := hR8
            have hbz : base ≤ wz.heap.size := Nat.le_trans hbase hS8.below.size
            have hn8 := hR8.nb
            have ho8 := hR8.outs
            have hq8 := hR8.recs
            obtain ⟨EB, EO, ea, ec, hev, he1, he2, hea, heat⟩ := hM8.ens
            unfold maxLen at he2
            cases hev
            by_cases hlt3 : k3 < ME.length
            case pos =>
              have hlt3I : (k3 : Int) < (ME.length : Int) := by omega
              obtain ⟨x, hx⟩ : ∃ x, ME[k3]? = some x := ⟨_, List.getElem?_eq_getElem hlt3⟩
              obtain rfl : a7 = some ⟨EB, EO, none⟩ := by
                rcases hea with g | g
                · exact g
                · subst g; simp at hlt3
              obtain ⟨c0, c1, c2, c3, c4⟩ := heat k3 x hx
              obtain ⟨hx1, hx2⟩ := HMF.out x (List.mem_of_getElem? hx)
              have hA := rapp_ok wz tag8 base o p.M w2.heap.size ho ⟨sk, tk, startL s, []⟩ hK8 hbz x hx1 hx2 (700000 + k3) hn8 (by omega) (by show sk.outs.length ≤ _; omega) (by show tk.recs.length ≤ _; omega)
              have HEr : Hid (appE sk tk (bytesE x) ≠ 0 → wrtE s (openT s) ME = appE sk tk (bytesE x) ∧ wrB (b0 s) ME = ⟨appS sk tk (bytesE x), appT sk tk (bytesE x), startL s, []⟩) := fun hE => hR8.err hx hE
              have HNx : Hid (appE sk tk (bytesE x) = 0 → RLaid s ME (k3 + 1) (appS sk tk (bytesE x)) (appT sk tk (bytesE x))) := fun hE => hR8.next hx hE
              clear hR8 hS8 hK8 hM8 heat hx hx1 hx2 hea hn8 ho8 hq8 HR8 HK8
              generalize appE sk tk (bytesE x) = E at *
              generalize appS sk tk (bytesE x) = S1 at *
              generalize appT sk tk (bytesE x) = T1 at *
              obtain ⟨x0, x1, x2, x3, x4⟩ := x
              simp only at c0 c1 c2 c3 c4
              go_wp2_with fail
              refine (by exact hA : Calls _ _ _ _ _).mono ?_
              rintro r w9 ⟨rfl, tag9, hS9, hK9⟩
              have HS9 : Hid (StepR tag tag9 base o (o + 2) w w9) := HS8.out.trans (hS9.wide (Nat.le_refl o) (by omega))
              have HK9 : Hid (RK w9 tag9 base o p.M w2.heap.size ⟨S1, T1, startL s, []⟩) := hK9
              have HM9 : Hid (MoreR w w9 tag9 base (.slice (some ⟨EB, EO, none⟩) ME.length c7) ME) := HM8.out.step hS9 (by omega)
              clear hS9 hK9 hA c0 c1 c2 c3 c4 HM8 HS8
              by_cases hE : E = 0
              · subst hE
                have HN : Hid (RLaid s ME (k3 + 1) S1 T1) := HNx.out rfl
                clear HEr HNx
                go_wp2
                go_roundg (ME.length - (k3 + 1))
                case rel => exact ⟨k3 + 1, S1, T1, tag9, by omega, by go_num, HN.out, HS9.out, HK9.out, HM9.out⟩
                case measure => omega
              · have HF : Hid (opnE s now = E ∧ wrB (b0 s) ME = ⟨S1, T1, startL s, []⟩) := ⟨HE0.out.trans (HEr.out hE).1, (HEr.out hE).2⟩
                have HV : Hid (bookV E w2.heap.size = .pointer none) := if_neg hE
                clear HEr HNx
                go_wp2
                go_ret2
                exact ⟨tag9, w2.heap.size, HS9.out, by rw [HF.out.2]; exact HK9.out, by rw [HF.out.1, HV.out]; rfl⟩
            have hge3 : ¬ (k3 : Int) < (ME.length : Int) := by omega
            obtain rfl : k3 = ME.length := by omega
            obtain ⟨hd1, hd2⟩ := hR8.done
            obtain ⟨T, g0, hSy⟩ := rsyn_ok wz tag8 base o p.M w2.heap.size ⟨sk, tk, startL s, []⟩ hK8 (700000 + ME.length) hn8 (by omega) (by show sk.outs.length ≤ _; omega)
            have HD : Hid (wrtE s (openT s) ME = errC sk.out ∧ wrB (b0 s) ME = ⟨sk.sync, synT sk tk, if errC sk.out = 0 then startL s ++ ME else startL s, []⟩) := ⟨hd1, hd2⟩
            clear hR8 hS8 hK8 hM8 hn8 ho8 hq8 HR8 HK8 hd1 hd2 heat hea
            go_wp2_with fail
            refine (by exact hSy : Calls _ _ _ _ _).mono ?_
            rintro r w9 ⟨rfl, hS9, hK9⟩
            have HS9 : Hid (StepR tag tag8 base o (o + 2) w w9) := HS8.out.trans (hS9.wide (Nat.le_refl o) (by omega))
            have HK9 : Hid (RK w9 tag8 base o p.M w2.heap.size ⟨sk.sync, synT sk tk, startL s, []⟩) := hK9
            have HM9 : Hid (MoreR w w9 tag8 base (.slice a7 ME.length c7) ME) := HM8.out.step hS9 (by omega)
            clear hS9 hK9 hSy g0 HM8 HS8
            generalize errC sk.out = E at *
            generalize sk.sync = S1 at *
            generalize synT sk tk = T1 at *
            by_cases hE : E = 0
            case neg =>
              have HF : Hid (opnE s now = E ∧ wrB (b0 s) ME = ⟨S1, T1, startL s, []⟩) := ⟨HE0.out.trans HD.out.1, by rw [HD.out.2, if_neg hE]⟩
              have HV : Hid (bookV E w2.heap.size = .pointer none) := if_neg hE
              clear HD
              go_wp2
              go_ret2
              exact ⟨tag8, w2.heap.size, HS9.out, by rw [HF.out.2]; exact HK9.out, by rw [HF.out.1, HV.out]; rfl⟩
            subst hE
            have HF : Hid (opnE s now = 0 ∧ wrB (b0 s) ME = ⟨S1, T1, startL s ++ ME, []⟩) := ⟨HE0.out.trans HD.out.1, by rw [HD.out.2, if_pos rfl]⟩
            clear HD hge3 hk3
            go_wp2_with fail
            go_loopg [17] ME.length (fun gk4 i4 wr4 => ∃ (k4 : Nat) (tag' : Nat → Nat), k4 + gk4 = ME.length ∧ i4 = .int .i64 k4 ∧ StepR tag tag' base o (o + 2) w wr4 ∧ RK wr4 tag' base o p.M w2.heap.size ⟨S1, T1, startL s ++ ME.take k4, []⟩ ∧ MoreR w wr4 tag' base (.slice a7 ME.length c7) ME)
            case atStart => exact ⟨0, tag8, by omega, rfl, HS9.out, by rw [List.take_zero, List.append_nil]; exact HK9.out, HM9.out⟩
            case round =>
              obtain ⟨wv, rfl⟩ : ∃ wv, wv = wr := ⟨wr, rfl⟩
              obtain ⟨k4, tag10, hk4, rfl, hS10, hK10, hM10⟩ := hrel
              have HS10 : Hid (StepR tag tag10 base o (o + 2) w wv) := hS10
              have HK10 : Hid (RK wv tag10 base o p.M w2.heap.size ⟨S1, T1, startL s ++ ME.take k4, []⟩) := hK10
              have hbv : base ≤ wv.heap.size := Nat.le_trans hbase hS10.below.size
              by_cases hlt4 : k4 < ME.length
              case neg =>
                have hge4 : ¬ (k4 : Int) < (ME.length : Int) := by omega
                have HT : Hid (ME.take k4 = ME) := List.take_of_length_le (by omega)
                have HV : Hid (bookV 0 w2.heap.size = .pointer (some ⟨w2.heap.size, 0, none⟩)) := if_pos rfl
                clear hS10 hK10 hM10
                go_wp2
                go_ret2
                exact ⟨tag10, HS10.out, w2.heap.size, by rw [HF.out.2]; have := HK10.out; rw [HT.out] at this; exact this, by rw [HF.out.1, HV.out]; rfl⟩
              have hlt4I : (k4 : Int) < (ME.length : Int) := by omega
              obtain ⟨EB, EO, ea, ec, hev, he1, he2, hea, heat⟩ := hM10.ens
              unfold maxLen at he2
              cases hev
              obtain ⟨x, hx⟩ : ∃ x, ME[k4]? = some x := ⟨_, List.getElem?_eq_getElem hlt4⟩
              obtain rfl : a7 = some ⟨EB, EO, none⟩ := by
                rcases hea with g | g
                · exact g
                · subst g; simp at hlt4
              obtain ⟨c0, c1, c2, c3, c4⟩ := heat k4 x hx
              have HTk : Hid (ME.take (k4 + 1) = ME.take k4 ++ [x]) := by
                show _ = _
                rw [List.take_add_one, hx]; rfl
              have hKd : RK wv.drew tag10 base o p.M w2.heap.size ⟨S1, T1, startL s ++ ME.take k4, []⟩ := hK10.later (Below.refl _ wv).drew
              have hl4 : (startL s ++ ME.take k4).length ≤ 900000 := by
                have h1 := HSLl.out
                rw [List.length_append, List.length_take]; omega
              obtain ⟨la, lc, g1, hBl, a5, c5, w5', hr5, h5a, h5b, tag5', hS5', hK5'⟩ := rk_known hKd hbv hl4 x
              have g1' : wv.cell? ⟨w2.heap.size, 1, none⟩ = some (.slice la (startL s ++ ME.take k4).length lc) := g1
              have HR5 : Hid (StepR tag tag5' base o (o + 2) w (w5'.setCell ⟨w2.heap.size, 1, none⟩ (.slice a5 ((startL s ++ ME.take k4).length + 1) c5)) ∧ RK (w5'.setCell ⟨w2.heap.size, 1, none⟩ (.slice a5 ((startL s ++ ME.take k4).length + 1) c5)) tag5' base o p.M w2.heap.size ⟨S1, T1, startL s ++ ME.take (k4 + 1), []⟩ ∧ MoreR w (w5'.setCell ⟨w2.heap.size, 1, none⟩ (.slice a5 ((startL s ++ ME.take k4).length + 1) c5)) tag5' base (.slice (some ⟨EB, EO, none⟩) ME.length c7) ME) := by
                refine ⟨⟨HS10.out.below.drew.trans hS5'.below, fun j hj => (hS5'.tags j (Nat.lt_of_lt_of_le hj HS10.out.below.size)).trans (HS10.out.tags j hj), fun j hj hne => (hS5'.kept j (Nat.lt_of_lt_of_le hj HS10.out.below.size) (by rw [HS10.out.tags j hj]; omega)).trans (HS10.out.kept j hj hne)⟩, ?_, ?_⟩
                · rw [HTk.out, ← List.append_assoc]; exact hK5'
                · have hMd : MoreR w wv.drew tag10 base (.slice (some ⟨EB, EO, none⟩) ME.length c7) ME := ⟨hM10.1.later (Below.refl _ wv).drew, hM10.2⟩
                  exact hMd.step hS5' (by omega)
              have h5a' : w5'.cell? ⟨w2.heap.size, 1, none⟩ = some (.slice la (startL s ++ ME.take k4).length lc) := h5a
              have hBl' : w2.heap.size < wv.heap.size := hBl
              clear hK10 hS10 hM10 hKd hS5' hK5' g1 h5a heat hea hl4
              generalize (startL s ++ ME.take k4).length = nL at *
              obtain ⟨x0, x1, x2, x3, x4⟩ := x
              simp only at c0 c1 c2 c3 c4
              go_wp2_with fail
              go_region_law (refine step_app_run rfl (.tmp 143) (.tmp 148) 63 rfl (.slice la nL lc) (.slice (some ⟨wv.drew.heap.size, 0, none⟩) 1 1) (by rfl) (by rfl) (by exact hr5) ?_)
              all_goals
                go_wp2
                go_roundg (ME.length - (k4 + 1))
                case rel => exact ⟨k4 + 1, tag5', by omega, by go_num, HR5.out.1, HR5.out.2.1, HR5.out.2.2⟩
                case measure => omega
    have hltI : (k : Int) < ((bodies (openT s)).length : Int) := by omega
    obtain ⟨LB, LO, c', hvv, hcel⟩ : ∃ LB LO c', Value.slice la (bodies (openT s)).length lc = .slice (some ⟨LB, LO, none⟩) (bodies (openT s)).length c' ∧ ∀ i, i < (bodies (openT s)).length → wx.cell? ⟨LB, LO + i, none⟩ = some (vs.getD i undef) := by
      obtain ⟨LB, LO, c', h1, _, _, h2⟩ := win_read hwin (Nat.lt_of_le_of_lt (Nat.zero_le _) hlt)
      exact ⟨LB, LO, c', h1, h2⟩
    cases hvv
    have hc0 := hcel k hlt
    have hbt := hbts k hlt
    have HSn : Hid (foundE ((bodies (openT s)).take (k + 1)) = foundE ((bodies (openT s)).take k) ++ (if whyE ((bodies (openT s)).getD k []) = 0 then [entE ((bodies (openT s)).getD k [])] else [])) := found_snoc (bodies (openT s)) k hlt
    have HLe : Hid ((foundE ((bodies (openT s)).take k)).length ≤ 100000) := by
      have h1 := found_len ((bodies (openT s)).take k)
      rw [List.length_take] at h1
      show _ ≤ _
      omega
    have hDc := rdecode_any (vs.getD k undef) ((bodies (openT s)).getD k []) wx hbt
    obtain ⟨ba, bc, hbv, _⟩ := bts_src hbt
    rw [hbv] at hc0 hDc
    clear hbt hcel hbv hwin hbts hS4 hK4
    generalize foundE ((bodies (openT s)).take k) = F at *
    generalize entE ((bodies (openT s)).getD k []) = e at *
    generalize whyE ((bodies (openT s)).getD k []) = y at *
    generalize ((bodies (openT s)).getD k []).length = bn at *
    obtain ⟨k0, k1, k2, k3, k4⟩ := e
    go_wp2_with fail
    refine (by exact hDc : Calls _ _ _ _ _).mono ?_
    rintro e w5 ⟨rfl, hB5⟩
    obtain ⟨W, hW⟩ : ∃ W, W = w5.alloc (.cells #[.int .i64 k0, .int .i64 k1, .int .u32 k2, .int .u32 k3, .int .i64 k4] 73) := ⟨_, rfl⟩
    have hBW : Below wx.heap.size wx W := by rw [hW]; exact hB5.trans ((below_alloc _ _).mono hB5.size)
    have HKW : Hid (RKT W (clip tag4 wx.heap.size) base o p.M q.T w2.heap.size ⟨s, openT s, F, []⟩) := HK4.out.new hBW
    have HSW : Hid (StepR tag (clip tag4 wx.heap.size) base o (o + 2) w W) := HS4.out.trans (stepR_clip tag4 base o (o + 2) hbx hBW)
    have hbW : base ≤ W.heap.size := Nat.le_trans hbx hBW.size
    by_cases hy : y = 0
    · subst hy
      rw [if_pos rfl] at HSn
      have hKd : RKT W.drew (clip tag4 wx.heap.size) base o p.M q.T w2.heap.size ⟨s, openT s, F, []⟩ := HKW.out.later (Below.refl _ W).drew
      obtain ⟨fa, fc, g1, hBl, a5, c5, w6, hr5, h5a, h5b, tag5, hS5, hK5⟩ := hKd.known hbW (by have := HLe.out; show F.length ≤ _; omega) ⟨k0, k1, k2, k3, k4⟩
      have g1' : W.cell? ⟨w2.heap.size, 1, none⟩ = some (.slice fa F.length fc) := g1
      have h5a' : w6.cell? ⟨w2.heap.size, 1, none⟩ = some (.slice fa F.length fc) := h5a
      have hBl' : w2.heap.size < W.heap.size := hBl
      have d0 : W.cell? ⟨w5.heap.size, 0, none⟩ = some (.int .i64 k0) := by rw [hW]; simp
      have d1 : W.cell? ⟨w5.heap.size, 1, none⟩ = some (.int .i64 k1) := by rw [hW]; simp
      have d2 : W.cell? ⟨w5.heap.size, 2, none⟩ = some (.int .u32 k2) := by rw [hW]; simp
      have d3 : W.cell? ⟨w5.heap.size, 3, none⟩ = some (.int .u32 k3) := by rw [hW]; simp
      have d4 : W.cell? ⟨w5.heap.size, 4, none⟩ = some (.int .i64 k4) := by rw [hW]; simp
      have hl5 : w5.heap.size < W.heap.size := by rw [hW]; simp
      have HF : Hid (StepR tag tag5 base o (o + 2) w (w6.setCell ⟨w2.heap.size, 1, none⟩ (.slice a5 (F.length + 1) c5)) ∧ RKT (w6.setCell ⟨w2.heap.size, 1, none⟩ (.slice a5 (F.length + 1) c5)) tag5 base o p.M q.T w2.heap.size ⟨s, openT s, F ++ [⟨k0, k1, k2, k3, k4⟩], []⟩) := by
        have hS04 := HSW.out
        exact ⟨⟨hS04.below.drew.trans hS5.below, fun j hj => (hS5.tags j (Nat.lt_of_lt_of_le hj hS04.below.size)).trans (hS04.tags j hj), fun j hj hne => (hS5.kept j (Nat.lt_of_lt_of_le hj hS04.below.size) (by rw [hS04.tags j hj]; omega)).trans (hS04.kept j hj hne)⟩, hK5⟩
      clear hKd hS5 hK5 g1 h5a HKW HSW hB5 hBW hDc hbW g3 hc0
      go_wp2_with fail
      rw [← hW]
      clear hW
      go_region_law (refine step_app_run rfl (.tmp 62) (.tmp 64) 63 rfl (.slice fa F.length fc) (.slice (some ⟨W.drew.heap.size, 0, none⟩) 1 1) (by rfl) (by rfl) hr5 ?_)
      all_goals
        go_wp2
        go_roundg ((bodies (openT s)).length - (k + 1))
        case rel => exact ⟨k + 1, tag5, by omega, by go_num, HF.out.1, by rw [HSn.out]; exact HF.out.2⟩
        case measure => omega
    · rw [if_neg hy, List.append_nil] at HSn
      have hy' : (y == 0) = false := by simpa using hy
      clear hDc hB5 hBW
      go_wp2_with fail
      rw [← hW]
      clear hW
      go_roundg ((bodies (openT s)).length - (k + 1))
      case rel => exact ⟨k + 1, _, by omega, by go_num, HSW.out, by rw [HSn.out]; exact HKW.out⟩
      case measure => omega

end Go.Proofs.YtafkkehcacdodaaGreat

namespace Go.Proofs.YtafkkehcacdodaaGreat
open Go.RowKit Go.Shelf

/-- What Open answers, and the disk behind it. -/
def opE (s : St) (now : Int) : Int := if goodT now then opnE s now else 1
def opS (s : St) (now : Int) : St := if goodT now then opnS s now else s

theorem bookV_of {x : Int} {B : Nat} : (x = 0 ∧ bookV x B = .pointer (some ⟨B, 0, none⟩)) ∨ (x ≠ 0 ∧ bookV x B = .pointer none) := by
  unfold bookV
  by_cases h : x = 0
  · exact .inl ⟨h, if_pos h⟩
  · exact .inr ⟨h, if_neg h⟩

/-- A disk's numbers. -/
structure Sz (n q u : Nat) (s : St) : Prop where
  ok : s.Ok
  sn : s.n = n
  ops : s.ops ≤ q
  sin : s.since.length ≤ q
  outs : s.outs.length ≤ u

/-- A book's numbers. -/
structure Sm (n q u r : Nat) (m : Bm) : Prop where
  ok : m.Ok q
  sn : m.s.n = n
  outs : m.s.outs.length ≤ u
  recs : m.t.recs.length ≤ r
  L : m.L.length ≤ r

theorem Sm.sz {n q u r : Nat} {m : Bm} (h : Sm n q u r m) : Sz n q u m.s := ⟨h.ok.nb.ok, h.sn, h.ok.nb.ops, h.ok.nb.sin, h.outs⟩

theorem Sz.mono {n q u q' u' : Nat} {s : St} (h : Sz n q u s) (hq : q ≤ q') (hu : u ≤ u') : Sz n q' u' s := ⟨h.ok, h.sn, Nat.le_trans h.ops hq, Nat.le_trans h.sin hq, Nat.le_trans h.outs hu⟩
theorem Sm.mono {n q u r q' u' r' : Nat} {m : Bm} (h : Sm n q u r m) (hq : q ≤ q') (hu : u ≤ u') (hr : r ≤ r') : Sm n q' u' r' m := ⟨h.ok.mono hq, h.sn, Nat.le_trans h.outs hu, Nat.le_trans h.recs hr, Nat.le_trans h.L hr⟩

theorem Sz.add {n q u : Nat} {s : St} (h : Sz n q u s) {l : List Int} (hl : isBytes l) (h5 : l.length ≤ 500) : Sz n q (u + 500) (s.add l) :=
  ⟨h.ok.add hl, h.sn, h.ops, h.sin, by have := h.outs; show (s.outs ++ l).length ≤ _; rw [List.length_append]; omega⟩

theorem Sm.add {n q u r : Nat} {m : Bm} (h : Sm n q u r m) {l : List Int} (hl : isBytes l) (h5 : l.length ≤ 500) : Sm n q (u + 500) r ⟨m.s.add l, m.t, m.L, m.D⟩ :=
  ⟨⟨⟨h.ok.nb.ok.add hl, h.ok.nb.tk, h.ok.nb.ops, h.ok.nb.sin⟩, h.ok.fL, h.ok.fD, h.ok.d1⟩, h.sn, (h.sz.add hl h5).outs, h.recs, h.L⟩

theorem Sm.put {n q u r : Nat} {m : Bm} (h : Sm n q u r m) {e : En} (he : e.Ok) : Sm n (q + 4) u (r + 2) (m.put e) := by
  obtain ⟨h1, h2⟩ := h.ok.put he
  exact ⟨h1, h2.sn.trans h.sn, Nat.le_trans h2.outs h.outs, by have := h2.recs; have := h.recs; omega, by have := h2.L; have := h.L; omega⟩

theorem Sm.pay {n q u r : Nat} {m : Bm} (h : Sm n q u r m) : Sm n (q + 2) u (r + 1) m.pay := by
  obtain ⟨h1, h2, _⟩ := h.ok.pay
  exact ⟨h1, h2.sn.trans h.sn, Nat.le_trans h2.outs h.outs, by have := h2.recs; have := h.recs; omega, by have := h2.L; have := h.L; omega⟩

theorem Sz.crash {n q u : Nat} {s : St} (h : Sz n q u s) (ch : List Int) : Sz n 0 0 (s.crash ch) := ⟨h.ok.crash ch, h.sn, Nat.le_refl _, Nat.le_refl _, Nat.le_refl _⟩

theorem Sz.opened {n q u : Nat} {s : St} (h : Sz n q u s) (hn : n ≤ 40) {now : Int} (hg : goodT now = true) : (startL s).length ≤ 320 ∧ Sm n (q + 400) u 641 (opnB s now) := by
  have hgt : 0 ≤ now ∧ now ≤ 1099511627776 := of_decide_eq_true hg
  have h1 := start_len h.ok
  have h2 := more_len (startL s) now
  have h3 := (openT_ok h.ok).2.1
  have hsn := h.sn
  obtain ⟨k1, k2, k3, k4⟩ := opn_ok h.ok h.ops h.sin hgt.1 hgt.2
  have h0 := h.outs
  refine ⟨by omega, k1.mono (by omega), k2.trans hsn, by omega, by omega, ?_⟩
  show (startL s ++ moreE (startL s) now).length ≤ _
  rw [List.length_append]; omega

theorem Sz.opS {n q u : Nat} {s : St} (h : Sz n q u s) (hn : n ≤ 40) (now : Int) : Sz n (q + 400) u (Go.Proofs.YtafkkehcacdodaaGreat.opS s now) := by
  unfold Go.Proofs.YtafkkehcacdodaaGreat.opS
  by_cases hg : goodT now = true
  · rw [if_pos hg]
    exact (h.opened hn hg).2.sz
  · rw [if_neg hg]
    exact h.mono (by omega) (Nat.le_refl _)

theorem popen_any (w : World) (tag : Nat → Nat) (base o : Nat) (ho : 1 ≤ o) (s : St) (p : PL) (D : Nat) (hD : p.D = D) (h : PD w tag base o s p) (hbase : base ≤ w.heap.size) (now : Int) {n q u : Nat} (hz : Sz n q u s) (hn : n ≤ 40) (hq : q ≤ 500000) (hu : u ≤ 500000) :
    Calls Tryz.prog 9 #[.pointer (some ⟨D, 0, none⟩), .int .i64 now] w fun e w' => ∃ tag' B, StepR tag tag' base o (o + 2) w w' ∧ (∃ p', p'.D = D ∧ PD w' tag' base o (opS s now) p') ∧ (opE s now = 0 → BK w' tag' base o D B (opnB s now)) ∧ e = .returned (.tuple #[bookV (opE s now) B, .int .i64 (opE s now)]) := by
  subst hD
  have h1 := hz.ops
  have h2 := hz.sin
  have h3 := hz.outs
  unfold opE opS
  by_cases hg : goodT now = true
  · rw [if_pos hg, if_pos hg]
    have h4 := (hz.opened hn hg).1
    refine (bopen_ok w tag base o ho s p h hbase now hg (by omega) (by omega) (by omega) (by omega)).mono ?_
    rintro e w' ⟨tag', hS, B, hK, rfl⟩
    obtain ⟨p', q', kv, dv, k0, k1, k2, k3⟩ := hK
    exact ⟨tag', B, hS, ⟨p', k0, k1⟩, fun hE => by rw [← opn_wr s now hE]; exact ⟨p', q', kv, dv, k0, k1, k2, k3⟩, rfl⟩
  · rw [if_neg hg, if_neg hg]
    refine (bopen_bad w p.D now (by simpa using hg)).mono ?_
    rintro e w' ⟨rfl, hB⟩
    exact ⟨clip tag w.heap.size, 0, stepR_clip tag base o (o + 2) hbase hB, ⟨p, rfl, h.clip hB⟩, (fun hE => by cases hE), rfl⟩

theorem ropen_any (w : World) (tag : Nat → Nat) (base o : Nat) (ho : 1 ≤ o) (ho2 : o + 2 < 40) (s : St) (p : ML) (M : Nat) (hM : p.M = M) (h : MD w tag base o s p) (hbase : base ≤ w.heap.size) (now : Int) {n q u : Nat} (hz : Sz n q u s) (hn : n ≤ 40) (hq : q ≤ 500000) (hu : u ≤ 500000) :
    Calls Tryz.prog 10 #[.pointer (some ⟨M, 0, none⟩), .int .i64 now] w fun e w' => ∃ tag' B, StepR tag tag' base o (o + 2) w w' ∧ (∃ p', p'.M = M ∧ MD w' tag' base o (opS s now) p') ∧ (opE s now = 0 → RK w' tag' base o M B (opnB s now)) ∧ e = .returned (.tuple #[bookV (opE s now) B, .int .i64 (opE s now)]) := by
  subst hM
  have h1 := hz.ops
  have h2 := hz.sin
  have h3 := hz.outs
  unfold opE opS
  by_cases hg : goodT now = true
  · rw [if_pos hg, if_pos hg]
    have h4 := (hz.opened hn hg).1
    refine (ropen11_ok w tag base o ho ho2 s p h hbase now hg (by omega) (by omega) (by omega) (by omega)).mono ?_
    rintro e w' ⟨tag', B, hS, hK, rfl⟩
    obtain ⟨p', q', kv, dv, k0, k1, k2, k3⟩ := hK
    exact ⟨tag', B, hS, ⟨p', k0, k1⟩, fun hE => by rw [← opn_wr s now hE]; exact ⟨p', q', kv, dv, k0, k1, k2, k3⟩, rfl⟩
  · rw [if_neg hg, if_neg hg]
    refine (ropen_bad w p.M now (by simpa using hg)).mono ?_
    rintro e w' ⟨rfl, rfl⟩
    exact ⟨tag, 0, StepR.refl _ _ _ _ _, ⟨p, rfl, h⟩, (fun hE => by cases hE), rfl⟩

/-- Both, where their disks have had outcomes (f: the program's; g: the document's). -/
def Two (wr : World) (tag : Nat → Nat) (base D M n q u r : Nat) (bv mv : Value) (f g : St → St) : Prop :=
  (∃ s p pm, p.D = D ∧ pm.M = M ∧ PD wr tag base 1 (f s) p ∧ MD wr tag base 4 (g s) pm ∧ Sz n q u s ∧ bv = .pointer none ∧ mv = .pointer none) ∨
  (∃ m B B', BK wr tag base 1 D B ⟨f m.s, m.t, m.L, m.D⟩ ∧ RK wr tag base 4 M B' ⟨g m.s, m.t, m.L, m.D⟩ ∧ Sm n q u r m ∧ bv = .pointer (some ⟨B, 0, none⟩) ∧ mv = .pointer (some ⟨B', 0, none⟩))

section
variable {wr w' : World} {tag tag' : Nat → Nat} {base D M n q u r : Nat} {bv mv : Value} {f g : St → St}

theorem Two.disk (h : Two wr tag base D M n q u r bv mv id id) : ∃ s p pm, p.D = D ∧ pm.M = M ∧ PD wr tag base 1 s p ∧ MD wr tag base 4 s pm ∧ Sz n q u s := by
  rcases h with ⟨s, p, pm, h1, h2, h3, h4, h5, _⟩ | ⟨m, B, B', hb, hr, hs, _⟩
  · exact ⟨s, p, pm, h1, h2, h3, h4, h5⟩
  · obtain ⟨p, _, _, _, h1, h3, _⟩ := hb
    obtain ⟨pm, _, _, _, h2, h4, _⟩ := hr
    exact ⟨m.s, p, pm, h1, h2, h3, h4, hs.sz⟩

theorem Two.new (h : Two wr tag base D M n q u r bv mv f g) (hb : Below wr.heap.size wr w') : Two w' (clip tag wr.heap.size) base D M n q u r bv mv f g := by
  rcases h with ⟨s, p, pm, h1, h2, h3, h4, h5⟩ | ⟨m, B, B', hk, hr, hs⟩
  · exact .inl ⟨s, p, pm, h1, h2, h3.clip hb, h4.keep (fun k hk _ => hb.block k hk) (fun k hk => clip_lt _ _ _ hk), h5⟩
  · exact .inr ⟨m, B, B', hk.new hb, hr.new hb, hs⟩

theorem Two.mono {q' u' r' : Nat} (h : Two wr tag base D M n q u r bv mv f g) (hq : q ≤ q') (hu : u ≤ u') (hr : r ≤ r') : Two wr tag base D M n q' u' r' bv mv f g := by
  rcases h with ⟨s, p, pm, h1, h2, h3, h4, h5, h6⟩ | ⟨m, B, B', k1, k2, k3, k4⟩
  · exact .inl ⟨s, p, pm, h1, h2, h3, h4, h5.mono hq hu, h6⟩
  · exact .inr ⟨m, B, B', k1, k2, k3.mono hq hu hr, k4⟩

/-- Both opened. -/
theorem two_opened {s : St} {now : Int} {w5 w6 : World} {tag5 tag6 : Nat → Nat} {B B' : Nat} (hz : Sz n q u s) (hn : n ≤ 40) (hr : 641 ≤ r)
    (h1 : ∃ p', p'.D = D ∧ PD w5 tag5 base 1 (opS s now) p') (h2 : opE s now = 0 → BK w5 tag5 base 1 D B (opnB s now)) (hS : StepR tag5 tag6 base 4 6 w5 w6)
    (h3 : ∃ p', p'.M = M ∧ MD w6 tag6 base 4 (opS s now) p') (h4 : opE s now = 0 → RK w6 tag6 base 4 M B' (opnB s now)) :
    Two w6 tag6 base D M n (q + 400) u r (bookV (opE s now) B) (bookV (opE s now) B') id id := by
  by_cases hE : opE s now = 0
  · have hg : goodT now = true := by
      unfold opE at hE
      split at hE
      · assumption
      · cases hE
    refine .inr ⟨opnB s now, B, B', (h2 hE).otherR hS (by omega), h4 hE, (hz.opened hn hg).2.mono (Nat.le_refl _) (Nat.le_refl _) hr, ?_, ?_⟩
    · rw [hE]; rfl
    · rw [hE]; rfl
  · obtain ⟨p, hp, hP⟩ := h1
    obtain ⟨pm, hpm, hM⟩ := h3
    exact .inl ⟨opS s now, p, pm, hp, hpm, hP.otherR hS (by omega), hM, hz.opS hn now, if_neg hE, if_neg hE⟩

/-- Outcomes of the program's disk. -/
theorem two_out (h : Two wr tag base D M n q u r bv mv id id) (hbase : base ≤ wr.heap.size) (v : Value) (l : List Int) (hv : Bts wr v l) (h5 : l.length ≤ 500) (hu : u ≤ 500000) :
    Calls Tryz.prog 11 #[.pointer (some ⟨D, 0, none⟩), v] wr fun e w' => e = .returned (.tuple #[]) ∧ ∃ tag', StepR tag tag' base 1 3 wr w' ∧ Two w' tag' base D M n q u r bv mv (fun s => s.add l) id := by
  rcases h with ⟨s, p, pm, h1, h2, h3, h4, h5', h6⟩ | ⟨m, B, B', k1, k2, k3, k4⟩
  · refine (outcomes_okD wr tag base 1 s p h3 hbase v l hv (by have := h5'.outs; omega) D h1).mono ?_
    rintro e w' ⟨rfl, p', tag', j1, j2, j3⟩
    have hS := j3.range (lo := 1) (hi := 3) (by omega) (by omega)
    exact ⟨rfl, tag', hS, .inl ⟨s, p', pm, j1, h2, j2, h4.otherR hS (by omega), h5', h6⟩⟩
  · refine (boutcomes_ok wr tag base 1 D B m k1 hbase v l hv (by have := k3.outs; omega)).mono ?_
    rintro e w' ⟨rfl, tag', j1, j2⟩
    exact ⟨rfl, tag', j1.wide (Nat.le_refl _) (by omega), .inr ⟨m, B, B', j2, k2.otherR j1 (by omega), k3, k4⟩⟩

/-- And of the document's. -/
theorem two_add {l : List Int} (h : Two wr tag base D M n q u r bv mv (fun s => s.add l) id) (hbase : base ≤ wr.heap.size) (v : Value) (hv : Bts wr v l) (hvo : l ≠ [] → ∀ g, v.ownBlock = some g → tag g / 16 ≠ 4) (hl : isBytes l) (h5 : l.length ≤ 500) (hu : u ≤ 500000) :
    Calls Tryz.prog 12 #[.pointer (some ⟨M, 0, none⟩), v] wr fun e w' => e = .returned (.tuple #[]) ∧ ∃ tag', StepR tag tag' base 4 6 wr w' ∧ Two w' tag' base D M n q (u + 500) r bv mv id id := by
  rcases h with ⟨s, p, pm, h1, h2, h3, h4, h5', h6⟩ | ⟨m, B, B', k1, k2, k3, k4⟩
  · subst h2
    refine (radd_ok wr tag base 4 s pm h4 hbase v l hv hvo (by have := h5'.outs; omega)).mono ?_
    rintro e w' ⟨rfl, p', tag', j1, j2, j3⟩
    have hS := j3.range (lo := 4) (hi := 6) (by omega) (by omega)
    exact ⟨rfl, tag', hS, .inl ⟨s.add l, p, p', h1, j1, h3.otherR hS (by omega), j2, h5'.add hl h5, h6⟩⟩
  · obtain ⟨pm, q', kv, dv, r0, r1, r2, r3⟩ := k2
    subst r0
    refine (radd_ok wr tag base 4 m.s pm r1 hbase v l hv hvo (by have := k3.outs; omega)).mono ?_
    rintro e w' ⟨rfl, p', tag', j1, j2, j3⟩
    have hS := j3.range (lo := 4) (hi := 4) (by omega) (by omega)
    exact ⟨rfl, tag', hS.wide (by omega) (by omega), .inr ⟨⟨m.s.add l, m.t, m.L, m.D⟩, B, B', k1.otherR hS (by omega), ⟨p', q', kv, dv, j1, j2, r2.otherR hS (by omega), r3.otherR hS (by omega)⟩, k3.add hl h5, k4⟩⟩

end

end Go.Proofs.YtafkkehcacdodaaGreat
