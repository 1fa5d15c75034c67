/- StrandSurvives: behind a crash all records that a Sync that was OK stood behind are found, in order, each whole; of the others some; no others. -/
import Derived.Test.YtlgkndebhafliaaM21
import Derived.Test.YtlgkndebhafliaaRows
set_option maxRecDepth 100000
namespace Go.Proofs.Ytlgkndebhafliaa.strandSurvives
open Go.ChangeShapes Go.WideShapes Go.ChangeAt Go.RowKit
attribute [local go_sem ↓] Go.wp_at_zero Go.wp_at_succ

/-- What goes with it, in numbers. -/
structure Nu (l : List De) (k : Nat) (s : St) (t : Sd) (G : List Tr) : Prop where
  ok : t.Ok s.n
  few : Few s 60 k
  outs : s.outs.length ≤ sumD l k
  recs : t.recs.length ≤ k
  gl : G.length ≤ k
  sv : Sv s t G

/-- Between two deeds. -/
def Inv (w : World) (l : List De) (D S k : Nat) (v9 v10 v11 : Value) (wr : World) : Prop :=
  ∃ s t G, Sw w D S s t (G.map Tr.b) (G.map Tr.fi) (G.map Tr.su) v9 v10 v11 wr ∧ Nu l k s t G

theorem dee_any {w wr : World} {v : Value} {B O : Nat} {l : List De} (h : Dees w v B O l) (hb : Below w.heap.size w wr) {tag : Nat → Nat} (ht : ∀ j, j < w.heap.size → tag j = 0) (i : Nat) (hi : i < l.length) : Bts wr l[i].vb l[i].b ∧ (l[i].b ≠ [] → Held wr tag l[i].vb l[i].b) := by
  have h0 := (h.ok i hi).bt
  refine ⟨h0.later hb, fun hne => ⟨h0.later hb, fun g hg => ?_⟩⟩
  have hlt := bts_lt h0 hne g hg
  exact ⟨ht g hlt, Nat.lt_of_lt_of_le hlt hb.size⟩

theorem app_err (s : St) (t : Sd) (b : List Int) (G : List Tr) : (appE s t b = 0 ∧ appG s t b G = G ++ [⟨(t.fit b).pos, b, true, false⟩]) ∨ (appE s t b = 8 ∧ appG s t b G = G ++ [⟨(t.fit b).pos, b, false, false⟩]) ∨ (¬ appE s t b = 0 ∧ ¬ appE s t b = 8 ∧ appG s t b G = G) := by
  unfold appE appG
  by_cases hE : frameE b = 0
  · have hE' : ¬ frameE b ≠ 0 := fun e => e hE
    rw [if_neg hE', if_neg hE']
    by_cases hn : s.n ≤ (t.fit b).pos
    · rw [if_pos hn, if_pos hn]; exact .inr (.inr ⟨by decide, by decide, rfl⟩)
    · rw [if_neg hn, if_neg hn]
      rcases err_cases s.out with e | e
      · rw [e]; exact .inl ⟨rfl, rfl⟩
      · rw [e]; exact .inr (.inl ⟨rfl, rfl⟩)
  · rw [if_pos hE, if_pos hE]
    refine .inr (.inr ⟨hE, ?_, rfl⟩)
    unfold frameE
    split
    · decide
    · split <;> decide

theorem app_len (s : St) (t : Sd) (b : List Int) (G : List Tr) : (appG s t b G).length ≤ G.length + 1 := by
  rcases app_err s t b G with ⟨_, e⟩ | ⟨_, e⟩ | ⟨_, _, e⟩ <;> rw [e] <;> simp

theorem syn_len (s : St) (G : List Tr) : (synG s G).length = G.length := by
  unfold synG
  split
  · simp
  · rfl

set_option maxHeartbeats 16000000 in
theorem walk (v0 v1 : Value) (w : World) (V0 : IsDees w v0) (V1 : IsBts w v1) : Calls Try.prog 7 #[v0, v1] w fun e w' => e = .returned (.bool true) ∧ Below w.heap.size w w' := by
  obtain ⟨B, O, l, hDl⟩ := V0
  have HD : Hid (Dees w v0 B O l) := hDl
  obtain ⟨a, cap, rfl, hl, hm, ha, _⟩ := hDl
  obtain ⟨ch, hch, _⟩ := V1
  have HCh : Hid (Bts w v1 ch) := hch
  obtain ⟨a1, cap1, rfl, hl1, hm1, _⟩ := bts_src hch
  clear hch
  unfold maxLen at hm hm1
  go_enter Try.func7, Try.ntmps7
  go_wp2_with (go_at_call 9; refine (awake8_ok _).mono ?_; rintro e w1 ⟨rfl, hB1⟩)
  refine (room8_ok w1 _ B O l (HD.out.later hB1)).mono ?_
  rintro e w1' ⟨rfl, hx⟩
  rw [hx]
  clear hx
  by_cases hroom : roomD l = true
  case neg =>
    have hr' : roomD l = false := by simpa using hroom
    rw [hr']
    clear hroom hr'
    go_wp2
    go_ret
    exact ⟨rfl, hB1⟩
  obtain ⟨hl200, _, hsum⟩ := room_few hroom
  rw [hroom]
  clear hroom
  by_cases hbig : 1000 < ch.length
  · have hbI : (1000 : Int) < (ch.length : Int) := by omega
    go_wp2_with fail
    go_ret
    exact ⟨rfl, hB1⟩
  have hbI : ¬ (1000 : Int) < (ch.length : Int) := by omega
  go_wp2_with fail
  refine (both_ok w1 (fun _ => 0) w.heap.size 1 3 60 60 rfl hB1.size (by omega) (by omega)).mono ?_
  rintro e w2 ⟨p, pm, tag2, rfl, hP2, _, hT2, hB2⟩
  have hB02 := hB1.trans (hB2.mono hB1.size)
  have HO := open_ok w2 tag2 w.heap.size 1 2 (by omega) _ p hP2 hB02.size
  rw [openT_new] at HO
  go_wp2_with fail
  refine HO.mono ?_
  rintro e w3 ⟨q, tag3, rfl, hQ3, hT3, hB3⟩
  have hP3 : PD w3 tag3 w.heap.size 1 (St.new 60) p := hP2.keep (fun k hk _ => hB3.block k hk) hT3
  have hB03 := hB02.trans (hB3.mono hB02.size)
  have hok := (openT_ok (St.ok_new (n := 60) (by omega) (by omega))).1
  rw [openT_new] at hok
  have HN0 : Hid (Inv w l p.D q.S 0 (.slice none 0 0) (.slice none 0 0) (.slice none 0 0) w3) := by
    refine ⟨St.new 60, ⟨0, 0, []⟩, [], ⟨p, q, tag3, [], hP3, hQ3, rfl, rfl, win_nil _ _, win_nil _ _, win_nil _ _, (fun i hi => by simp at hi), (fun g hg => by simp [Value.ownBlock] at hg), (fun g hg => by simp [Value.ownBlock] at hg), (fun g hg => by simp [Value.ownBlock] at hg), fun j hj => ?_, hB03⟩, hok, few_new 60 0, by simp [St.new], by simp, by simp, Sv.new 60⟩
    have := hB1.size
    have := hB2.size
    rw [hT3 j (by omega), hT2 j (by omega)]
  clear hP2 hQ3 hT3 hB3 hP3 hok hB03 HO hB02 hB2 hT2 hB1
  go_wp2_with fail
  go_loopg [9, 10, 11, 12] l.length (fun gk v9 v10 v11 i wr => ∃ (k : Nat) (x9 x10 x11 : Value), k + gk = l.length ∧ i = .int .i64 k ∧ x9 = v9 ∧ x10 = v10 ∧ x11 = v11 ∧ Inv w l p.D q.S k x9 x10 x11 wr)
  case atStart => exact ⟨0, _, _, _, by omega, rfl, rfl, rfl, rfl, HN0.out⟩
  case round =>
    obtain ⟨w0, rfl⟩ : ∃ w0, w0 = wr := ⟨wr, rfl⟩
    obtain ⟨k, x9, x10, x11, hk, rfl, rfl, rfl, rfl, s, t, G, ⟨p1, q1, tag, vs, hI⟩, hN⟩ := hrel
    by_cases hlt : k < l.length
    case neg =>
      have hge : ¬ (k : Int) < (l.length : Int) := by omega
      have hn60 := hN.few.n
      have hsin := hN.few.sin
      have HF : Hid (Btw (bodies (openT (s.crash ch))) G) := hN.sv.found hI.pd.ok ch
      have HC := crash_okD w0 tag w.heap.size 1 4 s p1 hI.pd hI.below.size (by omega) _ ch (HCh.out.later hI.below) p.D hI.hD
      have HI : Hid (SwI w p.D q.S s t (G.map Tr.b) (G.map Tr.fi) (G.map Tr.su) x9 x10 x11 w0 p1 q1 tag vs) := hI
      have hgl := hN.gl
      have hcok := hI.pd.ok.crash ch
      have hcn : (s.crash ch).n = 60 := hn60
      obtain ⟨a9, c9, e9⟩ := win_shape hI.w9
      obtain ⟨a11, c11, e11⟩ := win_shape hI.w11
      rw [List.length_map] at e9 e11
      subst e9
      subst e11
      clear hI hN
      go_wp2_with fail
      refine HC.mono ?_
      rintro e w4 ⟨p4, tag4, rfl, hP4, hT4, hB4⟩
      have HOp := open_ok w4 tag4 w.heap.size 4 5 (by omega) _ p4 hP4 (Nat.le_trans HI.out.below.size hB4.size)
      clear HC hP4 hT4
      obtain ⟨hot, hor, _⟩ := openT_ok hcok
      rw [hcn] at hot hor
      generalize s.crash ch = sc at *
      go_wp2_with fail
      refine HOp.mono ?_
      rintro e w5 ⟨q5, tag5, rfl, hQ5, _, hB5⟩
      have HAll := all_ok w5 tag5 w.heap.size 5 p4.D _ q5 hQ5 60 hot (by omega)
      have hB05 := hB4.trans (hB5.mono hB4.size)
      clear HOp hQ5 hB4 hB5
      go_wp2_with fail
      refine HAll.mono ?_
      rintro e w6 ⟨v6, vs6, rfl, hL6, hB6⟩
      have hB06 := hB05.trans (hB6.mono hB05.size)
      have hI6 := HI.out.later hB06
      have hbl : (bodies (openT sc)).length ≤ 1000000 := by rw [bodies_len]; omega
      have HBt := between_ok w6 v6 (.slice a9 G.length c9) (.slice a11 G.length c11) vs6 vs (bodies (openT sc)) G hL6.lsx (by
        have h9 := hI6.w9
        refine ⟨by simpa using h9, fun i hi => ?_⟩
        exact (hI6.bt i hi).later hI6.below) (by
        have h11 := hI6.w11
        rw [List.length_map, List.map_map] at h11
        exact h11) hbl (by omega) HF.out
      have HB6 : Hid (Below w.heap.size w w6) := hI6.below
      obtain ⟨av, cv, rfl⟩ := win_shape hL6.win
      clear hI6 hL6 hB6 hB05 hB06 HI HAll
      go_wp2_with fail
      refine HBt.mono ?_
      rintro e w7 ⟨rfl, hB7⟩
      go_wp2
      go_ret
      exact ⟨rfl, HB6.out.trans (hB7.mono HB6.out.size)⟩
    have hltI : (k : Int) < (l.length : Int) := by omega
    rcases ha with rfl | hnil
    case inr => rw [hnil] at hlt; simp at hlt
    obtain ⟨c0, c1⟩ := (HD.out.later hI.below).cell k hlt
    obtain ⟨hb5, hh5⟩ := dee_any HD.out hI.below hI.z k hlt
    have HBw : Hid (Bts w l[k].vb l[k].b) := (HD.out.ok k hlt).bt
    have hoI := (HD.out.ok k hlt).o1
    have HS1 : Hid (sumD l (k + 1) = sumD l k + l[k].b.length) := sumD_succ l k hlt
    have HS2 : Hid (sumD l (k + 1) ≤ sumD l l.length) := sumD_mono l (k + 1)
    have hbb : isBytes l[k].b := by obtain ⟨_, _, _, _, _, _, _, hb, _⟩ := hb5; exact hb
    have hpn := hN.ok.pn
    have hn60 := hN.few.n
    have hops := hN.few.ops
    have hsin := hN.few.sin
    have hou := hN.outs
    have hrc := hN.recs
    obtain ⟨va, vc, hvv, _⟩ := bts_src hb5
    rw [hvv] at c1 hb5 hh5 HBw
    have HC1 : Hid (∀ wx, Below w.heap.size w wx → wx.cell? ⟨B, O + k * 2 + 1, none⟩ = some (.slice va l[k].b.length vc)) := fun wx hx => by have := ((HD.out.later hx).cell k hlt).2; rwa [hvv] at this
    clear hvv
    generalize l[k].dO = dO at *
    generalize l[k].b = b at *
    obtain ⟨hoI1, hoI2⟩ := hoI
    by_cases h4 : dO ≤ 4
    · have HA := append_any8 w0 tag w.heap.size 1 2 (by omega) (by omega) (by omega) s p1 hI.pd t q1 p.D q.S hI.hD hI.hS hI.po hI.below.size hN.ok _ b hb5 hh5 (by omega) (by have := HS1.out; have := HS2.out; omega) (by omega) (by omega)
      have hok2 := appT_ok (s := s) hN.ok b hbb
      have hfew2 := hN.few.app t b
      have hou2 := outs_app s t b
      have hn6 : (appS s t b).n = s.n := by rw [hfew2.n, hn60]
      have HNu : Hid (Nu l (k + 1) (appS s t b) (appT s t b) (appG s t b G)) := ⟨by rw [hn6]; exact hok2.1, hfew2, by have := HS1.out; omega, by have := hok2.2; omega, by have := app_len s t b G; have := hN.gl; omega, hN.sv.app hI.pd.ok hN.ok b hbb⟩
      have hgl := hN.gl
      have HI : Hid (SwI w p.D q.S s t (G.map Tr.b) (G.map Tr.fi) (G.map Tr.su) x9 x10 x11 w0 p1 q1 tag vs) := hI
      have HEr := app_err s t b G
      clear hI hN hb5 hh5 hok2 hfew2 hou2 hn6 hrc hou hsin hops hn60 hpn
      go_wp2_with fail
      refine HA.mono ?_
      rintro e w6 ⟨rfl, p6, q6, tag6, hD6, hS6, hP6, hQ6, hSt6⟩
      have hI6 := HI.out.step2 hSt6 hP6 hQ6 hD6 hS6
      clear HA HI hP6 hQ6 hSt6 hD6 hS6
      generalize appS s t b = s6 at *
      generalize appT s t b = t6 at *
      generalize appE s t b = E at *
      generalize appG s t b G = G6 at *
      have c1' := HC1.out w6 hI6.below
      rcases HEr with ⟨rfl, hG6⟩ | ⟨rfl, hG6⟩ | ⟨hE0, hE8, hG6⟩
      · rw [hG6] at HNu
        clear hG6
        obtain ⟨y9, w7, tag7, hr9, hI7⟩ := hI6.push9 _ b HBw.out (by rw [List.length_map]; omega)
        obtain ⟨y10, w8, tag8, hr10, hI8⟩ := hI7.push10 true (by rw [List.length_map]; omega)
        obtain ⟨y11, w9, tag9, hr11, hI9⟩ := hI8.push11 false (by rw [List.length_map]; omega)
        have HI9 : Hid (Inv w l p.D q.S (k + 1) y9 y10 y11 w9) := by
          refine ⟨s6, t6, _, ⟨p6, q6, tag9, vs ++ [.slice va b.length vc], ?_⟩, HNu.out⟩
          rw [List.map_append, List.map_append, List.map_append]
          exact hI9
        clear hI6 hI7 hI8 hI9
        go_wp2_with (at_builtin; first
          | (refine wpl_append_run rfl _ _ 40 rfl _ _ rfl rfl hr9 ?_)
          | (refine wpl_append_run rfl _ _ 60 rfl _ _ rfl rfl hr10 ?_)
          | (refine wpl_append_run rfl _ _ 60 rfl _ _ rfl rfl hr11 ?_))
        go_roundg (l.length - (k + 1))
        case rel => exact ⟨k + 1, y9, y10, y11, by omega, by go_num, rfl, rfl, rfl, HI9.out⟩
        case measure => omega
      · rw [hG6] at HNu
        clear hG6
        obtain ⟨y9, w7, tag7, hr9, hI7⟩ := hI6.push9 _ b HBw.out (by rw [List.length_map]; omega)
        obtain ⟨y10, w8, tag8, hr10, hI8⟩ := hI7.push10 false (by rw [List.length_map]; omega)
        obtain ⟨y11, w9, tag9, hr11, hI9⟩ := hI8.push11 false (by rw [List.length_map]; omega)
        have HI9 : Hid (Inv w l p.D q.S (k + 1) y9 y10 y11 w9) := by
          refine ⟨s6, t6, _, ⟨p6, q6, tag9, vs ++ [.slice va b.length vc], ?_⟩, HNu.out⟩
          rw [List.map_append, List.map_append, List.map_append]
          exact hI9
        clear hI6 hI7 hI8 hI9
        go_wp2_with (at_builtin; first
          | (refine wpl_append_run rfl _ _ 40 rfl _ _ rfl rfl hr9 ?_)
          | (refine wpl_append_run rfl _ _ 60 rfl _ _ rfl rfl hr10 ?_)
          | (refine wpl_append_run rfl _ _ 60 rfl _ _ rfl rfl hr11 ?_))
        go_roundg (l.length - (k + 1))
        case rel => exact ⟨k + 1, y9, y10, y11, by omega, by go_num, rfl, rfl, rfl, HI9.out⟩
        case measure => omega
      · have HI9 : Hid (Inv w l p.D q.S (k + 1) x9 x10 x11 w6) := by
          rw [hG6] at HNu
          exact ⟨s6, t6, _, ⟨p6, q6, tag6, _, hI6⟩, HNu.out⟩
        have hE0' : (E == 0) = false := by simpa using hE0
        have hE8' : (E == 8) = false := by simpa using hE8
        clear hI6 hG6
        go_wp2
        go_roundg (l.length - (k + 1))
        case rel => exact ⟨k + 1, x9, x10, x11, by omega, by go_num, rfl, rfl, rfl, HI9.out⟩
        case measure => omega
    have h4I : ¬ dO ≤ 4 := h4
    by_cases h6 : dO = 6
    · subst h6
      have HOu := outcomes_okD w0 tag w.heap.size 1 s p1 hI.pd hI.below.size _ b hb5 (by have := HS1.out; have := HS2.out; omega) p.D hI.hD
      have hfew2 := hN.few.add b
      have HNu : Hid (Nu l (k + 1) (s.add b) t G) := ⟨hN.ok, hfew2, by have := HS1.out; simp [St.add]; omega, by omega, by have := hN.gl; omega, hN.sv.add b⟩
      have HI : Hid (SwI w p.D q.S s t (G.map Tr.b) (G.map Tr.fi) (G.map Tr.su) x9 x10 x11 w0 p1 q1 tag vs) := hI
      clear hI hN hb5 hh5 hfew2
      go_wp2_with fail
      refine HOu.mono ?_
      rintro e w6 ⟨rfl, p6, tag6, hD6, hP6, hSt0⟩
      have HI9 : Hid (Inv w l p.D q.S (k + 1) x9 x10 x11 w6) := ⟨_, _, _, ⟨p6, q1, tag6, _, HI.out.step2 (hSt0.two1 2) hP6 (HI.out.po.other hSt0 (by omega)) hD6 HI.out.hS⟩, HNu.out⟩
      clear HOu HI HNu hP6 hSt0
      go_wp2
      go_roundg (l.length - (k + 1))
      case rel => exact ⟨k + 1, x9, x10, x11, by omega, by go_num, rfl, rfl, rfl, HI9.out⟩
      case measure => omega
    have h6I : ¬ dO = 6 := h6
    by_cases h5 : dO = 5
    case neg =>
      have h5I : (dO == 5) = false := by simpa using h5
      have HI9 : Hid (Inv w l p.D q.S (k + 1) x9 x10 x11 w0) := ⟨_, _, _, ⟨p1, q1, tag, _, hI⟩, hN.ok, hN.few.mono, by have := HS1.out; omega, by omega, by have := hN.gl; omega, hN.sv⟩
      clear hI hN hb5 hh5
      go_wp2_with fail
      go_wp2
      go_roundg (l.length - (k + 1))
      case rel => exact ⟨k + 1, x9, x10, x11, by omega, by go_num, rfl, rfl, rfl, HI9.out⟩
      case measure => omega
    subst h5
    have HSy := ssync_ok w0 tag w.heap.size 1 2 (by omega) s p1 hI.pd t q1 (by rw [hI.hD]; exact hI.po) hI.below.size (by omega) (by omega) (by have := HS1.out; have := HS2.out; omega) (by omega)
    rw [hI.hS, hI.hD] at HSy
    have hok2 := synT_ok (s := s) hN.ok
    have hfew2 := hN.few.sync
    have hou2 := outs_sync s
    have hn6 : s.sync.n = s.n := by rw [hfew2.n, hn60]
    have hgl := hN.gl
    have HNu : Hid (Nu l (k + 1) s.sync (synT s t) (synG s G)) := ⟨by rw [hn6]; exact hok2.1, hfew2, by have := HS1.out; omega, by rw [hok2.2]; omega, by rw [syn_len]; omega, hN.sv.sync⟩
    have HSG : Hid ((errC s.out = 0 → synG s G = G.map Tr.sured) ∧ (errC s.out ≠ 0 → synG s G = G)) := ⟨fun e => if_pos e, fun e => if_neg e⟩
    have HI : Hid (SwI w p.D q.S s t (G.map Tr.b) (G.map Tr.fi) (G.map Tr.su) x9 x10 x11 w0 p1 q1 tag vs) := hI
    have hEr := err_cases s.out
    clear hI hN hb5 hh5 hok2 hfew2 hou2 hn6
    go_wp2_with fail
    refine HSy.mono ?_
    rintro e w6 ⟨rfl, p6, tag6, hD6, hP6, hQ6, hSt6⟩
    have hI6 := HI.out.step2 hSt6 hP6 hQ6 hD6 HI.out.hS
    clear HSy HI hP6 hQ6 hSt6 hD6
    generalize s.sync = s6 at *
    generalize synT s t = t6 at *
    generalize synG s G = G6 at *
    generalize errC s.out = E at *
    rcases hEr with rfl | rfl
    case inr =>
      have hG6 := HSG.out.2 (by decide)
      have HI9 : Hid (Inv w l p.D q.S (k + 1) x9 x10 x11 w6) := by
        rw [hG6] at HNu
        exact ⟨s6, t6, _, ⟨p6, q1, tag6, _, hI6⟩, HNu.out⟩
      clear hI6 hG6 HSG
      go_wp2
      go_roundg (l.length - (k + 1))
      case rel => exact ⟨k + 1, x9, x10, x11, by omega, by go_num, rfl, rfl, rfl, HI9.out⟩
      case measure => omega
    have hG6 := HSG.out.1 rfl
    rw [hG6] at HNu
    clear hG6 HSG
    obtain ⟨a9, c9, e9⟩ := win_shape hI6.w9
    rw [List.length_map] at e9
    subst e9
    have HI0 : Hid (Sw w p.D q.S s6 t6 (G.map Tr.b) (G.map Tr.fi) ((G.map Tr.fi).take 0 ++ (G.map Tr.su).drop 0) (.slice a9 G.length c9) x10 x11 w6) := ⟨p6, q1, tag6, vs, hI6⟩
    clear hI6
    go_wp2
    go_loopg [14] G.length (fun gk jv wr2 => ∃ j : Nat, j + gk = G.length ∧ jv = .int .i64 j ∧ Sw w p.D q.S s6 t6 (G.map Tr.b) (G.map Tr.fi) ((G.map Tr.fi).take j ++ (G.map Tr.su).drop j) (.slice a9 G.length c9) x10 x11 wr2)
    case atStart => exact ⟨0, by omega, rfl, HI0.out⟩
    case round =>
      obtain ⟨j, hj, rfl, p7, q7, tag7, vs7, hI7⟩ := hrel
      by_cases hlt2 : j < G.length
      case neg =>
        have hge : ¬ (j : Int) < (G.length : Int) := by omega
        have HI9 : Hid (Inv w l p.D q.S (k + 1) (.slice a9 G.length c9) x10 x11 wr) := by
          refine ⟨s6, t6, _, ⟨p7, q7, tag7, vs7, ?_⟩, HNu.out⟩
          have hje : j = G.length := by omega
          subst hje
          rw [List.take_of_length_le (by simp), List.drop_of_length_le (by simp), List.append_nil] at hI7
          rw [List.map_map, List.map_map, List.map_map]
          exact hI7
        clear hI7
        go_wp2
        go_roundg (l.length - (k + 1))
        case rel => exact ⟨k + 1, .slice a9 G.length c9, x10, x11, by omega, by go_num, rfl, rfl, rfl, HI9.out⟩
        case measure => omega
      have hlt2I : (j : Int) < (G.length : Int) := by omega
      obtain ⟨B10, O10, d10, e10, g1, g2, r10, _⟩ := win_bool hI7.w10 (by rw [List.length_map]; omega)
      obtain ⟨B11, O11, d11, e11, u1, u2, r11, f11⟩ := win_bool hI7.w11 (by simp; omega)
      rw [List.length_map] at e10 g1
      have hmx : ((G.map Tr.fi).take j ++ (G.map Tr.su).drop j).length = G.length := by simp; omega
      rw [hmx] at e11 u1
      subst e10
      subst e11
      have q10 := r10 j (by rw [List.length_map]; exact hlt2)
      have q11 := r11 j (by rw [hmx]; exact hlt2)
      have qf := f11 j (by rw [hmx]; exact hlt2)
      have hset := hI7.set11 hmx j hlt2 ((G.map Tr.fi).getD j false)
      rw [mix_step _ _ j (by simp) (by simpa using hlt2)] at hset
      have HSet : Hid (Sw w p.D q.S s6 t6 (G.map Tr.b) (G.map Tr.fi) ((G.map Tr.fi).take (j + 1) ++ (G.map Tr.su).drop (j + 1)) (.slice a9 G.length c9) (.slice (some ⟨B10, O10, none⟩) G.length d10) (.slice (some ⟨B11, O11, none⟩) G.length d11) (wr.setCell ⟨B11, O11 + j, none⟩ (.bool ((G.map Tr.fi).getD j false)))) := ⟨p7, q7, tag7, vs7, hset⟩
      unfold maxLen at g2 u2
      clear r10 r11 f11 hset hI7 hmx HNu HI0
      generalize (G.map Tr.fi).getD j false = fb at *
      generalize ((G.map Tr.fi).take j ++ (G.map Tr.su).drop j).getD j false = ob at *
      go_wp2
      go_roundg (G.length - (j + 1))
      case rel => exact ⟨j + 1, by omega, by go_num, HSet.out⟩
      case measure => omega

set_option maxRecDepth 100000 in
theorem lifted (os : Os) (started : os.Started) (H : Type) (enc : TypeId × Value → H) :
    ReturnsInHanded {} Try.checked os 7 .any (Rows.strandSurvivesSpec.pre6 enc Try.prog Try.f7 Rows.strandSurvivesRow.domain false) (Rows.strandSurvivesSpec.post enc Try.prog Try.f7 false true false false) := by
  refine returnsInHanded_of_change_sized (C := Try.checked) own started (by kernel_rfl) Try.func7
    (ChangeSpec.witness6 (enc := enc) (C := Try.checked) false ⟨#[], #[.slice none 0 0, .slice none 0 0], []⟩ 8 (by kernel_rfl) (by kernel_rfl) (by kernel_rfl) (by kernel_rfl)) ?_
  intro W base args ds gs before hval0 hW hcnd hsz0 _
  have hval : ∀ (j : Nat) t v, Try.f7.params[j]? = some t → args[j]? = some v → Value.okWide Try.prog W .any base t v := hval0
  have hsz : ∀ n ∈ DataW.weightsEach Try.prog (Try.f7.params.toList ++ Rows.strandSurvivesSpec.plain.varTypes Try.prog) (ds ++ gs), n ≤ reachBytes := fun n hn => by simpa using List.all_eq_true.1 hsz0 n hn
  have hW' := hW
  obtain ⟨p, q, hA0, hV, rfl, hfz, hnd⟩ := hW
  have hA : DataW.TrodAll enc Try.prog W 0 (fun _ => true) true Try.f7.params.toList args.toList ds p := hA0
  rw [Try.params7] at hA hval hsz
  obtain ⟨v0, vs0, d0, ds0, p0, q0, hargs, rfl, rfl, h0, r0⟩ := trodAll_cons hA
  obtain ⟨v1, vs1, d1, ds1, p1, q1, rfl, rfl, rfl, h1, r1⟩ := trodAll_cons r0
  obtain ⟨rfl, rfl, rfl⟩ := trodAll_nil r1
  obtain rfl : args = #[v0, v1] := by cases args; simp_all
  obtain ⟨rfl, rfl⟩ := trodVars_none hV
  have lt0 : ∀ x ∈ p0, x.block < W.heap.size := by obtain ⟨m, hm⟩ := h0; exact DataW.trod_lt m _ _ _ hm
  have V0 := viewDe (hval 0 45 v0 rfl rfl) h0 (fun n hn => hsz n (DataW.weights_mem_each (j := 0) rfl rfl n hn))
  have lt1 : ∀ x ∈ p1, x.block < W.heap.size := by obtain ⟨m, hm⟩ := h1; exact DataW.trod_lt m _ _ _ hm
  have V1 := view26 (hval 1 23 v1 rfl rfl) h1 (fun n hn => hsz n (DataW.weights_mem_each (j := 1) rfl rfl n hn))
  clear hA0 hval0 hsz0 hsz
  refine (walk v0 v1 W V0 V1).mono fun e W' ⟨he, bel⟩ => ?_
  subst he
  exact ⟨_, rfl, _, _, _, [], _, [], hW', trodAll_mk1 (shut_bool Try.underlying4 _), (trodAll_cons_mk (Below.trod laidOut (by kernel_rfl) (of_decide_eq_true (by kernel_rfl)) h0 bel lt0) (trodAll_cons_mk (Below.trod laidOut (by kernel_rfl) (of_decide_eq_true (by kernel_rfl)) h1 bel lt1) trodAll_mk0)), rfl, bel.frame _, fun h => by cases h⟩

theorem over : Rows.strandSurvivesRow.holds Try.pinned (OpenSpec.ofChange Rows.strandSurvivesSpec) :=
  OpenClaim.holds_of_wide 7 Try.f7 rfl rfl rfl rfl rfl rfl rfl ⟨rfl, rfl, rfl, rfl, rfl⟩ rfl rfl rfl rfl rfl (by kernel_rfl) Try.func7 (by kernel_rfl)
    (of_decide_eq_true (by kernel_rfl)) (by unfold Func.isWrapper; first | (rw [if_pos (by decide +kernel)]; kernel_rfl) | (rw [if_neg (by decide +kernel)]; exact ⟨rfl, rfl⟩))
    (fun os started H enc _ => lifted os started H enc)

end Go.Proofs.Ytlgkndebhafliaa.strandSurvives
namespace Go.Proofs.Ytlgkndebhafliaa
theorem strandSurvives_holds : Rows.StrandSurvivesSaid := strandSurvives.over
#print axioms strandSurvives_holds
end Go.Proofs.Ytlgkndebhafliaa
