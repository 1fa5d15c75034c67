/- StrandNever: a sector that a call failed over is never written again. -/
import Derived.Test.YtlgkndebhafliaaStrDeeds
import Derived.Test.YtlgkndebhafliaaRows
set_option maxRecDepth 100000
namespace Go.Proofs.Ytlgkndebhafliaa.strandNever
open Go.ChangeShapes Go.WideShapes Go.ChangeAt Go.RowKit

theorem fit_pos (t : Sd) (b : List Int) : t.pos ≤ (t.fit b).pos := by unfold Sd.fit; split <;> simp [Sd.leave]

theorem app_pos (s : St) (t : Sd) (b : List Int) : t.pos ≤ (appT s t b).pos ∧ (appE s t b = 8 → (appT s t b).used = 0) := by
  have hf := fit_pos t b
  unfold appT appE
  split
  · refine ⟨Nat.le_refl _, fun h => ?_⟩
    unfold frameE at h
    split at h
    · cases h
    · split at h
      · cases h
      · cases h
  · split
    · exact ⟨hf, fun h => by cases h⟩
    · split
      · rename_i h0
        exact ⟨hf, fun h => by rw [h0] at h; cases h⟩
      · exact ⟨by simp [Sd.leave]; omega, fun _ => rfl⟩

theorem syn_pos (s : St) (t : Sd) : t.pos ≤ (synT s t).pos ∧ (errC s.out ≠ 0 → (synT s t).used = 0) := by
  unfold synT
  split
  · exact ⟨by simp [Sd.leave], fun _ => rfl⟩
  · rename_i h
    refine ⟨Nat.le_refl _, fun h0 => ?_⟩
    by_cases hu : 0 < t.used
    · exact absurd ⟨h0, hu⟩ h
    · omega

/-- Between two deeds. -/
structure Nv (w : World) (l : List De) (D S k low : Nat) (wr : World) : Prop where
  it : ∃ s p t q tag, PD wr tag w.heap.size 1 s p ∧ PO wr tag w.heap.size 2 D t q ∧ p.D = D ∧ q.S = S ∧ t.Ok s.n ∧ Few s 60 k ∧ s.outs.length ≤ sumD l k ∧ t.recs.length ≤ k ∧ low ≤ t.pos ∧ (∀ j, j < w.heap.size → tag j = 0)
  below : Below w.heap.size w wr

/-- A deed's bytes, in a later world. -/
theorem dee_held {w wr : World} {v : Value} {B O : Nat} {l : List De} (h : Dees w v B O l) (hb : Below w.heap.size w wr) {tag : Nat → Nat} (ht : ∀ j, j < w.heap.size → tag j = 0) (i : Nat) (hi : i < l.length) : Bts wr l[i].vb l[i].b ∧ (l[i].b ≠ [] → Held wr tag l[i].vb l[i].b) := by
  have h0 := (h.ok i hi).bt
  refine ⟨h0.later hb, fun hne => ⟨h0.later hb, fun g hg => ?_⟩⟩
  have hlt := bts_lt h0 hne g hg
  exact ⟨ht g hlt, Nat.lt_of_lt_of_le hlt hb.size⟩

set_option maxHeartbeats 16000000 in
theorem walk (v0 : Value) (w : World) (V0 : IsDees w v0) : Calls Try.prog 8 #[v0] w fun e w' => e = .returned (.bool true) ∧ Below w.heap.size w w' := by
  obtain ⟨B, O, l, hDl⟩ := V0
  have HD : Hid (Dees w v0 B O l) := hDl
  obtain ⟨a, cap, rfl, hl, hm, ha, _⟩ := hDl
  unfold maxLen at hm
  go_enter Try.func8, Try.ntmps8
  go_wp2_with (go_at_call 9; refine (awake8_ok _).mono ?_; rintro e w1 ⟨rfl, hB1⟩)
  refine (room8_ok w1 _ B O l (HD.out.later hB1)).mono ?_
  rintro e w1' ⟨rfl, hx⟩
  rw [hx]
  clear hx
  by_cases hroom : roomD l = true
  case neg =>
    have hr' : roomD l = false := by simpa using hroom
    rw [hr']
    clear hroom hr'
    go_wp2
    go_ret
    exact ⟨rfl, hB1⟩
  obtain ⟨hl200, _, hsum⟩ := room_few hroom
  rw [hroom]
  clear hroom
  go_wp2_with fail
  refine (both_ok w1 (fun _ => 0) w.heap.size 1 3 60 60 rfl hB1.size (by omega) (by omega)).mono ?_
  rintro e w2 ⟨p, pm, tag2, rfl, hP2, _, hT2, hB2⟩
  have hB02 := hB1.trans (hB2.mono hB1.size)
  have HO := open_ok w2 tag2 w.heap.size 1 2 (by omega) _ p hP2 hB02.size
  rw [openT_new] at HO
  go_wp2_with fail
  refine HO.mono ?_
  rintro e w3 ⟨q, tag3, rfl, hQ3, hT3, hB3⟩
  have hP3 : PD w3 tag3 w.heap.size 1 (St.new 60) p := hP2.keep (fun k hk _ => hB3.block k hk) hT3
  have hB03 := hB02.trans (hB3.mono hB02.size)
  have hok := (openT_ok (St.ok_new (n := 60) (by omega) (by omega))).1
  rw [openT_new] at hok
  have HN0 : Hid (Nv w l p.D q.S 0 0 w3) := ⟨⟨_, p, _, q, tag3, hP3, hQ3, rfl, rfl, hok, few_new 60 0, by simp [St.new], by simp, Nat.zero_le _, fun j hj => by
    have := hB1.size
    have := hB2.size
    rw [hT3 j (by omega), hT2 j (by omega)]⟩, hB03⟩
  clear hP2 hQ3 hT3 hB3 hP3 hok hB03 HO hB02 hB2 hT2 hB1
  go_wp2_with fail
  go_loopg [7, 8] l.length (fun gk low i wr => ∃ k lo : Nat, k + gk = l.length ∧ i = .int .i64 k ∧ low = .int .i64 lo ∧ Nv w l p.D q.S k lo wr)
  case atStart => exact ⟨0, 0, by omega, rfl, rfl, HN0.out⟩
  case round =>
    obtain ⟨k, lo, hk, rfl, rfl, hN⟩ := hrel
    obtain ⟨s, p1, t, q1, tag, hP, hQ, hD, hS, hok, hfew, hou, hrc, hlo, htag⟩ := hN.it
    have hBel := hN.below
    clear hN
    by_cases hlt : k < l.length
    case neg =>
      have hge : (l.length : Int) ≤ (k : Int) := by omega
      clear hP hQ
      go_wp2
      go_ret
      exact ⟨rfl, hBel⟩
    have hltI : (k : Int) < (l.length : Int) := by omega
    rcases ha with rfl | hnil
    case inr => rw [hnil] at hlt; simp at hlt
    have HPl := place_ok wr tag w.heap.size 2 p.D t q1 hQ
    rw [hS] at HPl
    go_wp2_with fail
    refine HPl.mono ?_
    rintro e w5 ⟨rfl, hB5⟩
    have hB05 := hBel.trans (hB5.mono hBel.size)
    have hP5 := hP.later hB5
    have hQ5 := hQ.later hB5
    obtain ⟨c0, c1⟩ := (HD.out.later hB05).cell k hlt
    obtain ⟨hb5, hh5⟩ := dee_held HD.out hB05 htag k hlt
    have hoI := (HD.out.ok k hlt).o1
    have hs1 := sumD_succ l k hlt
    have hs2 := sumD_mono l (k + 1)
    have hbb : isBytes l[k].b := by obtain ⟨_, _, _, _, _, _, _, hb, _⟩ := hb5; exact hb
    have hpn := hok.pn
    have hn60 := hfew.n
    have hops := hfew.ops
    have hsin := hfew.sin
    clear HPl hP hQ hB5 hBel
    obtain ⟨va, vc, hvv, _⟩ := bts_src hb5
    rw [hvv] at c1 hb5 hh5
    clear hvv
    have HS1 : Hid (sumD l (k + 1) = sumD l k + l[k].b.length) := hs1
    have HS2 : Hid (sumD l (k + 1) ≤ sumD l l.length) := hs2
    clear hs1 hs2
    generalize l[k].dO = dO at *
    generalize l[k].b = b at *
    obtain ⟨hoI1, hoI2⟩ := hoI
    by_cases h4 : dO ≤ 4
    · have HA := append_any8 w5 tag w.heap.size 1 2 (by omega) (by omega) (by omega) s p1 hP5 t q1 p.D q.S hD hS hQ5 hB05.size hok _ b hb5 hh5 (by omega) (by have := HS1.out; have := HS2.out; omega) (by omega) (by omega)
      obtain ⟨hpp, hbd⟩ := app_pos s t b
      have hok2 := appT_ok (s := s) hok b hbb
      have hfew2 := hfew.app t b
      have hou2 := outs_app s t b
      have HB05 : Hid (Below w.heap.size w w5) := hB05
      clear hP5 hQ5 hb5 hh5 hB05
      go_wp2_with fail
      refine HA.mono ?_
      rintro e w6 ⟨rfl, p6, q6, tag6, hD6, hS6, hP6, hQ6, hSt6⟩
      have hn6 : (appS s t b).n = s.n := by rw [hfew2.n, hfew.n]
      rw [← hn6] at hok2
      generalize appS s t b = s6 at *
      generalize appT s t b = t6 at *
      generalize appE s t b = E at *
      clear HA
      have hN6 : ∀ lo', lo' ≤ t6.pos → Nv w l p.D q.S (k + 1) lo' w6 := fun lo' hlo' => ⟨⟨s6, p6, t6, q6, tag6, hP6, hQ6, hD6, hS6, hok2.1, hfew2, by have := HS1.out; omega, by have := hok2.2; omega, hlo', fun j hj => by rw [hSt6.tags j (Nat.lt_of_lt_of_le hj HB05.out.size)]; exact htag j hj⟩, HB05.out.trans hSt6.below⟩
      have HPl := place_ok w6 tag6 w.heap.size 2 p.D t6 q6 hQ6
      rw [hS6] at HPl
      have hpos6 : t6.pos ≤ 60 := by have := hok2.1.pn; have := hfew2.n; omega
      have hus6 := hok2.1.us
      have c1' : ¬ (t6.pos : Int) < (lo : Int) := by omega
      have c2' : ¬ (t6.pos : Int) < (t.pos : Int) := by omega
      have HN6 : Hid (∀ lo', lo' ≤ t6.pos → ∀ w7, Below w6.heap.size w6 w7 → Nv w l p.D q.S (k + 1) lo' w7) := fun lo' hlo' w7 hb7 => by
        obtain ⟨s', p', t', q', tg', x1, x2, x3⟩ := (hN6 lo' hlo').it
        exact ⟨⟨s', p', t', q', tg', x1.later hb7, x2.later hb7, x3⟩, (hN6 lo' hlo').below.trans (hb7.mono (hN6 lo' hlo').below.size)⟩
      clear hN6 hP6 hQ6 hSt6 hok2 hfew2 hou2 hok hfew
      by_cases hbad : E = 8
      · have hu6 := hbd hbad
        rw [hu6] at HPl
        subst hbad
        go_wp2_with fail
        refine HPl.mono ?_
        rintro e w7 ⟨rfl, hB7⟩
        clear HPl
        go_wp2
        go_roundg (l.length - (k + 1))
        case rel => exact ⟨k + 1, t6.pos, by omega, by go_num, rfl, HN6.out _ (Nat.le_refl _) w7 hB7⟩
        case measure => omega
      · have hbad' : (E == 8) = false := by simpa using hbad
        go_wp2_with fail
        refine HPl.mono ?_
        rintro e w7 ⟨rfl, hB7⟩
        clear HPl
        go_wp2
        go_roundg (l.length - (k + 1))
        case rel => exact ⟨k + 1, lo, by omega, by go_num, rfl, HN6.out _ (by omega) w7 hB7⟩
        case measure => omega
    have h4I : ¬ dO ≤ 4 := h4
    by_cases h5 : dO = 5
    · subst h5
      have HSy := ssync_ok w5 tag w.heap.size 1 2 (by omega) s p1 hP5 t q1 (by rw [hD]; exact hQ5) hB05.size (by omega) (by omega) (by have := HS1.out; have := HS2.out; omega) (by omega)
      rw [hS, hD] at HSy
      obtain ⟨hpp, hbd⟩ := syn_pos s t
      have hok2 := synT_ok (s := s) hok
      have hfew2 := hfew.sync
      have hou2 := outs_sync s
      have HB05 : Hid (Below w.heap.size w w5) := hB05
      clear hP5 hQ5 hb5 hh5 hB05
      go_wp2_with fail
      refine HSy.mono ?_
      rintro e w6 ⟨rfl, p6, tag6, hD6, hP6, hQ6, hSt6⟩
      have hn6 : s.sync.n = s.n := by rw [hfew2.n, hfew.n]
      rw [← hn6] at hok2
      have hS6 := hS
      have hrl : (synT s t).recs.length ≤ t.recs.length + 1 := by rw [hok2.2]; omega
      replace hok2 : (synT s t).Ok s.sync.n ∧ (synT s t).recs.length ≤ t.recs.length + 1 := ⟨hok2.1, hrl⟩
      clear hrl
      generalize s.sync = s6 at *
      generalize synT s t = t6 at *
      generalize errC s.out = E at *
      have q6e : q1 = q1 := rfl
      clear HSy q6e
      have hN6 : ∀ lo', lo' ≤ t6.pos → Nv w l p.D q.S (k + 1) lo' w6 := fun lo' hlo' => ⟨⟨s6, p6, t6, q1, tag6, hP6, hQ6, hD6, hS6, hok2.1, hfew2, by have := HS1.out; omega, by have := hok2.2; omega, hlo', fun j hj => by rw [hSt6.tags j (Nat.lt_of_lt_of_le hj HB05.out.size)]; exact htag j hj⟩, HB05.out.trans hSt6.below⟩
      have HPl := place_ok w6 tag6 w.heap.size 2 p.D t6 q1 hQ6
      rw [hS6] at HPl
      have hpos6 : t6.pos ≤ 60 := by have := hok2.1.pn; have := hfew2.n; omega
      have hus6 := hok2.1.us
      have c1' : ¬ (t6.pos : Int) < (lo : Int) := by omega
      have c2' : ¬ (t6.pos : Int) < (t.pos : Int) := by omega
      have HN6 : Hid (∀ lo', lo' ≤ t6.pos → ∀ w7, Below w6.heap.size w6 w7 → Nv w l p.D q.S (k + 1) lo' w7) := fun lo' hlo' w7 hb7 => by
        obtain ⟨s', p', t', q', tg', x1, x2, x3⟩ := (hN6 lo' hlo').it
        exact ⟨⟨s', p', t', q', tg', x1.later hb7, x2.later hb7, x3⟩, (hN6 lo' hlo').below.trans (hb7.mono (hN6 lo' hlo').below.size)⟩
      clear hN6 hP6 hQ6 hSt6 hok2 hfew2 hou2 hok hfew
      by_cases hbad : E ≠ 0
      · have hu6 := hbd hbad
        rw [hu6] at HPl
        have hbad' : (E != 0) = true := by simpa using hbad
        go_wp2_with fail
        refine HPl.mono ?_
        rintro e w7 ⟨rfl, hB7⟩
        clear HPl
        go_wp2
        go_roundg (l.length - (k + 1))
        case rel => exact ⟨k + 1, t6.pos, by omega, by go_num, rfl, HN6.out _ (Nat.le_refl _) w7 hB7⟩
        case measure => omega
      · have hbad' : E = 0 := by simpa using hbad
        subst hbad'
        go_wp2_with fail
        refine HPl.mono ?_
        rintro e w7 ⟨rfl, hB7⟩
        clear HPl
        go_wp2
        go_roundg (l.length - (k + 1))
        case rel => exact ⟨k + 1, lo, by omega, by go_num, rfl, HN6.out _ (by omega) w7 hB7⟩
        case measure => omega
    by_cases h6 : dO = 6
    · subst h6
      have HOu := outcomes_okD w5 tag w.heap.size 1 s p1 hP5 hB05.size _ b hb5 (by have := HS1.out; have := HS2.out; omega) p.D hD
      have hfew2 := hfew.add b
      have hok2 : t.Ok (s.add b).n ∧ t.recs.length ≤ t.recs.length + 1 := ⟨hok, by omega⟩
      have hou2 : (s.add b).outs.length ≤ s.outs.length + b.length := by simp [St.add]
      have HB05 : Hid (Below w.heap.size w w5) := hB05
      have hpp : t.pos ≤ t.pos := Nat.le_refl _
      clear hP5 hb5 hh5 hB05
      go_wp2_with fail
      refine HOu.mono ?_
      rintro e w6 ⟨rfl, p6, tag6, hD6, hP6, hSt0⟩
      have hQ6 := hQ5.other hSt0 (by omega)
      have hSt6 := hSt0.two1 2
      have hS6 := hS
      generalize s.add b = s6 at *
      obtain ⟨t6, ht6⟩ : ∃ t6, t6 = t := ⟨_, rfl⟩
      rw [← ht6] at hQ6 hok2
      have hrl6 : t.recs.length = t6.recs.length := by rw [ht6]
      rw [← hrl6] at hok2
      have hpp6 : t.pos = t6.pos := by rw [ht6]
      clear HOu hQ5 hSt0 ht6
      have hN6 : ∀ lo', lo' ≤ t6.pos → Nv w l p.D q.S (k + 1) lo' w6 := fun lo' hlo' => ⟨⟨s6, p6, t6, q1, tag6, hP6, hQ6, hD6, hS6, hok2.1, hfew2, by have := HS1.out; omega, by have := hok2.2; omega, hlo', fun j hj => by rw [hSt6.tags j (Nat.lt_of_lt_of_le hj HB05.out.size)]; exact htag j hj⟩, HB05.out.trans hSt6.below⟩
      have HPl := place_ok w6 tag6 w.heap.size 2 p.D t6 q1 hQ6
      rw [hS6] at HPl
      have hpos6 : t6.pos ≤ 60 := by have := hok2.1.pn; have := hfew2.n; omega
      have hus6 := hok2.1.us
      have c1' : ¬ (t6.pos : Int) < (lo : Int) := by omega
      have c2' : ¬ (t6.pos : Int) < (t.pos : Int) := by omega
      have HN6 : Hid (∀ lo', lo' ≤ t6.pos → ∀ w7, Below w6.heap.size w6 w7 → Nv w l p.D q.S (k + 1) lo' w7) := fun lo' hlo' w7 hb7 => by
        obtain ⟨s', p', t', q', tg', x1, x2, x3⟩ := (hN6 lo' hlo').it
        exact ⟨⟨s', p', t', q', tg', x1.later hb7, x2.later hb7, x3⟩, (hN6 lo' hlo').below.trans (hb7.mono (hN6 lo' hlo').below.size)⟩
      clear hN6 hP6 hQ6 hSt6 hok2 hfew2 hou2 hok hfew
      go_wp2_with fail
      refine HPl.mono ?_
      rintro e w7 ⟨rfl, hB7⟩
      clear HPl
      go_wp2
      go_roundg (l.length - (k + 1))
      case rel => exact ⟨k + 1, lo, by omega, by go_num, rfl, HN6.out _ (by omega) w7 hB7⟩
      case measure => omega
    · have hfew2 := hfew.mono
      have hok2 : t.Ok s.n ∧ t.recs.length ≤ t.recs.length + 1 := ⟨hok, by omega⟩
      have hou2 : s.outs.length ≤ s.outs.length := Nat.le_refl _
      have HB05 : Hid (Below w.heap.size w w5) := hB05
      have hP6 := hP5
      have hQ6 := hQ5
      have hSt6 : Step2 tag tag w.heap.size 1 2 w5 w5 := Step2.refl _ _ _ _ _
      have hS6 := hS
      have hD6 := hD
      obtain ⟨t6, ht6⟩ : ∃ t6, t6 = t := ⟨_, rfl⟩
      rw [← ht6] at hQ6 hok2
      have hrl6 : t.recs.length = t6.recs.length := by rw [ht6]
      have hpp6 : t.pos = t6.pos := by rw [ht6]
      obtain ⟨w6, hw6⟩ : ∃ w6, w6 = w5 := ⟨_, rfl⟩
      obtain ⟨s6, hs6⟩ : ∃ s6, s6 = s := ⟨_, rfl⟩
      rw [← hw6] at hP6 hQ6 hSt6
      rw [← hs6] at hP6 hok2 hfew2
      have hou6 : s6.outs.length = s.outs.length := by rw [hs6]
      rw [← hw6] at c0 c1
      have hSt6' : Step2 tag tag w.heap.size 1 2 w5 w6 := by rw [hw6]; exact Step2.refl _ _ _ _ _
      replace hSt6 := hSt6'
      clear hP5 hQ5 hb5 hh5 hB05 ht6 hs6 hSt6'
      have p6 := p1
      rw [← hw6]
      clear hw6
      have hN6 : ∀ lo', lo' ≤ t6.pos → Nv w l p.D q.S (k + 1) lo' w6 := fun lo' hlo' => ⟨⟨s6, p1, t6, q1, tag, hP6, hQ6, hD6, hS6, hok2.1, hfew2, by have := HS1.out; omega, by have := hok2.2; omega, hlo', fun j hj => by rw [hSt6.tags j (Nat.lt_of_lt_of_le hj HB05.out.size)]; exact htag j hj⟩, HB05.out.trans hSt6.below⟩
      have HPl := place_ok w6 tag w.heap.size 2 p.D t6 q1 hQ6
      rw [hS6] at HPl
      have hpos6 : t6.pos ≤ 60 := by have := hok2.1.pn; have := hfew2.n; omega
      have hus6 := hok2.1.us
      have c1' : ¬ (t6.pos : Int) < (lo : Int) := by omega
      have c2' : ¬ (t6.pos : Int) < (t.pos : Int) := by omega
      have HN6 : Hid (∀ lo', lo' ≤ t6.pos → ∀ w7, Below w6.heap.size w6 w7 → Nv w l p.D q.S (k + 1) lo' w7) := fun lo' hlo' w7 hb7 => by
        obtain ⟨s', p', t', q', tg', x1, x2, x3⟩ := (hN6 lo' hlo').it
        exact ⟨⟨s', p', t', q', tg', x1.later hb7, x2.later hb7, x3⟩, (hN6 lo' hlo').below.trans (hb7.mono (hN6 lo' hlo').below.size)⟩
      clear hN6 hP6 hQ6 hSt6 hok2 hfew2 hou2 hok hfew
      go_wp2_with fail
      refine HPl.mono ?_
      rintro e w7 ⟨rfl, hB7⟩
      clear HPl
      go_wp2
      go_roundg (l.length - (k + 1))
      case rel => exact ⟨k + 1, lo, by omega, by go_num, rfl, HN6.out _ (by omega) w7 hB7⟩
      case measure => omega

set_option maxRecDepth 100000 in
theorem lifted (os : Os) (started : os.Started) (H : Type) (enc : TypeId × Value → H) :
    ReturnsInHanded {} Try.checked os 8 .any (Rows.strandNeverSpec.pre6 enc Try.prog Try.f8 Rows.strandNeverRow.domain false) (Rows.strandNeverSpec.post enc Try.prog Try.f8 false true false false) := by
  refine returnsInHanded_of_change_sized (C := Try.checked) own started (by kernel_rfl) Try.func8
    (ChangeSpec.witness6 (enc := enc) (C := Try.checked) false ⟨#[], #[.slice none 0 0], []⟩ 8 (by kernel_rfl) (by kernel_rfl) (by kernel_rfl) (by kernel_rfl)) ?_
  intro W base args ds gs before hval0 hW hcnd hsz0 _
  have hval : ∀ (j : Nat) t v, Try.f8.params[j]? = some t → args[j]? = some v → Value.okWide Try.prog W .any base t v := hval0
  have hsz : ∀ n ∈ DataW.weightsEach Try.prog (Try.f8.params.toList ++ Rows.strandNeverSpec.plain.varTypes Try.prog) (ds ++ gs), n ≤ reachBytes := fun n hn => by simpa using List.all_eq_true.1 hsz0 n hn
  have hW' := hW
  obtain ⟨p, q, hA0, hV, rfl, hfz, hnd⟩ := hW
  have hA : DataW.TrodAll enc Try.prog W 0 (fun _ => true) true Try.f8.params.toList args.toList ds p := hA0
  rw [Try.params8] at hA hval hsz
  obtain ⟨v0, vs0, d0, ds0, p0, q0, hargs, rfl, rfl, h0, r0⟩ := trodAll_cons hA
  obtain ⟨rfl, rfl, rfl⟩ := trodAll_nil r0
  obtain rfl : args = #[v0] := by cases args; simp_all
  obtain ⟨rfl, rfl⟩ := trodVars_none hV
  have lt0 : ∀ x ∈ p0, x.block < W.heap.size := by obtain ⟨m, hm⟩ := h0; exact DataW.trod_lt m _ _ _ hm
  have V0 := viewDe (hval 0 45 v0 rfl rfl) h0 (fun n hn => hsz n (DataW.weights_mem_each (j := 0) rfl rfl n hn))
  clear hA0 hval0 hsz0 hsz
  refine (walk v0 W V0).mono fun e W' ⟨he, bel⟩ => ?_
  subst he
  exact ⟨_, rfl, _, _, _, [], _, [], hW', trodAll_mk1 (shut_bool Try.underlying4 _), (trodAll_cons_mk (Below.trod laidOut (by kernel_rfl) (of_decide_eq_true (by kernel_rfl)) h0 bel lt0) trodAll_mk0), rfl, bel.frame _, fun h => by cases h⟩

theorem over : Rows.strandNeverRow.holds Try.pinned (OpenSpec.ofChange Rows.strandNeverSpec) :=
  OpenClaim.holds_of_wide 8 Try.f8 rfl rfl rfl rfl rfl rfl rfl ⟨rfl, rfl, rfl, rfl, rfl⟩ rfl rfl rfl rfl rfl (by kernel_rfl) Try.func8 (by kernel_rfl)
    (of_decide_eq_true (by kernel_rfl)) (by unfold Func.isWrapper; first | (rw [if_pos (by decide +kernel)]; kernel_rfl) | (rw [if_neg (by decide +kernel)]; exact ⟨rfl, rfl⟩))
    (fun os started H enc _ => lifted os started H enc)

end Go.Proofs.Ytlgkndebhafliaa.strandNever
namespace Go.Proofs.Ytlgkndebhafliaa
theorem strandNever_holds : Rows.StrandNeverSaid := strandNever.over
#print axioms strandNever_holds
end Go.Proofs.Ytlgkndebhafliaa
