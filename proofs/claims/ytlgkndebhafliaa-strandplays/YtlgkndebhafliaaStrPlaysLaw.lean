/- StrandPlays: whatever is appended, synced, let fail, crashed, opened: each answer, what the strand tells, and the disk's bytes are what the model says. -/
import Derived.Test.YtlgkndebhafliaaM23
import Derived.Test.YtlgkndebhafliaaSecRef7
import Derived.Test.YtlgkndebhafliaaRows
set_option maxRecDepth 100000
namespace Go.Proofs.Ytlgkndebhafliaa.strandPlays
open Go.ChangeShapes Go.WideShapes Go.ChangeAt Go.RowKit
attribute [local go_sem ↓] Go.wp_at_zero Go.wp_at_succ

/-- The program's disk and strand, the document's disk and strand. -/
structure Pl (w : World) (n : Nat) (l : List De) (k : Nat) (s : St) (p : PL) (pm : ML) (t : Sd) (q : SL) (qm : TL) (tag : Nat → Nat) (wr : World) : Prop where
  pd : PD wr tag w.heap.size 1 s p
  po : PO wr tag w.heap.size 2 p.D t q
  md : MD wr tag w.heap.size 3 s pm
  ms : MSt wr tag w.heap.size 4 pm.M s.n t qm
  ok : t.Ok s.n
  few : Few s n k
  outs : s.outs.length ≤ sumD l k
  recs : t.recs.length ≤ 300 + k
  z : ∀ j, j < w.heap.size → tag j = 0
  below : Below w.heap.size w wr

theorem Pl.later {w wr w' : World} {n : Nat} {l : List De} {k : Nat} {s : St} {p : PL} {pm : ML} {t : Sd} {q : SL} {qm : TL} {tag : Nat → Nat} (h : Pl w n l k s p pm t q qm tag wr) (hb : Below wr.heap.size wr w') : Pl w n l k s p pm t q qm tag w' :=
  ⟨h.pd.later hb, h.po.later hb, h.md.later hb, h.ms.later hb, h.ok, h.few, h.outs, h.recs, h.z, h.below.trans (hb.mono h.below.size)⟩

/-- What the loop keeps. -/
def Inv (w : World) (n : Nat) (l : List De) (k : Nat) (dv xv sv mv : Value) (wr : World) : Prop :=
  ∃ (s : St) (p : PL) (pm : ML) (t : Sd) (q : SL) (qm : TL) (tag : Nat → Nat), dv = .pointer (some ⟨p.D, 0, none⟩) ∧ xv = .pointer (some ⟨pm.M, 0, none⟩) ∧ sv = .pointer (some ⟨q.S, 0, none⟩) ∧ mv = .pointer (some ⟨qm.T, 0, none⟩) ∧ Pl w n l k s p pm t q qm tag wr

theorem dee_any {w wr : World} {v : Value} {B O : Nat} {l : List De} (h : Dees w v B O l) (hb : Below w.heap.size w wr) {tag : Nat → Nat} (ht : ∀ j, j < w.heap.size → tag j = 0) (i : Nat) (hi : i < l.length) : Bts wr l[i].vb l[i].b ∧ (l[i].b ≠ [] → Held wr tag l[i].vb l[i].b) := by
  have h0 := (h.ok i hi).bt
  refine ⟨h0.later hb, fun hne => ⟨h0.later hb, fun g hg => ?_⟩⟩
  have hlt := bts_lt h0 hne g hg
  exact ⟨ht g hlt, Nat.lt_of_lt_of_le hlt hb.size⟩

set_option maxHeartbeats 4000000 in
theorem walk_out (N : Int) (B O : Nat) (l : List De) (v1 : Value) (w : World) (hd : Dees w v1 B O l) (hb : N < 1 ∨ 30 < N) : Calls Try.prog 6 #[.int .i64 N, v1] w fun e w' => e = .returned (.bool true) ∧ Below w.heap.size w w' := by
  obtain ⟨a, cap, rfl, hl, hm, ha, _⟩ := hd
  unfold maxLen at hm
  rcases hb with h | h
  · go_enter Try.func6, Try.ntmps6
    go_wp2_with (go_at_call 9; refine (awake8_ok _).mono ?_; rintro e w1 ⟨rfl, hA⟩)
    go_ret
    exact ⟨rfl, hA⟩
  · have h1 : ¬ N < 1 := by omega
    go_enter Try.func6, Try.ntmps6
    go_wp2_with (go_at_call 9; refine (awake8_ok _).mono ?_; rintro e w1 ⟨rfl, hA⟩)
    go_ret
    exact ⟨rfl, hA⟩

set_option maxHeartbeats 16000000 in
theorem walk_in (n : Nat) (B O : Nat) (l : List De) (v1 : Value) (w : World) (hDl : Dees w v1 B O l) (n1 : 1 ≤ n) (n2 : n ≤ 30) : Calls Try.prog 6 #[.int .i64 n, v1] w fun e w' => e = .returned (.bool true) ∧ Below w.heap.size w w' := by
  have HD : Hid (Dees w v1 B O l) := hDl
  obtain ⟨a, cap, rfl, hl, hm, ha, _⟩ := hDl
  unfold maxLen at hm
  have h1 : ¬ (n : Int) < 1 := by omega
  have h30 : ¬ (30 : Int) < (n : Int) := by omega
  go_enter Try.func6, Try.ntmps6
  go_wp2_with (go_at_call 9; refine (awake8_ok _).mono ?_; rintro e w1 ⟨rfl, hB1⟩)
  refine (room8_ok w1 _ B O l (HD.out.later hB1)).mono ?_
  rintro e w1' ⟨rfl, hx⟩
  rw [hx]
  clear hx
  by_cases hroom : roomD l = true
  case neg =>
    have hr' : roomD l = false := by simpa using hroom
    rw [hr']
    clear hroom hr'
    go_wp2
    go_ret
    exact ⟨rfl, hB1⟩
  obtain ⟨hl200, _, hsum⟩ := room_few hroom
  rw [hroom]
  clear hroom
  go_wp2_with fail
  refine (both_ok w1 (fun _ => 0) w.heap.size 1 3 n n rfl hB1.size n1 (by omega)).mono ?_
  rintro e w2 ⟨p, pm, tag2, rfl, hP2, hM2, hT2, hB2⟩
  have hB02 := hB1.trans (hB2.mono hB1.size)
  have HO := open_ok w2 tag2 w.heap.size 1 2 (by omega) _ p hP2 hB02.size
  rw [openT_new] at HO
  go_wp2_with fail
  refine HO.mono ?_
  rintro e w3 ⟨q, tag3, rfl, hQ3, hT3, hB3⟩
  have hP3 : PD w3 tag3 w.heap.size 1 (St.new n) p := hP2.keep (fun k hk _ => hB3.block k hk) hT3
  have hM3 : MD w3 tag3 w.heap.size 3 (St.new n) pm := hM2.keep (fun k hk _ => hB3.block k hk) hT3
  have hB03 := hB02.trans (hB3.mono hB02.size)
  have HO2 := ropen_ok w3 tag3 w.heap.size 3 4 _ pm hM3 hB03.size
  rw [openT_new] at HO2
  clear HO
  go_wp2_with fail
  refine HO2.mono ?_
  rintro e w4 ⟨qm, tag4, rfl, hS4, hT4, hB4⟩
  have hok := (openT_ok (St.ok_new n1 (by omega))).1
  rw [openT_new] at hok
  have HN0 : Hid (Inv w n l 0 (.pointer (some ⟨p.D, 0, none⟩)) (.pointer (some ⟨pm.M, 0, none⟩)) (.pointer (some ⟨q.S, 0, none⟩)) (.pointer (some ⟨qm.T, 0, none⟩)) w4) := by
    refine ⟨St.new n, p, pm, _, q, qm, tag4, rfl, rfl, rfl, rfl, hP3.keep (fun k hk _ => hB4.block k hk) hT4, hQ3.keep (fun k hk _ => hB4.block k hk) hT4 hB4.size, hM3.keep (fun k hk _ => hB4.block k hk) hT4, hS4, hok, few_new n 0, by simp [St.new], by simp, fun j hj => ?_, hB03.trans (hB4.mono hB03.size)⟩
    have := hB1.size
    have := hB2.size
    have := hB3.size
    rw [hT4 j (by omega), hT3 j (by omega), hT2 j (by omega)]
  clear hP2 hM2 hQ3 hT3 hB3 hP3 hM3 hok hB03 HO2 hB02 hB2 hT2 hB1 hS4 hT4 hB4
  go_wp2_with fail
  go_loopg [5, 6, 7, 9, 11] l.length (fun gk dv xv sv mv i wr => ∃ k : Nat, k + gk = l.length ∧ i = .int .i64 k ∧ Inv w n l k dv xv sv mv wr)
  case atStart => exact ⟨0, by omega, rfl, HN0.out⟩
  case round =>
    clear HN0
    obtain ⟨w0, rfl⟩ : ∃ w0, w0 = wr := ⟨wr, rfl⟩
    obtain ⟨k, hk, rfl, s, p1, pm1, t, q1, qm1, tag, rfl, rfl, rfl, rfl, hP⟩ := hrel
    by_cases hlt : k < l.length
    case neg =>
      have hge : ¬ (k : Int) < (l.length : Int) := by omega
      have hBel := hP.below
      clear hP
      go_wp2
      go_ret
      exact ⟨rfl, hBel⟩
    have hltI : (k : Int) < (l.length : Int) := by omega
    rcases ha with rfl | hnil
    case inr => rw [hnil] at hlt; simp at hlt
    obtain ⟨c0, c1⟩ := (HD.out.later hP.below).cell k hlt
    obtain ⟨hb5, hh5⟩ := dee_any HD.out hP.below hP.z k hlt
    have HDe : Hid (∀ (wx : World) (tg : Nat → Nat), Below w.heap.size w wx → (∀ j, j < w.heap.size → tg j = 0) → Bts wx l[k].vb l[k].b ∧ (l[k].b ≠ [] → Held wx tg l[k].vb l[k].b)) := fun wx tg hb hz => dee_any HD.out hb hz k hlt
    have HCe : Hid (∀ wx, Below w.heap.size w wx → wx.cell? ⟨B, O + k * 2, none⟩ = some (.int .i64 l[k].dO) ∧ wx.cell? ⟨B, O + k * 2 + 1, none⟩ = some l[k].vb) := fun wx hx => (HD.out.later hx).cell k hlt
    have hoI := (HD.out.ok k hlt).o1
    have HS1 : Hid (sumD l (k + 1) = sumD l k + l[k].b.length) := sumD_succ l k hlt
    have HS2 : Hid (sumD l (k + 1) ≤ sumD l l.length) := sumD_mono l (k + 1)
    have hbb : isBytes l[k].b := by obtain ⟨_, _, _, _, _, _, _, hb, _⟩ := hb5; exact hb
    have hpn := hP.ok.pn
    have hn60 := hP.few.n
    have hops := hP.few.ops
    have hsin := hP.few.sin
    have hou := hP.outs
    have hrc := hP.recs
    have hok := hP.ok
    have HP : Hid (Pl w n l k s p1 pm1 t q1 qm1 tag w0) := hP
    clear hP
    obtain ⟨va, vc, hvv, _⟩ := bts_src hb5
    rw [hvv] at c1 hb5 hh5 HDe HCe
    clear hvv
    generalize l[k].dO = dO at *
    generalize l[k].b = b at *
    obtain ⟨hoI1, hoI2⟩ := hoI
    by_cases h4 : dO ≤ 4
    · have HA := append_any8 w0 tag w.heap.size 1 2 (by omega) (by omega) (by omega) s p1 HP.out.pd t q1 p1.D q1.S rfl rfl HP.out.po HP.out.below.size hok _ b hb5 hh5 (by omega) (by have := HS1.out; have := HS2.out; omega) (by omega) (by omega)
      have hok2 := appT_ok (s := s) hok b hbb
      have hfew2 := HP.out.few.app t b
      have hou2 := outs_app s t b
      have hn6 : (appS s t b).n = s.n := by rw [hfew2.n, hn60]
      clear hb5 hh5
      go_wp2_with fail
      refine HA.mono ?_
      rintro e w6 ⟨rfl, p6, q6, tag6, hD6, hS6, hP6, hQ6, hSt6⟩
      have hM6 := HP.out.md.other2 hSt6 (by omega) (by omega)
      have hR6 := HP.out.ms.other2 hSt6 (by omega) (by omega)
      have hB6 := HP.out.below.trans hSt6.below
      have hz6 : ∀ j, j < w.heap.size → tag6 j = 0 := fun j hj => by rw [hSt6.tags j (Nat.lt_of_lt_of_le hj HP.out.below.size)]; exact HP.out.z j hj
      obtain ⟨d1, d2⟩ := HDe.out w6 tag6 hB6 hz6
      obtain ⟨c0', c1'⟩ := HCe.out w6 hB6
      have HA2 := rappend_any w6 tag6 w.heap.size 3 4 (by omega) (by omega) (by omega) s pm1 hM6 t qm1 pm1.M qm1.T rfl rfl hR6 hB6.size hok _ b d1 d2 (by omega) (by have := HS1.out; have := HS2.out; omega) (by omega) (by omega)
      have HM6 : Hid (PD w6 tag6 w.heap.size 1 (appS s t b) p6 ∧ PO w6 tag6 w.heap.size 2 p1.D (appT s t b) q6 ∧ Below w.heap.size w w6 ∧ ∀ j, j < w.heap.size → tag6 j = 0) := ⟨hP6, hQ6, hB6, hz6⟩
      clear HA hP6 hQ6 hM6 hR6 hSt6 hB6 hz6 d1 d2
      go_wp2_with fail
      refine HA2.mono ?_
      rintro e w7 ⟨rfl, p7, q7, tag7, hD7, hS7, hP7, hQ7, hSt7⟩
      have HPl : Hid (Pl w n l (k + 1) (appS s t b) p6 p7 (appT s t b) q6 q7 tag7 w7) := ⟨HM6.out.1.other2 hSt7 (by omega) (by omega), by rw [hD6]; exact HM6.out.2.1.other2 hSt7 (by omega) (by omega), hP7, by rw [hD7, hn6]; exact hQ7, by rw [hn6]; exact hok2.1, hfew2, by have := HS1.out; omega, by have := hok2.2; omega, fun j hj => by rw [hSt7.tags j (Nat.lt_of_lt_of_le hj HM6.out.2.2.1.size)]; exact HM6.out.2.2.2 j hj, HM6.out.2.2.1.trans hSt7.below⟩
      have HLk := looks8_ok w7 tag7 w.heap.size (appS s t b) p6 HPl.out.pd (appT s t b) q6 HPl.out.po p7 HPl.out.md q7 HPl.out.ms HPl.out.ok (by have := HPl.out.recs; omega)
      rw [hD6, hS6, hS7] at HLk
      clear HA2 hP7 hQ7 hSt7 hok2 hfew2 hou2 HM6
      go_wp2_with fail
      refine HLk.mono ?_
      rintro e w8 ⟨rfl, hB8⟩
      clear HLk
      go_wp2
      go_roundg (l.length - (k + 1))
      case rel => exact ⟨k + 1, by omega, by go_num, _, _, _, _, _, _, _, by rw [hD6], by rw [hD7], by rw [hS6], by rw [hS7], HPl.out.later hB8⟩
      case measure => omega
    have h4I : ¬ dO ≤ 4 := h4
    by_cases h5 : dO = 5
    · subst h5
      have HSy := ssync_ok w0 tag w.heap.size 1 2 (by omega) s p1 HP.out.pd t q1 HP.out.po HP.out.below.size (by omega) (by omega) (by have := HS1.out; have := HS2.out; omega) (by omega)
      have hok2 := synT_ok (s := s) hok
      have hfew2 := HP.out.few.sync
      have hou2 := outs_sync s
      have hn6 : s.sync.n = s.n := by rw [hfew2.n, hn60]
      clear hb5 hh5
      go_wp2_with fail
      refine HSy.mono ?_
      rintro e w6 ⟨rfl, p6, tag6, hD6, hP6, hQ6, hSt6⟩
      have hM6 := HP.out.md.other2 hSt6 (by omega) (by omega)
      have hR6 := HP.out.ms.other2 hSt6 (by omega) (by omega)
      have hB6 := HP.out.below.trans hSt6.below
      have hz6 : ∀ j, j < w.heap.size → tag6 j = 0 := fun j hj => by rw [hSt6.tags j (Nat.lt_of_lt_of_le hj HP.out.below.size)]; exact HP.out.z j hj
      have HA2 := rsync8_ok w6 tag6 w.heap.size 3 4 (by omega) s pm1 hM6 t qm1 hR6 (by omega) (by omega) (by have := HS1.out; have := HS2.out; omega)
      have HM6 : Hid (PD w6 tag6 w.heap.size 1 s.sync p6 ∧ PO w6 tag6 w.heap.size 2 p1.D (synT s t) q1 ∧ Below w.heap.size w w6 ∧ ∀ j, j < w.heap.size → tag6 j = 0) := ⟨hP6, hQ6, hB6, hz6⟩
      clear HSy hP6 hQ6 hM6 hR6 hSt6 hB6 hz6
      go_wp2_with fail
      refine HA2.mono ?_
      rintro e w7 ⟨rfl, p7, hD7, hP7, hQ7, hSt7⟩
      have HPl : Hid (Pl w n l (k + 1) s.sync p6 p7 (synT s t) q1 qm1 tag6 w7) := ⟨HM6.out.1.other2 hSt7 (by omega) (by omega), by rw [hD6]; exact HM6.out.2.1.other2 hSt7 (by omega) (by omega), hP7, by rw [hD7, hn6]; exact hQ7, by rw [hn6]; exact hok2.1, hfew2, by have := HS1.out; omega, by rw [hok2.2]; omega, HM6.out.2.2.2, HM6.out.2.2.1.trans hSt7.below⟩
      have HLk := looks8_ok w7 tag6 w.heap.size s.sync p6 HPl.out.pd (synT s t) q1 HPl.out.po p7 HPl.out.md qm1 HPl.out.ms HPl.out.ok (by have := HPl.out.recs; omega)
      rw [hD6] at HLk
      clear HA2 hP7 hQ7 hSt7 hok2 hfew2 hou2 HM6
      go_wp2_with fail
      refine HLk.mono ?_
      rintro e w8 ⟨rfl, hB8⟩
      clear HLk
      go_wp2
      go_roundg (l.length - (k + 1))
      case rel => exact ⟨k + 1, by omega, by go_num, _, _, _, _, _, _, _, by rw [hD6], by rw [hD7], rfl, rfl, HPl.out.later hB8⟩
      case measure => omega
    have h5I : ¬ dO = 5 := h5
    by_cases h6 : dO = 6
    · subst h6
      have HOu := outcomes_okD w0 tag w.heap.size 1 s p1 HP.out.pd HP.out.below.size _ b hb5 (by have := HS1.out; have := HS2.out; omega) p1.D rfl
      have hfew2 := HP.out.few.add b
      have hou2 : (s.add b).outs.length ≤ s.outs.length + b.length := by simp [St.add]
      clear hb5 hh5
      go_wp2_with fail
      refine HOu.mono ?_
      rintro e w6 ⟨rfl, p6, tag6, hD6, hP6, hSt0⟩
      have hQ6 := HP.out.po.other hSt0 (by omega)
      have hM6 := HP.out.md.other hSt0 (by omega)
      have hR6 := HP.out.ms.other hSt0 (by omega)
      have hB6 := HP.out.below.trans hSt0.below
      have hz6 : ∀ j, j < w.heap.size → tag6 j = 0 := fun j hj => by rw [hSt0.tags j (Nat.lt_of_lt_of_le hj HP.out.below.size)]; exact HP.out.z j hj
      obtain ⟨d1, d2⟩ := HDe.out w6 tag6 hB6 hz6
      obtain ⟨c0', c1'⟩ := HCe.out w6 hB6
      have HA2 := radd_ok w6 tag6 w.heap.size 3 s pm1 hM6 hB6.size _ b d1 (fun hne g hg => (d2 hne).far 3 (by omega) g hg) (by have := HS1.out; have := HS2.out; omega)
      have HM6 : Hid (PD w6 tag6 w.heap.size 1 (s.add b) p6 ∧ PO w6 tag6 w.heap.size 2 p1.D t q1 ∧ MSt w6 tag6 w.heap.size 4 pm1.M s.n t qm1 ∧ Below w.heap.size w w6 ∧ ∀ j, j < w.heap.size → tag6 j = 0) := ⟨hP6, hQ6, hR6, hB6, hz6⟩
      clear HOu hP6 hQ6 hM6 hR6 hSt0 hB6 hz6 d1 d2
      go_wp2_with fail
      refine HA2.mono ?_
      rintro e w7 ⟨rfl, p7, tag7, hD7, hP7, hSt7⟩
      have HPl : Hid (Pl w n l (k + 1) (s.add b) p6 p7 t q1 qm1 tag7 w7) := ⟨HM6.out.1.other hSt7 (by omega), by rw [hD6]; exact HM6.out.2.1.other hSt7 (by omega), hP7, by rw [hD7]; exact HM6.out.2.2.1.other hSt7 (by omega), hok, hfew2, by have := HS1.out; omega, by omega, fun j hj => by rw [hSt7.tags j (Nat.lt_of_lt_of_le hj HM6.out.2.2.2.1.size)]; exact HM6.out.2.2.2.2 j hj, HM6.out.2.2.2.1.trans hSt7.below⟩
      have HLk := looks8_ok w7 tag7 w.heap.size (s.add b) p6 HPl.out.pd t q1 HPl.out.po p7 HPl.out.md qm1 HPl.out.ms HPl.out.ok (by have := HPl.out.recs; omega)
      rw [hD6] at HLk
      clear HA2 hP7 hSt7 hfew2 hou2 HM6
      go_wp2_with fail
      refine HLk.mono ?_
      rintro e w8 ⟨rfl, hB8⟩
      clear HLk
      go_wp2
      go_roundg (l.length - (k + 1))
      case rel => exact ⟨k + 1, by omega, by go_num, _, _, _, _, _, _, _, by rw [hD6], by rw [hD7], rfl, rfl, HPl.out.later hB8⟩
      case measure => omega
    have h6I : ¬ dO = 6 := h6
    by_cases h7 : dO = 7
    · subst h7
      have HC1 := crash_okD w0 tag w.heap.size 1 1 s p1 HP.out.pd HP.out.below.size (by omega) _ b hb5 p1.D rfl
      clear hb5 hh5
      go_wp2_with fail
      refine HC1.mono ?_
      rintro e w5 ⟨p6, tag5, rfl, hP5, hT5, hB5⟩
      have hM5 : MD w5 tag5 w.heap.size 3 s pm1 := HP.out.md.keep (fun k hk _ => hB5.block k hk) hT5
      have hB05 := HP.out.below.trans (hB5.mono HP.out.below.size)
      have hz5 : ∀ j, j < w.heap.size → tag5 j = 0 := fun j hj => by rw [hT5 j (Nat.lt_of_lt_of_le hj HP.out.below.size)]; exact HP.out.z j hj
      obtain ⟨d1, d2⟩ := HDe.out w5 tag5 hB05 hz5
      obtain ⟨c0', c1'⟩ := HCe.out w5 hB05
      have HC2 := rcrash_ok w5 tag5 w.heap.size 3 3 s pm1 hM5 hB05.size (by omega) _ b d1
      have HM5 : Hid (PD w5 tag5 w.heap.size 1 (s.crash b) p6 ∧ Below w.heap.size w w5 ∧ ∀ j, j < w.heap.size → tag5 j = 0) := ⟨hP5, hB05, hz5⟩
      clear HC1 hP5 hM5 hT5 hB5 hB05 hz5 d1 d2
      go_wp2_with fail
      refine HC2.mono ?_
      rintro e W6 ⟨pm6, tag6, rfl, hM6, hT6, hB6⟩
      have HFw : Hid (Few (s.crash b) n (k + 1) ∧ (s.crash b).outs.length ≤ sumD l (k + 1)) := ⟨HP.out.few.crash b, by simp [St.crash]⟩
      have HX : Hid (PD W6 tag6 w.heap.size 1 (s.crash b) p6 ∧ MD W6 tag6 w.heap.size 3 (s.crash b) pm6 ∧ Below w.heap.size w W6 ∧ ∀ j, j < w.heap.size → tag6 j = 0) := ⟨HM5.out.1.keep (fun k hk _ => hB6.block k hk) hT6, hM6, HM5.out.2.1.trans (hB6.mono HM5.out.2.1.size), fun j hj => by rw [hT6 j (Nat.lt_of_lt_of_le hj HM5.out.2.1.size)]; exact HM5.out.2.2 j hj⟩
      clear HC2 hM6 hT6 hB6 HM5 HP hn60 hops hsin hou hrc hok hpn
      generalize s.crash b = sx at *
      have HO1 := open_ok W6 tag6 w.heap.size 1 2 (by omega) sx p6 HX.out.1 HX.out.2.2.1.size
      obtain ⟨hot, hor, _⟩ := openT_ok HX.out.1.ok
      go_wp2_with fail
      refine HO1.mono ?_
      rintro e w8 ⟨q8, tag8, rfl, hQ8, hT8, hB8⟩
      have hP8 : PD w8 tag8 w.heap.size 1 sx p6 := HX.out.1.keep (fun k hk _ => hB8.block k hk) hT8
      have hM8 : MD w8 tag8 w.heap.size 3 sx pm6 := HX.out.2.1.keep (fun k hk _ => hB8.block k hk) hT8
      have hB08 := HX.out.2.2.1.trans (hB8.mono HX.out.2.2.1.size)
      have hz8 : ∀ j, j < w.heap.size → tag8 j = 0 := fun j hj => by rw [hT8 j (Nat.lt_of_lt_of_le hj HX.out.2.2.1.size)]; exact HX.out.2.2.2 j hj
      have HO2 := ropen_ok w8 tag8 w.heap.size 3 4 sx pm6 hM8 hB08.size
      have H8 : Hid (PD w8 tag8 w.heap.size 1 sx p6 ∧ MD w8 tag8 w.heap.size 3 sx pm6 ∧ PO w8 tag8 w.heap.size 2 p6.D (openT sx) q8 ∧ Below w.heap.size w w8 ∧ ∀ j, j < w.heap.size → tag8 j = 0) := ⟨hP8, hM8, hQ8, hB08, hz8⟩
      clear HO1 hQ8 hT8 hB8 hP8 hM8 hB08 hz8 HX
      go_wp2_with fail
      refine HO2.mono ?_
      rintro e w9 ⟨q9, tag9, rfl, hQ9, hT9, hB9⟩
      have HPl : Hid (Pl w n l (k + 1) sx p6 pm6 (openT sx) q8 q9 tag9 w9) := ⟨H8.out.1.keep (fun k hk _ => hB9.block k hk) hT9, H8.out.2.2.1.keep (fun k hk _ => hB9.block k hk) hT9 hB9.size, H8.out.2.1.keep (fun k hk _ => hB9.block k hk) hT9, hQ9, hot, HFw.out.1, HFw.out.2, by have := HFw.out.1.n; omega, fun j hj => by rw [hT9 j (Nat.lt_of_lt_of_le hj H8.out.2.2.2.1.size)]; exact H8.out.2.2.2.2 j hj, H8.out.2.2.2.1.trans (hB9.mono H8.out.2.2.2.1.size)⟩
      have HLk := looks8_ok w9 tag9 w.heap.size sx p6 HPl.out.pd (openT sx) q8 HPl.out.po pm6 HPl.out.md q9 HPl.out.ms hot (by have := HPl.out.recs; omega)
      clear HO2 hQ9 hT9 hB9 H8 hot hor
      go_wp2_with fail
      refine HLk.mono ?_
      rintro e w10 ⟨rfl, hB10⟩
      clear HLk
      go_wp2
      go_roundg (l.length - (k + 1))
      case rel => exact ⟨k + 1, by omega, by go_num, _, _, _, _, _, _, _, rfl, rfl, rfl, rfl, HPl.out.later hB10⟩
      case measure => omega
    · have h7I : ¬ dO = 7 := h7
      have h7I2 : (dO == 7) = false := by simpa using h7
      obtain ⟨W6, hW6⟩ : ∃ W6, W6 = w0 := ⟨_, rfl⟩
      obtain ⟨sx, hsx⟩ : ∃ sx, sx = s := ⟨_, rfl⟩
      have HFw : Hid (Few sx n (k + 1) ∧ sx.outs.length ≤ sumD l (k + 1)) := by rw [hsx]; exact ⟨HP.out.few.mono, by have := HS1.out; omega⟩
      have HX : Hid (PD W6 tag w.heap.size 1 sx p1 ∧ MD W6 tag w.heap.size 3 sx pm1 ∧ Below w.heap.size w W6 ∧ ∀ j, j < w.heap.size → tag j = 0) := by rw [hW6, hsx]; exact ⟨HP.out.pd, HP.out.md, HP.out.below, HP.out.z⟩
      rw [← hW6] at c0 c1 ⊢
      clear hW6 hsx HP hn60 hops hsin hou hrc hok hpn hb5 hh5
      obtain ⟨p6, rfl⟩ : ∃ x, x = p1 := ⟨_, rfl⟩
      obtain ⟨pm6, rfl⟩ : ∃ x, x = pm1 := ⟨_, rfl⟩
      obtain ⟨tag6, rfl⟩ : ∃ x, x = tag := ⟨_, rfl⟩
      have HO1 := open_ok W6 tag6 w.heap.size 1 2 (by omega) sx p6 HX.out.1 HX.out.2.2.1.size
      obtain ⟨hot, hor, _⟩ := openT_ok HX.out.1.ok
      go_wp2_with fail
      refine HO1.mono ?_
      rintro e w8 ⟨q8, tag8, rfl, hQ8, hT8, hB8⟩
      have hP8 : PD w8 tag8 w.heap.size 1 sx p6 := HX.out.1.keep (fun k hk _ => hB8.block k hk) hT8
      have hM8 : MD w8 tag8 w.heap.size 3 sx pm6 := HX.out.2.1.keep (fun k hk _ => hB8.block k hk) hT8
      have hB08 := HX.out.2.2.1.trans (hB8.mono HX.out.2.2.1.size)
      have hz8 : ∀ j, j < w.heap.size → tag8 j = 0 := fun j hj => by rw [hT8 j (Nat.lt_of_lt_of_le hj HX.out.2.2.1.size)]; exact HX.out.2.2.2 j hj
      have HO2 := ropen_ok w8 tag8 w.heap.size 3 4 sx pm6 hM8 hB08.size
      have H8 : Hid (PD w8 tag8 w.heap.size 1 sx p6 ∧ MD w8 tag8 w.heap.size 3 sx pm6 ∧ PO w8 tag8 w.heap.size 2 p6.D (openT sx) q8 ∧ Below w.heap.size w w8 ∧ ∀ j, j < w.heap.size → tag8 j = 0) := ⟨hP8, hM8, hQ8, hB08, hz8⟩
      clear HO1 hQ8 hT8 hB8 hP8 hM8 hB08 hz8 HX
      go_wp2_with fail
      refine HO2.mono ?_
      rintro e w9 ⟨q9, tag9, rfl, hQ9, hT9, hB9⟩
      have HPl : Hid (Pl w n l (k + 1) sx p6 pm6 (openT sx) q8 q9 tag9 w9) := ⟨H8.out.1.keep (fun k hk _ => hB9.block k hk) hT9, H8.out.2.2.1.keep (fun k hk _ => hB9.block k hk) hT9 hB9.size, H8.out.2.1.keep (fun k hk _ => hB9.block k hk) hT9, hQ9, hot, HFw.out.1, HFw.out.2, by have := HFw.out.1.n; omega, fun j hj => by rw [hT9 j (Nat.lt_of_lt_of_le hj H8.out.2.2.2.1.size)]; exact H8.out.2.2.2.2 j hj, H8.out.2.2.2.1.trans (hB9.mono H8.out.2.2.2.1.size)⟩
      have HLk := looks8_ok w9 tag9 w.heap.size sx p6 HPl.out.pd (openT sx) q8 HPl.out.po pm6 HPl.out.md q9 HPl.out.ms hot (by have := HPl.out.recs; omega)
      clear HO2 hQ9 hT9 hB9 H8 hot hor
      go_wp2_with fail
      refine HLk.mono ?_
      rintro e w10 ⟨rfl, hB10⟩
      clear HLk
      go_wp2
      go_roundg (l.length - (k + 1))
      case rel => exact ⟨k + 1, by omega, by go_num, _, _, _, _, _, _, _, rfl, rfl, rfl, rfl, HPl.out.later hB10⟩
      case measure => omega

theorem walk (v0 v1 : Value) (w : World) (V0 : IsI64 w v0) (V1 : IsDees w v1) : Calls Try.prog 6 #[v0, v1] w fun e w' => e = .returned (.bool true) ∧ Below w.heap.size w w' := by
  obtain ⟨N, rfl, _⟩ := V0
  obtain ⟨B, O, l, hd⟩ := V1
  by_cases hb : N < 1 ∨ 30 < N
  · exact walk_out N B O l v1 w hd hb
  · obtain ⟨n, rfl⟩ : ∃ n : Nat, N = n := ⟨N.toNat, by omega⟩
    exact walk_in n B O l v1 w hd (by omega) (by omega)

set_option maxRecDepth 100000 in
theorem lifted (os : Os) (started : os.Started) (H : Type) (enc : TypeId × Value → H) :
    ReturnsInHanded {} Try.checked os 6 .any (Rows.strandPlaysSpec.pre6 enc Try.prog Try.f6 Rows.strandPlaysRow.domain false) (Rows.strandPlaysSpec.post enc Try.prog Try.f6 false true false false) := by
  refine returnsInHanded_of_change_sized (C := Try.checked) own started (by kernel_rfl) Try.func6
    (ChangeSpec.witness6 (enc := enc) (C := Try.checked) false ⟨#[], #[.int .i64 0, .slice none 0 0], []⟩ 8 (by kernel_rfl) (by kernel_rfl) (by kernel_rfl) (by kernel_rfl)) ?_
  intro W base args ds gs before hval0 hW hcnd hsz0 _
  have hval : ∀ (j : Nat) t v, Try.f6.params[j]? = some t → args[j]? = some v → Value.okWide Try.prog W .any base t v := hval0
  have hsz : ∀ n ∈ DataW.weightsEach Try.prog (Try.f6.params.toList ++ Rows.strandPlaysSpec.plain.varTypes Try.prog) (ds ++ gs), n ≤ reachBytes := fun n hn => by simpa using List.all_eq_true.1 hsz0 n hn
  have hW' := hW
  obtain ⟨p, q, hA0, hV, rfl, hfz, hnd⟩ := hW
  have hA : DataW.TrodAll enc Try.prog W 0 (fun _ => true) true Try.f6.params.toList args.toList ds p := hA0
  rw [Try.params6] at hA hval hsz
  obtain ⟨v0, vs0, d0, ds0, p0, q0, hargs, rfl, rfl, h0, r0⟩ := trodAll_cons hA
  obtain ⟨v1, vs1, d1, ds1, p1, q1, rfl, rfl, rfl, h1, r1⟩ := trodAll_cons r0
  obtain ⟨rfl, rfl, rfl⟩ := trodAll_nil r1
  obtain rfl : args = #[v0, v1] := by cases args; simp_all
  obtain ⟨rfl, rfl⟩ := trodVars_none hV
  have lt0 : ∀ x ∈ p0, x.block < W.heap.size := by obtain ⟨m, hm⟩ := h0; exact DataW.trod_lt m _ _ _ hm
  have V0 := view3 (hval 0 3 v0 rfl rfl) h0 (fun n hn => hsz n (DataW.weights_mem_each (j := 0) rfl rfl n hn))
  have lt1 : ∀ x ∈ p1, x.block < W.heap.size := by obtain ⟨m, hm⟩ := h1; exact DataW.trod_lt m _ _ _ hm
  have V1 := viewDe (hval 1 45 v1 rfl rfl) h1 (fun n hn => hsz n (DataW.weights_mem_each (j := 1) rfl rfl n hn))
  clear hA0 hval0 hsz0 hsz
  refine (walk v0 v1 W V0 V1).mono fun e W' ⟨he, bel⟩ => ?_
  subst he
  exact ⟨_, rfl, _, _, _, [], _, [], hW', trodAll_mk1 (shut_bool Try.underlying4 _), (trodAll_cons_mk (Below.trod laidOut (by kernel_rfl) (of_decide_eq_true (by kernel_rfl)) h0 bel lt0) (trodAll_cons_mk (Below.trod laidOut (by kernel_rfl) (of_decide_eq_true (by kernel_rfl)) h1 bel lt1) trodAll_mk0)), rfl, bel.frame _, fun h => by cases h⟩

theorem over : Rows.strandPlaysRow.holds Try.pinned (OpenSpec.ofChange Rows.strandPlaysSpec) :=
  OpenClaim.holds_of_wide 6 Try.f6 rfl rfl rfl rfl rfl rfl rfl ⟨rfl, rfl, rfl, rfl, rfl⟩ rfl rfl rfl rfl rfl (by kernel_rfl) Try.func6 (by kernel_rfl)
    (of_decide_eq_true (by kernel_rfl)) (by unfold Func.isWrapper; first | (rw [if_pos (by decide +kernel)]; kernel_rfl) | (rw [if_neg (by decide +kernel)]; exact ⟨rfl, rfl⟩))
    (fun os started H enc _ => lifted os started H enc)

end Go.Proofs.Ytlgkndebhafliaa.strandPlays
namespace Go.Proofs.Ytlgkndebhafliaa
theorem strandPlays_holds : Rows.StrandPlaysSaid := strandPlays.over
#print axioms strandPlays_holds
end Go.Proofs.Ytlgkndebhafliaa
