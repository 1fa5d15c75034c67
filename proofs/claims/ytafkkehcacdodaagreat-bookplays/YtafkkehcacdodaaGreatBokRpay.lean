/- The document's Pay. -/
import Derived.Test.YtafkkehcacdodaaGreatBokRef
import Derived.Deep.LoopGhost
set_option maxRecDepth 100000
namespace Go.Proofs.YtafkkehcacdodaaGreat
open Go.RowKit Go.Shelf

theorem wrt1 (s : St) (t : Sd) (e : En) : wrtE s t [e] = (if appE s t (bytesE e) ≠ 0 then appE s t (bytesE e) else errC (appS s t (bytesE e)).out) ∧ wrtS s t [e] = (if appE s t (bytesE e) ≠ 0 then appS s t (bytesE e) else (appS s t (bytesE e)).sync) ∧
    wrtT s t [e] = (if appE s t (bytesE e) ≠ 0 then appT s t (bytesE e) else synT (appS s t (bytesE e)) (appT s t (bytesE e))) := by
  unfold wrtE wrtS wrtT layE layS layT
  by_cases h : appE s t (bytesE e) ≠ 0
  · simp only [if_pos h]
    exact ⟨trivial, trivial, trivial⟩
  · simp only [if_neg h, layE, layS, layT]
    exact ⟨rfl, rfl, rfl⟩

/-- A Sync of the document's book's strand. -/
theorem rsyn_ok (w : World) (tag : Nat → Nat) (base o M B : Nat) (b : Bm) (h : RK w tag base o M B b) (q : Nat) (hn : Nb b.s b.t q) (hq : q ≤ 900000) (hout : b.s.outs.length ≤ 900000) : ∃ T, w.cell? ⟨B, 0, none⟩ = some (.pointer (some ⟨T, 0, none⟩)) ∧
    Calls Tryz.prog 40 #[.pointer (some ⟨T, 0, none⟩)] w fun r w' => r = .returned (.int .i64 (errC b.s.out)) ∧ StepR tag tag base o (o + 1) w w' ∧ RK w' tag base o M B ⟨b.s.sync, synT b.s b.t, b.L, b.D⟩ := by
  obtain ⟨p, q', kv, dv, hD, hP, hPo, hPb⟩ := h
  have hops := hn.ops
  have hpn := hn.tk.pn
  have hn2 := hn.ok.n2
  have hsn := (sync_okS hn.ok).2
  refine ⟨q'.T, hPb.s0, (rsync8_ok w tag base o (o + 1) (by omega) b.s p hP b.t q' (by rw [hD]; exact hPo) (by omega) (by omega) (by omega)).mono ?_⟩
  rintro r w' ⟨rfl, p1, h1, h2, h3, h4⟩
  have hS := h4.range (lo := o) (hi := o + 1) (Nat.le_refl o) (Nat.le_succ o) (Nat.le_succ o) (Nat.le_refl _)
  exact ⟨rfl, hS, p1, q', kv, dv, h1.trans hD, h2, by rw [← hD]; show MSt w' tag base (o + 1) p.M b.s.sync.n _ q'; rw [hsn]; exact h3, hPb.otherR hS (by omega)⟩

/-- One entry more is told. -/
theorem rk_known {w : World} {tag : Nat → Nat} {base o M B : Nat} {b : Bm} (h : RK w tag base o M B b) (hbase : base ≤ w.heap.size) (hl : b.L.length ≤ 900000) (r : En) :
    ∃ a c, w.cell? ⟨B, 1, none⟩ = some (.slice a b.L.length c) ∧ B < w.heap.size ∧ ∃ a5 c5 w5, (Builtin.append_ #[63, 63] 63 #[.slice a b.L.length c, .slice (some ⟨w.heap.size, 0, none⟩) 1 1]).run Tryz.prog (w.alloc (.cells (enC r) 73)) = .ok (.slice a5 (b.L.length + 1) c5) w5 ∧
      w5.cell? ⟨B, 1, none⟩ = some (.slice a b.L.length c) ∧ w5.frozen? ⟨B, 1, none⟩ = false ∧ ∃ tag', StepR tag tag' base (o + 2) (o + 2) w (w5.setCell ⟨B, 1, none⟩ (.slice a5 (b.L.length + 1) c5)) ∧ RK (w5.setCell ⟨B, 1, none⟩ (.slice a5 (b.L.length + 1) c5)) tag' base o M B ⟨b.s, b.t, b.L ++ [r], b.D⟩ := by
  obtain ⟨p, q', kv, dv, hD, hP, hPo, hPb⟩ := h
  obtain ⟨a, c, rfl, a5, c5, w5, h1, h2, h3, tag', h4, h5⟩ := pb_known hPb hbase hl r
  exact ⟨a, c, hPb.s1, hPb.bB.lt, a5, c5, w5, h1, h2, h3, tag', h4, p, q', _, dv, hD, hP.otherR h4 (by omega), hPo.otherR h4 (by omega), h5⟩

theorem rk_owe {w : World} {tag : Nat → Nat} {base o M B : Nat} {b : Bm} (h : RK w tag base o M B b) (hbase : base ≤ w.heap.size) (hl : b.D.length ≤ 900000) (r : En) :
    ∃ a c, w.cell? ⟨B, 2, none⟩ = some (.slice a b.D.length c) ∧ B < w.heap.size ∧ ∃ a5 c5 w5, (Builtin.append_ #[63, 63] 63 #[.slice a b.D.length c, .slice (some ⟨w.heap.size, 0, none⟩) 1 1]).run Tryz.prog (w.alloc (.cells (enC r) 73)) = .ok (.slice a5 (b.D.length + 1) c5) w5 ∧
      w5.cell? ⟨B, 2, none⟩ = some (.slice a b.D.length c) ∧ w5.frozen? ⟨B, 2, none⟩ = false ∧ ∃ tag', StepR tag tag' base (o + 2) (o + 2) w (w5.setCell ⟨B, 2, none⟩ (.slice a5 (b.D.length + 1) c5)) ∧ RK (w5.setCell ⟨B, 2, none⟩ (.slice a5 (b.D.length + 1) c5)) tag' base o M B ⟨b.s, b.t, b.L, b.D ++ [r]⟩ := by
  obtain ⟨p, q', kv, dv, hD, hP, hPo, hPb⟩ := h
  obtain ⟨a, c, rfl, a5, c5, w5, h1, h2, h3, tag', h4, h5⟩ := pb_owe hPb hbase hl r
  exact ⟨a, c, hPb.s2, hPb.bB.lt, a5, c5, w5, h1, h2, h3, tag', h4, p, q', kv, _, hD, hP.otherR h4 (by omega), hPo.otherR h4 (by omega), h5⟩

/-- Nothing is owed any more. -/
theorem rk_none {w : World} {tag : Nat → Nat} {base o M B : Nat} {b : Bm} (h : RK w tag base o M B b) : StepR tag tag base (o + 2) (o + 2) w (w.setCell ⟨B, 2, none⟩ (.slice none 0 0)) ∧ RK (w.setCell ⟨B, 2, none⟩ (.slice none 0 0)) tag base o M B ⟨b.s, b.t, b.L, []⟩ := by
  obtain ⟨p, q', kv, dv, hD, hP, hPo, hPb⟩ := h
  have hst : Step tag tag base (o + 2) w (w.setCell ⟨B, 2, none⟩ (.slice none 0 0)) := step_set tag base (o + 2) w hPb.tB.2 (by have := hPb.tB.1; omega) 2 _
  have hsR := hst.range (lo := o + 2) (hi := o + 2) (Nat.le_refl _) (Nat.le_refl _)
  refine ⟨hsR, p, q', kv, .slice none 0 0, hD, hP.otherR hsR (by omega), hPo.otherR hsR (by omega), ⟨by simpa using hPb.bB.set 2 (.slice none 0 0), ?_, win_nil _ _, hPb.tB, hPb.tK, fun g hg => by simp [Value.ownBlock] at hg⟩⟩
  refine hPb.wK.same (fun g hg => ?_)
  have ht := (hPb.tK g hg).1
  exact heap_setCell_other _ _ g _ (fun e => by have : g = B := e; rw [this] at ht; have := hPb.tB.1; omega)

/-- The debts of a book are seen: one. -/
theorem rk_debt {w : World} {tag : Nat → Nat} {base o M B : Nat} {b : Bm} (h : RK w tag base o M B b) {x : En} (hx : b.D = [x]) : ∃ DB DO c, w.cell? ⟨B, 2, none⟩ = some (.slice (some ⟨DB, DO, none⟩) 1 c) ∧ 1 ≤ c ∧ c ≤ maxLen ∧ EnAt w DB DO x := by
  obtain ⟨p, q', kv, dv, hD, hP, hPo, hPb⟩ := h
  have hW := hPb.wD
  have h2 := hPb.s2
  rw [hx] at hW
  obtain ⟨DB, DO, ⟨a, c, rfl, h3, h4, h5, h6⟩, _⟩ := win_ens hW
  have he := h6 0 x rfl
  rw [Nat.zero_mul, Nat.add_zero] at he
  rcases h5 with rfl | h5
  · exact ⟨DB, DO, c, h2, h3, h4, he⟩
  · cases h5

theorem rk_fB {w : World} {tag : Nat → Nat} {base o M B : Nat} {b : Bm} (h : RK w tag base o M B b) (j : Nat) : w.frozen? ⟨B, j, none⟩ = false := by
  obtain ⟨p, q', kv, dv, hD, hP, hPo, hPb⟩ := h
  exact hPb.fB j

theorem rk_none2 {w : World} {tag : Nat → Nat} {base o M B : Nat} {b : Bm} (h : RK w tag base o M B b) (hx : b.D = []) : ∃ a c, w.cell? ⟨B, 2, none⟩ = some (.slice a 0 c) := by
  obtain ⟨p, q', kv, dv, hD, hP, hPo, hPb⟩ := h
  have h2 := hPb.s2
  obtain ⟨a, c, rfl, _⟩ := win_form hPb.wD
  rw [hx] at h2
  exact ⟨a, c, h2⟩

set_option maxHeartbeats 8000000 in
theorem rpay_ok (w : World) (tag : Nat → Nat) (base o M B : Nat) (ho : 1 ≤ o) (b : Bm) (h : RK w tag base o M B b) (hbase : base ≤ w.heap.size) (q : Nat) (hb : b.Ok q)
    (hq : q ≤ 800000) (hout : b.s.outs.length ≤ 900000) (hrec : b.t.recs.length ≤ 800000) (hL : b.L.length ≤ 800000) :
    Calls Tryz.prog 20 #[.pointer (some ⟨B, 0, none⟩)] w fun r w' => r = .returned (.int .i64 b.payE) ∧ ∃ tag', StepR tag tag' base o (o + 2) w w' ∧ RK w' tag' base o M B b.pay := by
  have HK : Hid (RK w tag base o M B b) := h
  by_cases hDe : b.D = []
  · have HP : Hid (b.payE = 0 ∧ b.pay = b) := ⟨if_pos hDe, if_pos hDe⟩
    obtain ⟨a, c, g2⟩ := rk_none2 h hDe
    clear h hDe
    go_enter Tryz.func20, Tryz.ntmps20
    go_wp2
    go_ret
    exact ⟨by rw [HP.out.1]; rfl, tag, StepR.refl _ _ _ _ _, by rw [HP.out.2]; exact HK.out⟩
  obtain ⟨x, hx⟩ : ∃ x, b.D = [x] := by
    have h1 := hb.d1
    cases hd : b.D with
    | nil => exact absurd hd hDe
    | cons y r =>
      rw [hd] at h1
      have : r = [] := List.eq_nil_of_length_eq_zero (by simpa using h1)
      exact ⟨y, by rw [this]⟩
  have hfx := hb.fD x (by rw [hx]; simp)
  obtain ⟨u1, u2, u3⟩ := wrt1 b.s b.t x
  have HpE : Hid (b.payE = wrtE b.s b.t [x]) := by show b.payE = _; unfold Bm.payE; rw [if_neg hDe, hx]
  have HpB : Hid (b.pay = ⟨wrtS b.s b.t [x], wrtT b.s b.t [x], if wrtE b.s b.t [x] = 0 then b.L ++ [x] else b.L, if wrtE b.s b.t [x] = 0 then [] else [x]⟩) := by
    show b.pay = _
    unfold Bm.pay Bm.paid
    rw [if_neg hDe, hx]
  have HU : Hid (wrtE b.s b.t [x] = (if appE b.s b.t (bytesE x) ≠ 0 then appE b.s b.t (bytesE x) else errC (appS b.s b.t (bytesE x)).out) ∧ wrtS b.s b.t [x] = (if appE b.s b.t (bytesE x) ≠ 0 then appS b.s b.t (bytesE x) else (appS b.s b.t (bytesE x)).sync) ∧
    wrtT b.s b.t [x] = (if appE b.s b.t (bytesE x) ≠ 0 then appT b.s b.t (bytesE x) else synT (appS b.s b.t (bytesE x)) (appT b.s b.t (bytesE x)))) := ⟨u1, u2, u3⟩
  have HDx : Hid (b.D = [x]) := hx
  have hnb := hb.nb
  obtain ⟨n1, n2, n3⟩ := hnb.app (bytesE x) (bytesE_bytes x)
  have n4 := outs_app b.s b.t (bytesE x)
  have HApp := fun w1 tag1 h1 hb1 => rapp_ok w1 tag1 base o M B ho b h1 hb1 x hfx.1 hfx.2 q hnb (by omega) hout (by omega)
  have HSyn := fun w1 tag1 h1 => rsyn_ok w1 tag1 base o M B ⟨appS b.s b.t (bytesE x), appT b.s b.t (bytesE x), b.L, b.D⟩ h1 (q + 1) n1 (by omega) (by show (appS b.s b.t (bytesE x)).outs.length ≤ _; omega)
  have HApp : Hid (∀ w1 tag1, _) := HApp
  have HSyn : Hid (∀ w1 tag1, _) := HSyn
  obtain ⟨DB0, DO0, dc0, g2, hdc1, hdc2, _⟩ := rk_debt h hx
  clear h hb hnb n1 n2 n3 n4 u1 u2 u3 hx hfx hDe
  generalize hE1 : appE b.s b.t (bytesE x) = E1 at *
  generalize hS1 : appS b.s b.t (bytesE x) = S1 at *
  generalize hT1 : appT b.s b.t (bytesE x) = T1 at *
  clear hE1 hS1 hT1
  unfold maxLen at hdc2
  go_enter Tryz.func20, Tryz.ntmps20
  go_wp2
  go_loopg [3] 1 (fun gk i wr => ∃ k : Nat, k + gk = 1 ∧ i = .int .i64 k ∧ ∃ tag', StepR tag tag' base o (o + 2) w wr ∧ (k = 0 → RK wr tag' base o M B b) ∧ (k = 1 → E1 = 0 ∧ RK wr tag' base o M B ⟨S1, T1, b.L, b.D⟩))
  case atStart => exact ⟨0, by omega, rfl, tag, StepR.refl _ _ _ _ _, fun _ => HK.out, fun h => absurd h (by decide)⟩
  case round =>
    obtain ⟨k, hk, rfl, tag1, hSt, hk0, hk1⟩ := hrel
    obtain ⟨wx, rfl⟩ : ∃ wx, wx = wr := ⟨wr, rfl⟩
    have hbx : base ≤ wx.heap.size := Nat.le_trans hbase hSt.below.size
    have HSt : Hid (StepR tag tag1 base o (o + 2) w wx) := hSt
    by_cases hlt : k < 1
    · have hk00 : k = 0 := by omega
      subst hk00
      have hK := hk0 rfl
      have HKx : Hid (RK wx tag1 base o M B b) := hK
      obtain ⟨DB, DO, dc, g2, hd1, hd2, c0, c1, c2, c3, c4⟩ := rk_debt hK HDx.out
      unfold maxLen at hd2
      have hA := HApp.out wx tag1 hK hbx
      clear hK hk0 hk1 hSt HApp
      obtain ⟨x0, x1, x2, x3, x4⟩ := x
      simp only at c0 c1 c2 c3 c4
      go_wp2_with fail
      refine (by exact hA : Calls _ _ _ _ _).mono ?_
      rintro r w2 ⟨rfl, tag2, hS2, hK2⟩
      have HS2 : Hid (StepR tag tag2 base o (o + 2) w w2) := HSt.out.trans (hS2.wide (Nat.le_refl o) (by omega))
      have HK2 : Hid (RK w2 tag2 base o M B ⟨S1, T1, b.L, b.D⟩) := hK2
      clear hS2 hK2 hA
      by_cases hE : E1 = 0
      · subst hE
        go_wp2
        go_roundg 0
        case rel => exact ⟨1, by omega, by go_num, tag2, HS2.out, fun h => absurd h (by decide), fun _ => by simpa using HK2.out⟩
        case measure => omega
      · have HR : Hid (b.payE = E1 ∧ b.pay = ⟨S1, T1, b.L, b.D⟩) := by
          obtain ⟨v1, v2, v3⟩ := HU.out
          rw [if_pos hE] at v1 v2 v3
          refine ⟨HpE.out.trans v1, ?_⟩
          rw [HpB.out, v1, v2, v3, if_neg hE, if_neg hE, HDx.out]
        go_wp2
        go_ret
        exact ⟨by rw [HR.out.1]; rfl, tag2, HS2.out, by rw [HR.out.2]; exact HK2.out⟩
    · have hk11 : k = 1 := by omega
      subst hk11
      obtain ⟨hE, hK⟩ := hk1 rfl
      subst hE
      have HKx : Hid (RK wx tag1 base o M B ⟨S1, T1, b.L, b.D⟩) := hK
      obtain ⟨DB, DO, dc, g2, hd1, hd2, _⟩ := rk_debt hK HDx.out
      unfold maxLen at hd2
      obtain ⟨T, g0, hSy⟩ := HSyn.out wx tag1 hK
      clear hK hk0 hk1 hSt HApp HSyn
      have HU1 : Hid (wrtE b.s b.t [x] = errC S1.out ∧ wrtS b.s b.t [x] = S1.sync ∧ wrtT b.s b.t [x] = synT S1 T1) := by
        obtain ⟨v1, v2, v3⟩ := HU.out
        rw [if_neg (by simp)] at v1 v2 v3
        exact ⟨v1, v2, v3⟩
      go_wp2_with fail
      refine (by exact hSy : Calls _ _ _ _ _).mono ?_
      rintro r w2 ⟨rfl, hS2, hK2⟩
      have HS2 : Hid (StepR tag tag1 base o (o + 2) w w2) := HSt.out.trans (hS2.wide (Nat.le_refl o) (by omega))
      have HK2 : Hid (RK w2 tag1 base o M B ⟨S1.sync, synT S1 T1, b.L, b.D⟩) := hK2
      clear hS2 hK2 hSy
      generalize errC S1.out = E2 at *
      by_cases hE2 : E2 = 0
      case neg =>
        have HR : Hid (b.payE = E2 ∧ b.pay = ⟨S1.sync, synT S1 T1, b.L, b.D⟩) := by
          obtain ⟨v1, v2, v3⟩ := HU1.out
          refine ⟨HpE.out.trans v1, ?_⟩
          rw [HpB.out, v1, v2, v3, if_neg hE2, if_neg hE2, HDx.out]
        go_wp2
        go_ret
        exact ⟨by rw [HR.out.1]; rfl, tag1, HS2.out, by rw [HR.out.2]; exact HK2.out⟩
      subst hE2
      go_wp2_with fail
      go_loopg [6] 1 (fun gk2 i wr2 => ∃ k : Nat, k + gk2 = 1 ∧ i = .int .i64 k ∧ ∃ tag', StepR tag tag' base o (o + 2) w wr2 ∧ (k = 0 → RK wr2 tag' base o M B ⟨S1.sync, synT S1 T1, b.L, b.D⟩) ∧ (k = 1 → RK wr2 tag' base o M B ⟨S1.sync, synT S1 T1, b.L ++ [x], b.D⟩))
      case atStart => exact ⟨0, by omega, rfl, tag1, HS2.out, fun _ => HK2.out, fun h => absurd h (by decide)⟩
      case round =>
        obtain ⟨k, hk, rfl, tag3, hSt3, hk0, hk1⟩ := hrel
        obtain ⟨wy, rfl⟩ : ∃ wy, wy = wr := ⟨wr, rfl⟩
        have hby : base ≤ wy.heap.size := Nat.le_trans hbase hSt3.below.size
        have HSt3 : Hid (StepR tag tag3 base o (o + 2) w wy) := hSt3
        by_cases hlt2 : k < 1
        · have hk00 : k = 0 := by omega
          subst hk00
          have hK := hk0 rfl
          obtain ⟨DB, DO, dc, g2, hd1, hd2, c0, c1, c2, c3, c4⟩ := rk_debt hK HDx.out
          unfold maxLen at hd2
          have hKd : RK wy.drew tag3 base o M B ⟨S1.sync, synT S1 T1, b.L, b.D⟩ := hK.later (Below.refl _ wy).drew
          obtain ⟨la, lc, g1, hBl, a5, c5, w5, hr5, h5a, h5b, tag5, hS5, hK5⟩ := rk_known hKd hby (by show b.L.length ≤ _; omega) x
          have g1' : wy.cell? ⟨B, 1, none⟩ = some (.slice la b.L.length lc) := g1
          have HR5 : Hid (StepR tag tag5 base o (o + 2) w (w5.setCell ⟨B, 1, none⟩ (.slice a5 (b.L.length + 1) c5)) ∧ RK (w5.setCell ⟨B, 1, none⟩ (.slice a5 (b.L.length + 1) c5)) tag5 base o M B ⟨S1.sync, synT S1 T1, b.L ++ [x], b.D⟩) :=
            ⟨⟨HSt3.out.below.drew.trans hS5.below, fun j hj => (hS5.tags j (Nat.lt_of_lt_of_le hj HSt3.out.below.size)).trans (HSt3.out.tags j hj), fun j hj hne => (hS5.kept j (Nat.lt_of_lt_of_le hj HSt3.out.below.size) (by rw [HSt3.out.tags j hj]; omega)).trans (HSt3.out.kept j hj hne)⟩, hK5⟩
          have h5a' : w5.cell? ⟨B, 1, none⟩ = some (.slice la b.L.length lc) := h5a
          have hBl' : B < wy.heap.size := hBl
          clear hK hk0 hk1 hSt3 hKd hS5 hK5 g1 h5a
          obtain ⟨x0, x1, x2, x3, x4⟩ := x
          simp only at c0 c1 c2 c3 c4
          go_wp2_with fail
          go_region_law (refine step_app_run rfl (.tmp 55) (.tmp 63) 63 rfl (.slice la b.L.length lc) (.slice (some ⟨wy.drew.heap.size, 0, none⟩) 1 1) (by rfl) (by rfl) (by exact hr5) ?_)
          all_goals
            go_wp2
            go_roundg 0
            case rel => exact ⟨1, by omega, by go_num, tag5, HR5.out.1, fun h => absurd h (by decide), fun _ => HR5.out.2⟩
            case measure => omega
        · have hk11 : k = 1 := by omega
          subst hk11
          have hK := hk1 rfl
          obtain ⟨DB, DO, dc, g2, hd1, hd2, _⟩ := rk_debt hK HDx.out
          unfold maxLen at hd2
          have f2 := rk_fB hK 2
          obtain ⟨hS9, hK9⟩ := rk_none hK
          have HR : Hid (b.payE = 0 ∧ b.pay = ⟨S1.sync, synT S1 T1, b.L ++ [x], []⟩) := by
            obtain ⟨v1, v2, v3⟩ := HU1.out
            refine ⟨HpE.out.trans v1, ?_⟩
            rw [HpB.out, v1, v2, v3, if_pos rfl, if_pos rfl]
          have HF9 : Hid (StepR tag tag3 base o (o + 2) w (wy.setCell ⟨B, 2, none⟩ (.slice none 0 0)) ∧ RK (wy.setCell ⟨B, 2, none⟩ (.slice none 0 0)) tag3 base o M B ⟨S1.sync, synT S1 T1, b.L ++ [x], []⟩) := ⟨HSt3.out.trans (hS9.wide (by omega) (Nat.le_refl _)), hK9⟩
          clear hK hk0 hk1 hSt3 hS9 hK9
          go_wp2
          go_ret
          exact ⟨by rw [HR.out.1]; rfl, tag3, HF9.out.1, by rw [HR.out.2]; exact HF9.out.2⟩

end Go.Proofs.YtafkkehcacdodaaGreat
