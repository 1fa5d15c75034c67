/- The document's write, Grant, Release. -/
import Derived.Test.YtafkkehcacdodaaGreatBokRpay
import Derived.Test.YtafkkehcacdodaaGreatEntCheck
import Derived.Deep.CutRange
import Derived.Deep.CutBlock
set_option maxRecDepth 100000
namespace Go.Proofs.YtafkkehcacdodaaGreat
open Go.RowKit Go.Shelf

theorem put_cases (b : Bm) (e : En) : (checkE e ≠ 0 ∧ b.putE e = checkE e ∧ b.put e = b) ∨ (checkE e = 0 ∧ b.payE ≠ 0 ∧ b.putE e = b.payE ∧ b.put e = b.pay) ∨ (checkE e = 0 ∧ b.payE = 0 ∧ b.putE e = wrtE b.pay.s b.pay.t [e] ∧ b.put e = b.pay.wrote e) := by
  unfold Bm.putE Bm.put
  by_cases hc : checkE e = 0
  · have hc' : ¬ checkE e ≠ 0 := by simpa using hc
    rw [if_neg hc', if_neg hc']
    by_cases hp : b.payE = 0
    · have hp' : ¬ b.payE ≠ 0 := by simpa using hp
      rw [if_neg hp', if_neg hp']
      exact .inr (.inr ⟨hc, hp, rfl, rfl⟩)
    · rw [if_pos hp, if_pos hp]
      exact .inr (.inl ⟨hc, hp, rfl, rfl⟩)
  · rw [if_pos hc, if_pos hc]
    exact .inl ⟨hc, rfl, rfl⟩

set_option maxHeartbeats 3000000 in
theorem rwrite_ok (w : World) (tag : Nat → Nat) (base o M B : Nat) (ho : 1 ≤ o) (b : Bm) (h : RK w tag base o M B b) (hbase : base ≤ w.heap.size) (e : En) (hok : e.Ok) (q : Nat) (hb : b.Ok q)
    (hq : q ≤ 700000) (hout : b.s.outs.length ≤ 900000) (hrec : b.t.recs.length ≤ 700000) (hL : b.L.length ≤ 700000) :
    Calls Tryz.prog 47 #[.pointer (some ⟨B, 0, none⟩), enV e] w fun r w' => r = .returned (.int .i64 (b.putE e)) ∧ ∃ tag', StepR tag tag' base o (o + 2) w w' ∧ RK w' tag' base o M B (b.put e) := by
  have hba := below_alloc w (.cells (enC e) 73)
  have HC := rcheck_any e (w.alloc (.cells (enC e) 73))
  have HK : Hid (RK w tag base o M B b) := h
  have HCa : Hid ((checkE e ≠ 0 ∧ b.putE e = checkE e ∧ b.put e = b) ∨ (checkE e = 0 ∧ b.payE ≠ 0 ∧ b.putE e = b.payE ∧ b.put e = b.pay) ∨ (checkE e = 0 ∧ b.payE = 0 ∧ b.putE e = wrtE b.pay.s b.pay.t [e] ∧ b.put e = b.pay.wrote e)) := put_cases b e
  have HPay := fun w1 tag1 h1 hb1 => rpay_ok w1 tag1 base o M B ho b h1 hb1 q hb (by omega) hout (by omega) (by omega)
  have HPay : Hid (∀ w1 tag1, _) := HPay
  obtain ⟨hpo, hgr, hpd⟩ := hb.pay
  have hgo := hgr.outs
  have hgr1 := hgr.recs
  have hgl := hgr.L
  have HPD : Hid (b.payE = 0 → b.pay.D = []) := hpd
  have HMay : Hid (checkE e = 0 → e.May) := checkE_zero
  have HApp : Hid (∀ w1 tag1, e.May → RK w1 tag1 base o M B b.pay → base ≤ w1.heap.size → Calls Tryz.prog 39 #[.pointer (some ⟨B, 0, none⟩), enV e] w1 fun r w' => r = .returned (.int .i64 (appE b.pay.s b.pay.t (bytesE e))) ∧ ∃ tag', StepR tag1 tag' base o (o + 1) w1 w' ∧ RK w' tag' base o M B ⟨appS b.pay.s b.pay.t (bytesE e), appT b.pay.s b.pay.t (bytesE e), b.pay.L, b.pay.D⟩) :=
    fun w1 tag1 hm h1 hb1 => rapp_ok w1 tag1 base o M B ho b.pay h1 hb1 e hm hok (q + 2) hpo.nb (by omega) (by omega) (by omega)
  obtain ⟨n1, n2, n3⟩ := hpo.nb.app (bytesE e) (bytesE_bytes e)
  have n4 := outs_app b.pay.s b.pay.t (bytesE e)
  have HSyn := fun w1 tag1 h1 => rsyn_ok w1 tag1 base o M B ⟨appS b.pay.s b.pay.t (bytesE e), appT b.pay.s b.pay.t (bytesE e), b.pay.L, b.pay.D⟩ h1 (q + 2 + 1) n1 (by omega) (by show (appS b.pay.s b.pay.t (bytesE e)).outs.length ≤ _; omega)
  have HSyn : Hid (∀ w1 tag1, _) := HSyn
  have HU : Hid (wrtE b.pay.s b.pay.t [e] = (if appE b.pay.s b.pay.t (bytesE e) ≠ 0 then appE b.pay.s b.pay.t (bytesE e) else errC (appS b.pay.s b.pay.t (bytesE e)).out) ∧ wrtS b.pay.s b.pay.t [e] = (if appE b.pay.s b.pay.t (bytesE e) ≠ 0 then appS b.pay.s b.pay.t (bytesE e) else (appS b.pay.s b.pay.t (bytesE e)).sync) ∧
    wrtT b.pay.s b.pay.t [e] = (if appE b.pay.s b.pay.t (bytesE e) ≠ 0 then appT b.pay.s b.pay.t (bytesE e) else synT (appS b.pay.s b.pay.t (bytesE e)) (appT b.pay.s b.pay.t (bytesE e)))) := wrt1 _ _ _
  have HWr : Hid (b.pay.wrote e = ⟨wrtS b.pay.s b.pay.t [e], wrtT b.pay.s b.pay.t [e], if wrtE b.pay.s b.pay.t [e] = 0 then b.pay.L ++ [e] else b.pay.L, if wrtE b.pay.s b.pay.t [e] ≠ 0 ∧ e.kind = 2 ∧ wrtE b.pay.s b.pay.t [e] ≠ 6 then b.pay.D ++ [relE e] else b.pay.D⟩) := rfl
  clear h hb hpo hgr hpd n1 n2 n3 n4 hgo
  generalize hE1 : appE b.pay.s b.pay.t (bytesE e) = E1 at *
  generalize hS1 : appS b.pay.s b.pay.t (bytesE e) = S1 at *
  generalize hT1 : appT b.pay.s b.pay.t (bytesE e) = T1 at *
  clear hE1 hS1 hT1
  obtain ⟨k0, k1, k2, k3, k4⟩ := e
  have HRel : Hid (relE ⟨k0, k1, k2, k3, k4⟩ = ⟨3, k1, 0, k3, k4⟩) := rfl
  go_enter Tryz.func47, Tryz.ntmps47
  go_wp2_with fail
  refine (by exact HC : Calls _ _ _ _ _).mono ?_
  rintro r w1 ⟨rfl, hB1⟩
  have hB01 : Below w.heap.size w w1 := hba.trans (hB1.mono hba.size)
  have HS1 : Hid (StepR tag (clip tag w.heap.size) base o (o + 2) w w1) := stepR_clip tag base o (o + 2) hbase hB01
  have HK1 : Hid (RK w1 (clip tag w.heap.size) base o M B b) := HK.out.new hB01
  have hb1 : base ≤ w1.heap.size := Nat.le_trans hbase hB01.size
  have htw : clip tag w.heap.size w.heap.size / 16 < o := by simp [clip]; omega
  have hws : w.heap.size < w1.heap.size := by have := hB1.size; simp at this; omega
  have d0 : w1.cell? ⟨w.heap.size, 0, none⟩ = some (.int .i64 k0) := cell_later hB1 (by simp)
  have d1 : w1.cell? ⟨w.heap.size, 1, none⟩ = some (.int .i64 k1) := cell_later hB1 (by simp)
  have d2 : w1.cell? ⟨w.heap.size, 2, none⟩ = some (.int .u32 k2) := cell_later hB1 (by simp)
  have d3 : w1.cell? ⟨w.heap.size, 3, none⟩ = some (.int .u32 k3) := cell_later hB1 (by simp)
  have d4 : w1.cell? ⟨w.heap.size, 4, none⟩ = some (.int .i64 k4) := cell_later hB1 (by simp)
  have HCe : Hid (∀ w2 tag2, StepR (clip tag w.heap.size) tag2 base o (o + 2) w1 w2 → w2.cell? ⟨w.heap.size, 0, none⟩ = some (.int .i64 k0) ∧ w2.cell? ⟨w.heap.size, 1, none⟩ = some (.int .i64 k1) ∧ w2.cell? ⟨w.heap.size, 2, none⟩ = some (.int .u32 k2) ∧ w2.cell? ⟨w.heap.size, 3, none⟩ = some (.int .u32 k3) ∧ w2.cell? ⟨w.heap.size, 4, none⟩ = some (.int .i64 k4)) := fun w2 tag2 h2 =>
    ⟨((stepR_cell h2 hws htw 0).1).trans d0, ((stepR_cell h2 hws htw 1).1).trans d1, ((stepR_cell h2 hws htw 2).1).trans d2, ((stepR_cell h2 hws htw 3).1).trans d3, ((stepR_cell h2 hws htw 4).1).trans d4⟩
  clear hB1 hB01 hba HC d0 d1 d2 d3 d4
  rcases HCa.out with ⟨p1, p2, p3⟩ | ⟨p1, p2, p3, p4⟩ | ⟨p1, p2, p3, p4⟩
  · have HP : Hid (b.putE ⟨k0, k1, k2, k3, k4⟩ = checkE ⟨k0, k1, k2, k3, k4⟩ ∧ b.put ⟨k0, k1, k2, k3, k4⟩ = b) := ⟨p2, p3⟩
    clear p2 p3
    generalize checkE ⟨k0, k1, k2, k3, k4⟩ = X at *
    go_wp2
    go_ret
    exact ⟨by rw [HP.out.1]; rfl, _, HS1.out, by rw [HP.out.2]; exact HK1.out⟩
  · have HP : Hid (b.putE ⟨k0, k1, k2, k3, k4⟩ = b.payE ∧ b.put ⟨k0, k1, k2, k3, k4⟩ = b.pay) := ⟨p3, p4⟩
    have hPy := HPay.out w1 _ HK1.out hb1
    rw [p1]
    clear p1 p3 p4
    generalize b.payE = X at *
    go_wp2_with fail
    refine (by exact hPy : Calls _ _ _ _ _).mono ?_
    rintro r w2 ⟨rfl, tag2, hS2, hK2⟩
    have HF : Hid (StepR tag tag2 base o (o + 2) w w2 ∧ RK w2 tag2 base o M B b.pay) := ⟨HS1.out.trans hS2, hK2⟩
    clear hS2 hK2 hPy
    go_wp2
    go_ret
    exact ⟨by rw [HP.out.1]; rfl, _, HF.out.1, by rw [HP.out.2]; exact HF.out.2⟩
  · have HP : Hid (b.putE ⟨k0, k1, k2, k3, k4⟩ = wrtE b.pay.s b.pay.t [⟨k0, k1, k2, k3, k4⟩] ∧ b.put ⟨k0, k1, k2, k3, k4⟩ = b.pay.wrote ⟨k0, k1, k2, k3, k4⟩) := ⟨p3, p4⟩
    have hPy := HPay.out w1 _ HK1.out hb1
    have hmay := HMay.out p1
    have HpD : Hid (b.pay.D = []) := HPD.out p2
    rw [p1]
    rw [p2] at hPy
    clear p1 p2 p3 p4 HPay HPD HMay HCa HK HK1
    go_wp2_with fail
    refine (by exact hPy : Calls _ _ _ _ _).mono ?_
    rintro r w2 ⟨rfl, tag2, hS2, hK2⟩
    have HS2 : Hid (StepR (clip tag w.heap.size) tag2 base o (o + 2) w1 w2) := hS2
    have hA := HApp.out w2 tag2 hmay hK2 (Nat.le_trans hb1 hS2.below.size)
    obtain ⟨c0, c1, c2, c3, c4⟩ := HCe.out w2 tag2 hS2
    clear hS2 hK2 hPy hmay HApp
    go_wp2_with fail
    refine (by exact hA : Calls _ _ _ _ _).mono ?_
    rintro r w3 ⟨rfl, tag3, hS3, hK3⟩
    have HS3 : Hid (StepR (clip tag w.heap.size) tag3 base o (o + 2) w1 w3) := HS2.out.trans (hS3.wide (Nat.le_refl o) (by omega))
    have HK3 : Hid (RK w3 tag3 base o M B ⟨S1, T1, b.pay.L, b.pay.D⟩) := hK3
    clear c0 c1 c2 c3 c4 hS3 hK3 hA HS2
    -- what follows where an error x stands
    have HOwe : Hid (∀ x S T w4 tag4, x ≠ 0 → wrtE b.pay.s b.pay.t [⟨k0, k1, k2, k3, k4⟩] = x → wrtS b.pay.s b.pay.t [⟨k0, k1, k2, k3, k4⟩] = S → wrtT b.pay.s b.pay.t [⟨k0, k1, k2, k3, k4⟩] = T → StepR (clip tag w.heap.size) tag4 base o (o + 2) w1 w4 → RK w4 tag4 base o M B ⟨S, T, b.pay.L, b.pay.D⟩ →
        (k0 = 2 ∧ x ≠ 6 → ∃ a c, w4.cell? ⟨B, 2, none⟩ = some (.slice a b.pay.D.length c) ∧ B < w4.heap.size ∧ ∃ a5 c5 w5, (Builtin.append_ #[63, 63] 63 #[.slice a b.pay.D.length c, .slice (some ⟨w4.drew.heap.size, 0, none⟩) 1 1]).run Tryz.prog (w4.drew.alloc (.cells #[.int .i64 3, .int .i64 k1, .int .u32 0, .int .u32 k3, .int .i64 k4] 73)) = .ok (.slice a5 (b.pay.D.length + 1) c5) w5 ∧
          w5.cell? ⟨B, 2, none⟩ = some (.slice a b.pay.D.length c) ∧ w5.frozen? ⟨B, 2, none⟩ = false ∧ ∃ tag', StepR tag tag' base o (o + 2) w (w5.setCell ⟨B, 2, none⟩ (.slice a5 (b.pay.D.length + 1) c5)) ∧ RK (w5.setCell ⟨B, 2, none⟩ (.slice a5 (b.pay.D.length + 1) c5)) tag' base o M B (b.put ⟨k0, k1, k2, k3, k4⟩)) ∧
        (¬ (k0 = 2 ∧ x ≠ 6) → StepR tag tag4 base o (o + 2) w w4 ∧ RK w4 tag4 base o M B (b.put ⟨k0, k1, k2, k3, k4⟩))) := by
      intro x S T w4 tag4 hx e1 e2 e3 hS4 hK4
      have hS04 := HS1.out.trans hS4
      constructor
      · rintro ⟨hk2, hx6⟩
        have hb4 : base ≤ w4.heap.size := Nat.le_trans hbase hS04.below.size
        have hKd : RK w4.drew tag4 base o M B ⟨S, T, b.pay.L, b.pay.D⟩ := hK4.later (Below.refl _ w4).drew
        obtain ⟨a, c, g2, hBl, a5, c5, w5, hr5, h5a, h5b, tag5, hS5, hK5⟩ := rk_owe hKd hb4 (by show b.pay.D.length ≤ _; rw [HpD.out]; simp) ⟨3, k1, 0, k3, k4⟩
        refine ⟨a, c, g2, hBl, a5, c5, w5, hr5, h5a, h5b, tag5, ⟨hS04.below.drew.trans hS5.below, fun j hj => (hS5.tags j (Nat.lt_of_lt_of_le hj hS04.below.size)).trans (hS04.tags j hj), fun j hj hne => (hS5.kept j (Nat.lt_of_lt_of_le hj hS04.below.size) (by rw [hS04.tags j hj]; omega)).trans (hS04.kept j hj hne)⟩, ?_⟩
        rw [HP.out.2, HWr.out, e1, e2, e3, if_neg hx, if_pos ⟨hx, hk2, hx6⟩, HRel.out]
        exact hK5
      · intro hn
        refine ⟨hS04, ?_⟩
        rw [HP.out.2, HWr.out, e1, e2, e3, if_neg hx, if_neg (fun h => hn ⟨h.2.1, h.2.2⟩)]
        exact hK4
    go_upto_if 20 with fail
    go_cut [5] from 6 (fun x5 wc => ∃ X S T tag4, x5 = .int .i64 X ∧ Hid (wrtE b.pay.s b.pay.t [⟨k0, k1, k2, k3, k4⟩] = X ∧ wrtS b.pay.s b.pay.t [⟨k0, k1, k2, k3, k4⟩] = S ∧ wrtT b.pay.s b.pay.t [⟨k0, k1, k2, k3, k4⟩] = T) ∧ Hid (StepR (clip tag w.heap.size) tag4 base o (o + 2) w1 wc) ∧ Hid (RK wc tag4 base o M B ⟨S, T, b.pay.L, b.pay.D⟩))
    case first =>
      by_cases hE : E1 = 0
      case neg =>
        have HFi : Hid (wrtE b.pay.s b.pay.t [⟨k0, k1, k2, k3, k4⟩] = E1 ∧ wrtS b.pay.s b.pay.t [⟨k0, k1, k2, k3, k4⟩] = S1 ∧ wrtT b.pay.s b.pay.t [⟨k0, k1, k2, k3, k4⟩] = T1) := by
          obtain ⟨v1, v2, v3⟩ := HU.out
          rw [if_pos hE] at v1 v2 v3
          exact ⟨v1, v2, v3⟩
        have hb0' : (E1 == 0) = false := by simpa using hE
        clear hE
        go_wp2
        go_meet
        exact ⟨E1, S1, T1, tag3, rfl, HFi, HS3, HK3⟩
      subst hE
      have HFi : Hid (wrtE b.pay.s b.pay.t [⟨k0, k1, k2, k3, k4⟩] = errC S1.out ∧ wrtS b.pay.s b.pay.t [⟨k0, k1, k2, k3, k4⟩] = S1.sync ∧ wrtT b.pay.s b.pay.t [⟨k0, k1, k2, k3, k4⟩] = synT S1 T1) := by
        obtain ⟨v1, v2, v3⟩ := HU.out
        rw [if_neg (by simp)] at v1 v2 v3
        exact ⟨v1, v2, v3⟩
      obtain ⟨T, g0, hSy⟩ := HSyn.out w3 tag3 HK3.out
      go_wp2_with fail
      refine (by exact hSy : Calls _ _ _ _ _).mono ?_
      rintro r w4 ⟨rfl, hS4, hK4⟩
      have HS4 : Hid (StepR (clip tag w.heap.size) tag3 base o (o + 2) w1 w4) := HS3.out.trans (hS4.wide (Nat.le_refl o) (by omega))
      have HK4 : Hid (RK w4 tag3 base o M B ⟨S1.sync, synT S1 T1, b.pay.L, b.pay.D⟩) := hK4
      clear hS4 hK4 hSy g0
      go_wp2
      go_meet
      exact ⟨_, _, _, tag3, rfl, HFi, HS4, HK4⟩
    case rest =>
    obtain ⟨X, S, T, tag4, rfl, HX, HS4, HK4⟩ := hcut
    obtain ⟨w4, rfl⟩ : ∃ w4, w4 = wc := ⟨wc, rfl⟩
    clear HS3 HK3 HSyn HU
    have HuE : Hid (b.putE ⟨k0, k1, k2, k3, k4⟩ = X) := HP.out.1.trans HX.out.1
    obtain ⟨c0, c1, c2, c3, c4⟩ := HCe.out w4 tag4 HS4.out
    by_cases hz : X = 0
    case neg =>
      obtain ⟨f1, f2⟩ := HOwe.out X S T w4 tag4 hz HX.out.1 HX.out.2.1 HX.out.2.2 HS4.out HK4.out
      clear HX HP HWr HK4 HOwe
      have hb1' : (X != 0) = true := by simpa using hz
      have hb0' : (X == 0) = false := by simpa using hz
      by_cases hcond : k0 = 2 ∧ X ≠ 6
      · obtain ⟨hk2, h6⟩ := hcond
        obtain ⟨a, c, g2, hBl, a5, c5, w5, hr5, h5a, h5b, tag5, hS5, hK5⟩ := f1 ⟨hk2, h6⟩
        have HF : Hid (StepR tag tag5 base o (o + 2) w (w5.setCell ⟨B, 2, none⟩ (.slice a5 (b.pay.D.length + 1) c5)) ∧ RK (w5.setCell ⟨B, 2, none⟩ (.slice a5 (b.pay.D.length + 1) c5)) tag5 base o M B (b.put ⟨k0, k1, k2, k3, k4⟩)) := ⟨hS5, hK5⟩
        have h6' : (X != 6) = true := by simpa using h6
        clear f1 f2 hS5 hK5 h6 hz
        subst hk2
        have hwl : w.heap.size < w4.heap.size := Nat.lt_of_lt_of_le hws HS4.out.below.size
        clear c2 HCe HS4 HS1 hws htw hb1
        go_wp2_with fail
        go_region_law (refine step_app_run rfl (.tmp 49) (.tmp 57) 63 rfl (.slice a b.pay.D.length c) (.slice (some ⟨w4.drew.heap.size, 0, none⟩) 1 1) (by rfl) (by rfl) hr5 ?_)
        all_goals
          go_wp2
          go_ret
          exact ⟨by rw [HuE.out]; rfl, tag5, HF.out.1, HF.out.2⟩
      · have HF : Hid (StepR tag tag4 base o (o + 2) w w4 ∧ RK w4 tag4 base o M B (b.put ⟨k0, k1, k2, k3, k4⟩)) := f2 hcond
        clear f1 f2 hz
        by_cases hk2 : k0 = 2
        · have h6 : X = 6 := by
            by_cases h : X = 6
            · exact h
            · exact absurd ⟨hk2, h⟩ hcond
          subst hk2 h6
          clear hcond
          go_wp2
          go_ret
          exact ⟨by rw [HuE.out]; rfl, tag4, HF.out.1, HF.out.2⟩
        · have hk2' : (k0 == 2) = false := by simpa using hk2
          clear hcond
          go_wp2
          go_ret
          exact ⟨by rw [HuE.out]; rfl, tag4, HF.out.1, HF.out.2⟩
    subst hz
    have hS04 := HS1.out.trans HS4.out
    have hb4 : base ≤ w4.heap.size := Nat.le_trans hbase hS04.below.size
    have hKd : RK w4.drew tag4 base o M B ⟨S, T, b.pay.L, b.pay.D⟩ := HK4.out.later (Below.refl _ w4).drew
    obtain ⟨la, lc, g1, hBl, a5, c5, w5, hr5, h5a, h5b, tag5, hS5, hK5⟩ := rk_known hKd hb4 (by show b.pay.L.length ≤ _; omega) ⟨k0, k1, k2, k3, k4⟩
    have g1' : w4.cell? ⟨B, 1, none⟩ = some (.slice la b.pay.L.length lc) := g1
    have h5a' : w5.cell? ⟨B, 1, none⟩ = some (.slice la b.pay.L.length lc) := h5a
    have hBl' : B < w4.heap.size := hBl
    have hwl : w.heap.size < w4.heap.size := Nat.lt_of_lt_of_le hws HS4.out.below.size
    have HF : Hid (StepR tag tag5 base o (o + 2) w (w5.setCell ⟨B, 1, none⟩ (.slice a5 (b.pay.L.length + 1) c5)) ∧ RK (w5.setCell ⟨B, 1, none⟩ (.slice a5 (b.pay.L.length + 1) c5)) tag5 base o M B (b.put ⟨k0, k1, k2, k3, k4⟩)) := by
      refine ⟨⟨hS04.below.drew.trans hS5.below, fun j hj => (hS5.tags j (Nat.lt_of_lt_of_le hj hS04.below.size)).trans (hS04.tags j hj), fun j hj hne => (hS5.kept j (Nat.lt_of_lt_of_le hj hS04.below.size) (by rw [hS04.tags j hj]; omega)).trans (hS04.kept j hj hne)⟩, ?_⟩
      obtain ⟨v1, v2, v3⟩ := HX.out
      rw [HP.out.2, HWr.out, v1, v2, v3, if_pos rfl, if_neg (fun h => h.1 rfl)]
      exact hK5
    clear hKd hS5 hK5 g1 h5a HX HP HWr HK4 HOwe hS04 HCe HS4 HS1 hws htw hb1
    go_wp2_with fail
    go_region_law (refine step_app_run rfl (.tmp 32) (.tmp 34) 63 rfl (.slice la b.pay.L.length lc) (.slice (some ⟨w4.drew.heap.size, 0, none⟩) 1 1) (by rfl) (by rfl) hr5 ?_)
    all_goals
      go_wp2
      go_ret
      exact ⟨by rw [HuE.out]; rfl, tag5, HF.out.1, HF.out.2⟩

theorem rgrant_ok (w : World) (tag : Nat → Nat) (base o M B : Nat) (ho : 1 ≤ o) (b : Bm) (h : RK w tag base o M B b) (hbase : base ≤ w.heap.size) (now sub addr block : Int) (hok : En.Ok ⟨2, now, sub, addr, block⟩) (q : Nat) (hb : b.Ok q)
    (hq : q ≤ 700000) (hout : b.s.outs.length ≤ 900000) (hrec : b.t.recs.length ≤ 700000) (hL : b.L.length ≤ 700000) :
    Calls Tryz.prog 16 #[.pointer (some ⟨B, 0, none⟩), .int .i64 now, .int .u32 sub, .int .u32 addr, .int .i64 block] w fun r w' => r = .returned (.int .i64 (b.putE ⟨2, now, sub, addr, block⟩)) ∧ ∃ tag', StepR tag tag' base o (o + 2) w w' ∧ RK w' tag' base o M B (b.put ⟨2, now, sub, addr, block⟩) := by
  have HW := rwrite_ok w tag base o M B ho b h hbase ⟨2, now, sub, addr, block⟩ hok q hb hq hout hrec hL
  clear h
  go_enter Tryz.func16, Tryz.ntmps16
  go_wp2_with fail
  refine (by exact HW : Calls _ _ _ _ _).mono ?_
  rintro r w1 ⟨rfl, tag1, h1, h2⟩
  have HF : Hid (StepR tag tag1 base o (o + 2) w w1 ∧ RK w1 tag1 base o M B (b.put ⟨2, now, sub, addr, block⟩)) := ⟨h1, h2⟩
  clear h1 h2 HW
  go_wp2
  go_ret
  exact ⟨rfl, tag1, HF.out.1, HF.out.2⟩

theorem rrelease_ok (w : World) (tag : Nat → Nat) (base o M B : Nat) (ho : 1 ≤ o) (b : Bm) (h : RK w tag base o M B b) (hbase : base ≤ w.heap.size) (now addr block : Int) (hok : En.Ok ⟨3, now, 0, addr, block⟩) (q : Nat) (hb : b.Ok q)
    (hq : q ≤ 700000) (hout : b.s.outs.length ≤ 900000) (hrec : b.t.recs.length ≤ 700000) (hL : b.L.length ≤ 700000) :
    Calls Tryz.prog 18 #[.pointer (some ⟨B, 0, none⟩), .int .i64 now, .int .u32 addr, .int .i64 block] w fun r w' => r = .returned (.int .i64 (b.putE ⟨3, now, 0, addr, block⟩)) ∧ ∃ tag', StepR tag tag' base o (o + 2) w w' ∧ RK w' tag' base o M B (b.put ⟨3, now, 0, addr, block⟩) := by
  have HW := rwrite_ok w tag base o M B ho b h hbase ⟨3, now, 0, addr, block⟩ hok q hb hq hout hrec hL
  clear h
  go_enter Tryz.func18, Tryz.ntmps18
  go_wp2_with fail
  refine (by exact HW : Calls _ _ _ _ _).mono ?_
  rintro r w1 ⟨rfl, tag1, h1, h2⟩
  have HF : Hid (StepR tag tag1 base o (o + 2) w w1 ∧ RK w1 tag1 base o M B (b.put ⟨3, now, 0, addr, block⟩)) := ⟨h1, h2⟩
  clear h1 h2 HW
  go_wp2
  go_ret
  exact ⟨rfl, tag1, HF.out.1, HF.out.2⟩

end Go.Proofs.YtafkkehcacdodaaGreat
