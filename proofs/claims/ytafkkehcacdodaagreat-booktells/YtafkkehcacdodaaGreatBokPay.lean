/- Pay, settle, may, ready. -/
import Derived.Test.YtafkkehcacdodaaGreatBokWrite
set_option maxRecDepth 100000
namespace Go.Proofs.YtafkkehcacdodaaGreat
open Go.RowKit

theorem paid_ok3 (b : Bm) (h : wrtE b.s b.t b.D = 0) : b.paid = stW b b.D 4 := by
  unfold Bm.paid stW
  rw [if_pos h, if_pos h]
  rfl

theorem paid_no (b : Bm) (h : wrtE b.s b.t b.D ≠ 0) : b.paid = ⟨wrtS b.s b.t b.D, wrtT b.s b.t b.D, b.L, b.D⟩ := by
  unfold Bm.paid
  rw [if_neg h, if_neg h]

set_option maxHeartbeats 2000000 in
theorem bpay_ok (w : World) (tag : Nat → Nat) (base o D B : Nat) (ho : 1 ≤ o) (b : Bm) (h : BK w tag base o D B b) (hbase : base ≤ w.heap.size) (q : Nat) (hb : b.Ok q)
    (hq : q ≤ 800000) (hout : b.s.outs.length ≤ 900000) (hrec : b.t.recs.length ≤ 800000) (hL : b.L.length ≤ 800000) :
    Calls Tryz.prog 19 #[.pointer (some ⟨B, 0, none⟩)] w fun e w' => e = .returned (.int .i64 b.payE) ∧ ∃ tag', StepR tag tag' base o (o + 2) w w' ∧ BK w' tag' base o D B b.pay := by
  have hmf : ∀ (fn : Fn) (first cap : Array Value) (w : World), (Instr.makeFunc fn first cap).run Tryz.prog w = .ok (.func fn first cap) w := fun _ _ _ _ => rfl
  have HM := bmade_ok w tag base o D B b h
  obtain ⟨p, q', kv, dv, hD, hP, hPo, hPb⟩ := h
  have g2 := hPb.s2
  obtain ⟨a, c, rfl, hc1, hc2⟩ := win_form hPb.wD
  unfold maxLen at hc2
  have hBK : BK w tag base o D B b := ⟨p, q', kv, _, hD, hP, hPo, hPb⟩
  have hd1 := hb.d1
  by_cases hDe : b.D = []
  · have hl0 : b.D.length = 0 := by rw [hDe]; rfl
    have HP : Hid (b.payE = 0 ∧ b.pay = b) := ⟨if_pos hDe, if_pos hDe⟩
    have HB : Hid (BK w tag base o D B b) := hBK
    rw [hl0] at g2
    clear hP hPo hPb hBK hDe
    go_enter Tryz.func19, Tryz.ntmps19
    go_wp2_with fail
    refine HM.mono ?_
    rintro e w' ⟨rfl, rfl⟩
    go_wp2
    go_ret
    exact ⟨by rw [HP.out.1]; rfl, tag, StepR.refl _ _ _ _ _, by rw [HP.out.2]; exact HB.out⟩
  have hl1 : b.D.length ≠ 0 := fun e => hDe (List.eq_nil_of_length_eq_zero e)
  have hl1I : ¬ (b.D.length : Int) = 0 := by omega
  obtain ⟨w1, hw1⟩ : ∃ w1, w1 = w.alloc (.cells #[.func (.func 50) #[.pointer (some ⟨B, 0, none⟩)] #[], .func (.func 51) #[.pointer (some ⟨B, 0, none⟩)] #[], .func (.func 52) #[.pointer (some ⟨B, 0, none⟩)] #[], .func (.func 53) #[.pointer (some ⟨B, 0, none⟩)] #[]] 150) := ⟨_, rfl⟩
  obtain ⟨W0, hW0⟩ : ∃ W0, W0 = w1.alloc (.cells #[.int .i64 0] 26) := ⟨_, rfl⟩
  have hs1 : w1.heap.size = w.heap.size + 1 := by rw [hw1]; simp
  have hs0 : W0.heap.size = w.heap.size + 2 := by rw [hW0]; simp [hs1]
  have hB1 : Below w.heap.size w w1 := by rw [hw1]; exact below_alloc _ _
  have hB0 : Below w.heap.size w W0 := by rw [hW0]; exact hB1.trans ((below_alloc w1 _).mono (by omega))
  have hcl : ∀ g, w.heap.size ≤ g → clip tag w.heap.size g / 16 < o := fun g hg => by simp [clip, Nat.not_lt.2 hg]; omega
  have hcE : W0.cell? ⟨w.heap.size + 1, 0, none⟩ = some (.int .i64 0) := by rw [hW0, ← hs1]; simp
  have hfE : W0.frozen? ⟨w.heap.size + 1, 0, none⟩ = false := by rw [hW0, ← hs1]; simp
  have hcS : ∀ j, j < 4 → W0.cell? ⟨w.heap.size, j, none⟩ = some (.func (.func (fsW j)) #[.pointer (some ⟨B, 0, none⟩)] #[]) := by
    intro j hj
    have : w1.cell? ⟨w.heap.size, j, none⟩ = some (.func (.func (fsW j)) #[.pointer (some ⟨B, 0, none⟩)] #[]) := by
      rw [hw1]
      match j, hj with
      | 0, _ => simp; rfl
      | 1, _ => simp; rfl
      | 2, _ => simp; rfl
      | 3, _ => simp; rfl
    rw [hW0]; exact cell_later (below_alloc w1 _) this
  have hFar : Far w tag o (o + 1) (.slice a b.D.length c) b.D := ⟨hPb.wD, fun g hg => .inr (by have := (hPb.tD g hg).1; omega)⟩
  have hSt := steps_w 4 (by omega) (clip tag w.heap.size) base o D B ho b (.slice a b.D.length c) b.D W0 (by omega) w.heap.size (w.heap.size + 1) (by omega) (by omega) (hcl _ (Nat.le_refl _)) (hcl _ (by omega)) hcS hcE hfE q hb.nb hb.fD (by omega) hout (by omega) (by omega)
  have hI0 : IW (clip tag w.heap.size) base o D B b (.slice a b.D.length c) b.D W0 0 W0 (clip tag w.heap.size) := ⟨StepR.refl _ _ _ _ _, hBK.new hB0, fun _ => hFar.new hB0, fun h => absurd h (by omega), fun h => absurd h (by omega)⟩
  rw [← hs1] at hSt
  have HT := btake_any 4 4 (Nat.le_refl _) (by decide) fsW (.pointer (some ⟨B, 0, none⟩)) (.slice a b.D.length c) w.heap.size w1 _ _ hSt ⟨_, by rw [← hW0]; exact hI0⟩
  rw [hw1] at HT
  have HFin : Hid (∀ x W, ((x = 0 ∧ ∃ tag', IW (clip tag w.heap.size) base o D B b (.slice a b.D.length c) b.D W0 4 W tag') ∨ (x ≠ 0 ∧ EW (clip tag w.heap.size) base o D B b b.D W0 x W)) → x = b.payE ∧ ∃ tag', StepR tag tag' base o (o + 2) w (W.setCell ⟨w.heap.size + 1, 0, none⟩ (.int .i64 x)) ∧
      BK (W.setCell ⟨w.heap.size + 1, 0, none⟩ (.int .i64 x)) tag' base o D B b.pay) := by
    have hpE : b.payE = wrtE b.s b.t b.D := if_neg hDe
    have hpB : b.pay = b.paid := if_neg hDe
    rw [hpE, hpB]
    rintro x W (⟨rfl, tag', hI⟩ | ⟨hx, tag', h1, h2, rfl⟩)
    · have hz := hI.e2 (by omega)
      obtain ⟨k1, k2⟩ := bk_last ho hbase hB0 hI.step hI.bk (g := w.heap.size + 1) (by omega) (by omega) (.int .i64 0)
      exact ⟨hz.symm, tag', k1, by rw [paid_ok3 b hz]; exact k2⟩
    · obtain ⟨k1, k2⟩ := bk_last ho hbase hB0 h1 h2 (g := w.heap.size + 1) (by omega) (by omega) (.int .i64 (wrtE b.s b.t b.D))
      exact ⟨rfl, tag', k1, by rw [paid_no b hx]; exact k2⟩
  clear hP hPo hPb hBK hFar hSt hI0 hcS hcE hfE hB0 hB1 hcl hb hDe
  go_enter Tryz.func19, Tryz.ntmps19
  go_wp2_with fail
  refine HM.mono ?_
  rintro e w' ⟨rfl, hx⟩
  rw [hx]
  clear hx
  go_wp2_with fail
  refine (by exact HT : Calls _ _ _ _ _).mono ?_
  rintro e w' ⟨x, W, rfl, rfl, hx⟩
  have hfin := HFin.out x W hx
  rw [← hw1, hs1]
  clear hx HT HFin
  obtain ⟨rfl, hfin⟩ := hfin
  go_wp2
  go_ret
  exact ⟨rfl, hfin⟩

set_option maxHeartbeats 1000000 in
theorem bsettle_ok (w : World) (tag : Nat → Nat) (base o D B : Nat) (ho : 1 ≤ o) (b : Bm) (h : BK w tag base o D B b) (hbase : base ≤ w.heap.size) (lv : Value) (q : Nat) (hb : b.Ok q)
    (hq : q ≤ 800000) (hout : b.s.outs.length ≤ 900000) (hrec : b.t.recs.length ≤ 800000) (hL : b.L.length ≤ 800000) :
    Calls Tryz.prog 84 #[.pointer (some ⟨B, 0, none⟩), lv] w fun e w' => ∃ tag', StepR tag tag' base o (o + 2) w w' ∧ BK w' tag' base o D B b.pay ∧ e = stepEnd b.payE := by
  have HP := bpay_ok w tag base o D B ho b h hbase q hb hq hout hrec hL
  have hneed := need_no
  clear h
  by_cases hE : b.payE = 0
  · rw [hE] at HP ⊢
    go_enter Tryz.func84, Tryz.ntmps84
    go_wp2_with fail
    refine HP.mono ?_
    rintro e w1 ⟨rfl, tag1, h1, h2⟩
    go_wp2_with fail
    refine (by exact hneed _ : Calls _ _ _ _ _).mono ?_
    rintro e w2 ⟨rfl, rfl⟩
    go_wp2
    go_end0
    exact ⟨tag1, h1, h2, rfl⟩
  · have hyes := fun w1 => need_yes b.payE w1 hE
    have hEnd := stepEnd_no hE
    go_enter Tryz.func84, Tryz.ntmps84
    go_wp2_with fail
    refine HP.mono ?_
    rintro e w1 ⟨rfl, tag1, h1, h2⟩
    go_wp2_with fail
    refine (by exact hyes _ : Calls _ _ _ _ _).mono ?_
    rintro e w2 ⟨rfl, rfl⟩
    go_wp2
    exact ⟨rfl, tag1, h1, h2, hEnd.symm⟩

/-- may of one entry. -/
theorem bmay_ok (w : World) (p lv : Value) (e : En) (h : Win w 5 lv 1 (eL5 e)) :
    Calls Tryz.prog 83 #[p, lv] w fun x w' => Below w.heap.size w w' ∧ x = stepEnd (checkE e) := by
  have hE : Hid (∃ B O c, lv = .slice (some ⟨B, O, none⟩) 1 c ∧ 1 ≤ c ∧ c ≤ maxLen ∧ EnAt w B O e) := by
    show ∃ _, _
    have := win_ens (w := w) (v := lv) (l := [e]) (by simpa using h)
    obtain ⟨B, O, ⟨a, c, h1, h2, h3, h4, h5⟩, _⟩ := this
    have h5 := h5 0 e rfl
    rw [Nat.zero_mul, Nat.add_zero] at h5
    rcases h4 with rfl | h4
    · exact ⟨B, O, c, h1, h2, h3, h5⟩
    · cases h4
  clear h
  obtain ⟨B, O, c, rfl, hc1, hc2, c0, c1, c2, c3, c4⟩ := hE.out
  unfold maxLen at hc2
  clear hE
  have hcheck := fun w1 => echeck_any e w1
  have hneed := need_no
  have HCk : Hid (checkE e = 0 ∨ checkE e = 1) := check_cases e
  generalize checkE e = X at *
  obtain ⟨k0, k1, k2, k3, k4⟩ := e
  simp only at c0 c1 c2 c3 c4
  go_enter Tryz.func83, Tryz.ntmps83
  go_wp2_with fail
  go_loopg [8] 1 (fun gk i wr => ∃ k : Nat, k + gk = 1 ∧ i = .int .i64 k ∧ Below w.heap.size w wr ∧ (k = 1 → X = 0))
  case atStart => exact ⟨0, by omega, rfl, Below.refl _ _, fun h => absurd h (by decide)⟩
  case round =>
    obtain ⟨k, hk, rfl, hB, hz⟩ := hrel
    by_cases hlt : k < 1
    case neg =>
      have hk1 : k = 1 := by omega
      subst hk1
      have hX := hz rfl
      subst hX
      go_wp2
      go_end0
      exact ⟨hB, rfl⟩
    have hk0 : k = 0 := by omega
    subst hk0
    have c0 := cell_later hB c0
    have c1 := cell_later hB c1
    have c2 := cell_later hB c2
    have c3 := cell_later hB c3
    have c4 := cell_later hB c4
    have hB2 := hB.trans ((below_alloc wr (.cells #[.int .i64 k0, .int .i64 k1, .int .u32 k2, .int .u32 k3, .int .i64 k4] 73)).mono hB.size)
    go_wp2_with fail
    refine (by exact hcheck _ : Calls _ _ _ _ _).mono ?_
    rintro e w1 ⟨rfl, hb1⟩
    have hB2 := hB2.trans (hb1.mono hB2.size)
    have hyes := need_yes 1 w1 (by decide)
    rcases HCk.out with hX | hX
    · subst hX
      go_wp2_with fail
      refine (by exact hneed _ : Calls _ _ _ _ _).mono ?_
      rintro e w1' ⟨rfl, hx⟩
      rw [hx]
      clear hx
      go_wp2
      go_roundg 0
      case rel => exact ⟨1, by omega, by go_num, hB2, by simp⟩
      case measure => omega
    · subst hX
      go_wp2_with fail
      refine (by exact hyes : Calls _ _ _ _ _).mono ?_
      rintro e w1' ⟨rfl, hx⟩
      rw [hx]
      clear hx
      go_wp2
      exact ⟨rfl, hB2, rfl⟩

end Go.Proofs.YtafkkehcacdodaaGreat
