/- ready, release, Grant, Release. -/
import Derived.Test.YtafkkehcacdodaaGreatBokPay
import Derived.Test.YtafkkehcacdodaaGreatTraStep
set_option maxRecDepth 100000
namespace Go.Proofs.YtafkkehcacdodaaGreat
open Go.RowKit

/-- The steps of ready. -/
def fsR : Nat → Nat
  | 0 => 83
  | _ => 84

/-- What ready answers. -/
def Bm.readyE (b : Bm) (e : En) : Int := if checkE e ≠ 0 then checkE e else b.payE
def Bm.ready (b : Bm) (e : En) : Bm := if checkE e ≠ 0 then b else b.pay

/-- Between two steps. -/
structure IR (tag : Nat → Nat) (base o D B : Nat) (b : Bm) (lv : Value) (e : En) (W0 : World) (j : Nat) (W : World) (tag' : Nat → Nat) : Prop where
  step : StepR tag tag' base o (o + 2) W0 W
  bk : BK W tag' base o D B (if j ≤ 1 then b else b.pay)
  win : j = 0 → Win W 5 lv 1 (eL5 e)
  e1 : 1 ≤ j → checkE e = 0
  e2 : 2 ≤ j → b.payE = 0

def ER (tag : Nat → Nat) (base o D B : Nat) (b : Bm) (e : En) (W0 : World) (x : Int) (W : World) : Prop :=
  ∃ tag', StepR tag tag' base o (o + 2) W0 W ∧ BK W tag' base o D B (b.ready e) ∧ x = b.readyE e

theorem steps_r (tag : Nat → Nat) (base o D B : Nat) (ho : 1 ≤ o) (b : Bm) (lv : Value) (e : En) (W0 : World) (hbase : base ≤ W0.heap.size) (SB EB : Nat) (hSB : SB < W0.heap.size) (hEB : EB < W0.heap.size) (htS : tag SB / 16 < o) (htE : tag EB / 16 < o)
    (hcS : ∀ j, j < 2 → W0.cell? ⟨SB, j, none⟩ = some (.func (.func (fsR j)) #[.pointer (some ⟨B, 0, none⟩)] #[])) (hcE : W0.cell? ⟨EB, 0, none⟩ = some (.int .i64 0)) (hfE : W0.frozen? ⟨EB, 0, none⟩ = false)
    (q : Nat) (hb : b.Ok q) (hq : q ≤ 800000) (hout : b.s.outs.length ≤ 900000) (hrec : b.t.recs.length ≤ 800000) (hL : b.L.length ≤ 800000) :
    Steps9 2 fsR (.pointer (some ⟨B, 0, none⟩)) lv EB SB (fun j W => ∃ tag', IR tag base o D B b lv e W0 j W tag') (ER tag base o D B b e W0) := by
  refine ⟨?_, ?_, ?_, ?_, ?_⟩
  · rintro j hj W ⟨tag', hI⟩
    rw [(stepR_cell hI.step hSB htS j).1]; exact hcS j hj
  · intro j hj
    match j with
    | 0 => exact enters_may
    | j + 1 => exact enters_settle
  · rintro j hj W ⟨tag', hI⟩
    have hbW : base ≤ W.heap.size := Nat.le_trans hbase hI.step.below.size
    match j with
    | 0 =>
      refine (bmay_ok W _ lv e (hI.win rfl)).mono ?_
      rintro r w' ⟨h1, rfl⟩
      have hst : StepR tag' tag' base o (o + 2) W w' := stepR_new tag' base o (o + 2) hbW h1
      have hbk : BK w' tag' base o D B b := by
        obtain ⟨p, q', kv, dv, k0, k1, k2, k3⟩ := hI.bk
        exact ⟨p, q', kv, dv, k0, k1.later h1, k2.later h1, k3.later h1⟩
      by_cases hE : checkE e = 0
      · left
        exact ⟨by rw [hE]; rfl, tag', hI.step.trans hst, hbk, fun h => absurd h (by omega), fun _ => hE, fun h => absurd h (by omega)⟩
      · right
        refine ⟨checkE e, stepEnd_no hE, hE, tag', hI.step.trans hst, ?_, ?_⟩
        · unfold Bm.ready; rw [if_pos hE]; exact hbk
        · unfold Bm.readyE; rw [if_pos hE]
    | 1 =>
      have hc := hI.e1 (by omega)
      refine (bsettle_ok W tag' base o D B ho b hI.bk hbW lv q hb hq hout hrec hL).mono ?_
      rintro r w' ⟨tag2, h1, h2, rfl⟩
      by_cases hE : b.payE = 0
      · left
        exact ⟨by rw [hE]; rfl, tag2, hI.step.trans h1, h2, fun h => absurd h (by omega), fun _ => hc, fun _ => hE⟩
      · right
        refine ⟨b.payE, stepEnd_no hE, hE, tag2, hI.step.trans h1, ?_, ?_⟩
        · unfold Bm.ready; rw [if_neg (by simpa using hc)]; exact h2
        · unfold Bm.readyE; rw [if_neg (by simpa using hc)]
    | j + 2 => omega
  · rintro j hj W ⟨tag', hI⟩
    have := stepR_cell hI.step hEB htE 0
    exact ⟨by rw [this.1]; exact hcE, by rw [this.2]; exact hfE⟩
  · rintro x W ⟨tag', h1, _⟩
    have := stepR_cell h1 hEB htE 0
    exact ⟨by rw [this.1]; exact hcE, by rw [this.2]; exact hfE⟩

theorem win_one (w : World) (C : Array Value) (t : TypeId) (h5 : C.size = 5) : Win (w.alloc (.cells C t)) 5 (.slice (some ⟨w.heap.size, 0, none⟩) 1 1) 1 C.toList := by
  refine ⟨by simp [h5], .inr ⟨w.heap.size, 0, 1, C.toList, rfl, ⟨t, ?_⟩, Nat.le_refl _, by decide, by simp [h5], ?_⟩⟩
  · rw [World.alloc_heap_new]
  · rw [List.drop_zero]; exact List.take_of_length_le (by simp [h5])

set_option maxHeartbeats 2000000 in
theorem bready_ok (w : World) (tag : Nat → Nat) (base o D B : Nat) (ho : 1 ≤ o) (b : Bm) (h : BK w tag base o D B b) (hbase : base ≤ w.heap.size) (e : En) (q : Nat) (hb : b.Ok q)
    (hq : q ≤ 800000) (hout : b.s.outs.length ≤ 900000) (hrec : b.t.recs.length ≤ 800000) (hL : b.L.length ≤ 800000) :
    Calls Tryz.prog 45 #[.pointer (some ⟨B, 0, none⟩), enV e] w fun r w' => r = .returned (.int .i64 (b.readyE e)) ∧ ∃ tag', StepR tag tag' base o (o + 2) w w' ∧ BK w' tag' base o D B (b.ready e) := by
  have hmf : ∀ (fn : Fn) (first cap : Array Value) (w : World), (Instr.makeFunc fn first cap).run Tryz.prog w = .ok (.func fn first cap) w := fun _ _ _ _ => rfl
  obtain ⟨wa, hwa⟩ : ∃ wa, wa = w.alloc (.cells (enC e) 73) := ⟨_, rfl⟩
  obtain ⟨wb, hwb⟩ : ∃ wb, wb = wa.alloc (.cells (enC e) 73) := ⟨_, rfl⟩
  obtain ⟨w1, hw1⟩ : ∃ w1, w1 = wb.alloc (.cells #[.func (.func 83) #[.pointer (some ⟨B, 0, none⟩)] #[], .func (.func 84) #[.pointer (some ⟨B, 0, none⟩)] #[]] 150) := ⟨_, rfl⟩
  obtain ⟨W0, hW0⟩ : ∃ W0, W0 = w1.alloc (.cells #[.int .i64 0] 26) := ⟨_, rfl⟩
  have hsa : wa.heap.size = w.heap.size + 1 := by rw [hwa]; simp
  have hsb : wb.heap.size = w.heap.size + 2 := by rw [hwb]; simp [hsa]
  have hs1 : w1.heap.size = w.heap.size + 3 := by rw [hw1]; simp [hsb]
  have hs0 : W0.heap.size = w.heap.size + 4 := by rw [hW0]; simp [hs1]
  have hBa : Below w.heap.size w wa := by rw [hwa]; exact below_alloc _ _
  have hBb : Below w.heap.size w wb := by rw [hwb]; exact hBa.trans ((below_alloc wa _).mono (by omega))
  have hB1 : Below w.heap.size w w1 := by rw [hw1]; exact hBb.trans ((below_alloc wb _).mono (by omega))
  have hB0 : Below w.heap.size w W0 := by rw [hW0]; exact hB1.trans ((below_alloc w1 _).mono (by omega))
  have hcl : ∀ g, w.heap.size ≤ g → clip tag w.heap.size g / 16 < o := fun g hg => by simp [clip, Nat.not_lt.2 hg]; omega
  have hcE : W0.cell? ⟨w.heap.size + 3, 0, none⟩ = some (.int .i64 0) := by rw [hW0, ← hs1]; simp
  have hfE : W0.frozen? ⟨w.heap.size + 3, 0, none⟩ = false := by rw [hW0, ← hs1]; simp
  have hcS : ∀ j, j < 2 → W0.cell? ⟨w.heap.size + 2, j, none⟩ = some (.func (.func (fsR j)) #[.pointer (some ⟨B, 0, none⟩)] #[]) := by
    intro j hj
    have : w1.cell? ⟨w.heap.size + 2, j, none⟩ = some (.func (.func (fsR j)) #[.pointer (some ⟨B, 0, none⟩)] #[]) := by
      rw [hw1, ← hsb]
      match j, hj with
      | 0, _ => simp; rfl
      | 1, _ => simp; rfl
    rw [hW0]; exact cell_later (below_alloc w1 _) this
  have hwinb : Win wb 5 (.slice (some ⟨w.heap.size + 1, 0, none⟩) 1 1) 1 (eL5 e) := by
    have := win_one wa (enC e) 73 rfl
    rw [← hwb, hsa] at this
    exact this
  have hwin0 : Win W0 5 (.slice (some ⟨w.heap.size + 1, 0, none⟩) 1 1) 1 (eL5 e) := by
    have k1 : Win w1 5 (.slice (some ⟨w.heap.size + 1, 0, none⟩) 1 1) 1 (eL5 e) := by rw [hw1]; exact hwinb.later (below_alloc _ _)
    rw [hW0]; exact k1.later (below_alloc _ _)
  have hSt := steps_r (clip tag w.heap.size) base o D B ho b (.slice (some ⟨w.heap.size + 1, 0, none⟩) 1 1) e W0 (by omega) (w.heap.size + 2) (w.heap.size + 3) (by omega) (by omega) (hcl _ (by omega)) (hcl _ (by omega)) hcS hcE hfE q hb hq hout hrec hL
  have hI0 : IR (clip tag w.heap.size) base o D B b (.slice (some ⟨w.heap.size + 1, 0, none⟩) 1 1) e W0 0 W0 (clip tag w.heap.size) := ⟨StepR.refl _ _ _ _ _, h.new hB0, fun _ => hwin0, fun h => absurd h (by omega), fun h => absurd h (by omega)⟩
  rw [← hs1] at hSt
  have HT := btake_any 2 2 (Nat.le_refl _) (by decide) fsR (.pointer (some ⟨B, 0, none⟩)) (.slice (some ⟨w.heap.size + 1, 0, none⟩) 1 1) (w.heap.size + 2) w1 _ _ hSt ⟨_, by rw [← hW0]; exact hI0⟩
  have HFin : Hid (∀ x W, ((x = 0 ∧ ∃ tag', IR (clip tag w.heap.size) base o D B b (.slice (some ⟨w.heap.size + 1, 0, none⟩) 1 1) e W0 2 W tag') ∨ (x ≠ 0 ∧ ER (clip tag w.heap.size) base o D B b e W0 x W)) → x = b.readyE e ∧ ∃ tag', StepR tag tag' base o (o + 2) w (W.setCell ⟨w.heap.size + 3, 0, none⟩ (.int .i64 x)) ∧
      BK (W.setCell ⟨w.heap.size + 3, 0, none⟩ (.int .i64 x)) tag' base o D B (b.ready e)) := by
    rintro x W (⟨rfl, tag', hI⟩ | ⟨hx, tag', h1, h2, rfl⟩)
    · have hz := hI.e1 (by omega)
      have hz2 := hI.e2 (by omega)
      obtain ⟨k1, k2⟩ := bk_last ho hbase hB0 hI.step hI.bk (g := w.heap.size + 3) (by omega) (by omega) (.int .i64 0)
      refine ⟨?_, tag', k1, ?_⟩
      · unfold Bm.readyE; rw [if_neg (by simpa using hz), hz2]
      · unfold Bm.ready; rw [if_neg (by simpa using hz)]; exact k2
    · obtain ⟨k1, k2⟩ := bk_last ho hbase hB0 h1 h2 (g := w.heap.size + 3) (by omega) (by omega) (.int .i64 (b.readyE e))
      exact ⟨rfl, tag', k1, k2⟩
  have HM := bmade_ok wa (clip tag w.heap.size) base o D B b (h.new hBa)
  clear h hSt hI0 hcS hcE hfE hB0 hB1 hcl hb hwin0 hwinb hBa hBb
  generalize b.readyE e = X at *
  generalize b.ready e = B2 at *
  rw [hw1, hwb, hwa] at HT
  rw [hwa] at HM
  obtain ⟨k0, k1, k2, k3, k4⟩ := e
  go_enter Tryz.func45, Tryz.ntmps45
  go_wp2_with fail
  refine (by exact HM : Calls _ _ _ _ _).mono ?_
  rintro r w' ⟨rfl, hx⟩
  rw [hx]
  clear hx HM
  go_wp2_with fail
  refine (by exact HT : Calls _ _ _ _ _).mono ?_
  rintro r w' ⟨x, W, rfl, rfl, hx⟩
  have hfin := HFin.out x W hx
  rw [← hwa, ← hwb, ← hw1, hs1]
  clear hx HT HFin
  obtain ⟨rfl, hfin⟩ := hfin
  go_wp2
  go_ret
  exact ⟨rfl, hfin⟩

end Go.Proofs.YtafkkehcacdodaaGreat
