/- ready, release, Grant, Release. -/
import Derived.Test.YtafkkehcacdodaaGreatM23
import Derived.Test.YtafkkehcacdodaaGreatM24
import Derived.Test.YtafkkehcacdodaaGreatM7
import Derived.Test.YtafkkehcacdodaaGreatM10
import Derived.Test.YtafkkehcacdodaaGreatM16
import Derived.KernelRfl
import Derived.Test.YtafkkehcacdodaaGreatM8
import Derived.Deep.Slices
import Derived.Test.YtafkkehcacdodaaGreatTraSame
set_option maxRecDepth 100000
namespace Go.Proofs.YtafkkehcacdodaaGreat
open Go.RowKit

/-- The steps of ready. -/
def fsR : Nat → Nat
  | 0 => 83
  | _ => 84

/-- What ready answers. -/
def Bm.readyE (b : Bm) (e : En) : Int := if checkE e ≠ 0 then checkE e else b.payE
def Bm.ready (b : Bm) (e : En) : Bm := if checkE e ≠ 0 then b else b.pay

/-- Between two steps. -/
structure IR (tag : Nat → Nat) (base o D B : Nat) (b : Bm) (lv : Value) (e : En) (W0 : World) (j : Nat) (W : World) (tag' : Nat → Nat) : Prop where
  step : StepR tag tag' base o (o + 2) W0 W
  bk : BK W tag' base o D B (if j ≤ 1 then b else b.pay)
  win : j = 0 → Win W 5 lv 1 (eL5 e)
  e1 : 1 ≤ j → checkE e = 0
  e2 : 2 ≤ j → b.payE = 0

def ER (tag : Nat → Nat) (base o D B : Nat) (b : Bm) (e : En) (W0 : World) (x : Int) (W : World) : Prop :=
  ∃ tag', StepR tag tag' base o (o + 2) W0 W ∧ BK W tag' base o D B (b.ready e) ∧ x = b.readyE e

theorem steps_r (tag : Nat → Nat) (base o D B : Nat) (ho : 1 ≤ o) (b : Bm) (lv : Value) (e : En) (W0 : World) (hbase : base ≤ W0.heap.size) (SB EB : Nat) (hSB : SB < W0.heap.size) (hEB : EB < W0.heap.size) (htS : tag SB / 16 < o) (htE : tag EB / 16 < o)
    (hcS : ∀ j, j < 2 → W0.cell? ⟨SB, j, none⟩ = some (.func (.func (fsR j)) #[.pointer (some ⟨B, 0, none⟩)] #[])) (hcE : W0.cell? ⟨EB, 0, none⟩ = some (.int .i64 0)) (hfE : W0.frozen? ⟨EB, 0, none⟩ = false)
    (q : Nat) (hb : b.Ok q) (hq : q ≤ 800000) (hout : b.s.outs.length ≤ 900000) (hrec : b.t.recs.length ≤ 800000) (hL : b.L.length ≤ 800000) :
    Steps9 2 fsR (.pointer (some ⟨B, 0, none⟩)) lv EB SB (fun j W => ∃ tag', IR tag base o D B b lv e W0 j W tag') (ER tag base o D B b e W0) := by
  refine ⟨?_, ?_, ?_, ?_, ?_⟩
  · rintro j hj W ⟨tag', hI⟩
    rw [(stepR_cell hI.step hSB htS j).1]; exact hcS j hj
  · intro j hj
    match j with
    | 0 => exact enters_may
    | j + 1 => exact enters_settle
  · rintro j hj W ⟨tag', hI⟩
    have hbW : base ≤ W.heap.size := Nat.le_trans hbase hI.step.below.size
    match j with
    | 0 =>
      refine (bmay_ok W _ lv e (hI.win rfl)).mono ?_
      rintro r w' ⟨h1, rfl⟩
      have hst : StepR tag' tag' base o (o + 2) W w' := stepR_new tag' base o (o + 2) hbW h1
      have hbk : BK w' tag' base o D B b := by
        obtain ⟨p, q', kv, dv, k0, k1, k2, k3⟩ := hI.bk
        exact ⟨p, q', kv, dv, k0, k1.later h1, k2.later h1, k3.later h1⟩
      by_cases hE : checkE e = 0
      · left
        exact ⟨by rw [hE]; rfl, tag', hI.step.trans hst, hbk, fun h => absurd h (by omega), fun _ => hE, fun h => absurd h (by omega)⟩
      · right
        refine ⟨checkE e, stepEnd_no hE, hE, tag', hI.step.trans hst, ?_, ?_⟩
        · unfold Bm.ready; rw [if_pos hE]; exact hbk
        · unfold Bm.readyE; rw [if_pos hE]
    | 1 =>
      have hc := hI.e1 (by omega)
      refine (bsettle_ok W tag' base o D B ho b hI.bk hbW lv q hb hq hout hrec hL).mono ?_
      rintro r w' ⟨tag2, h1, h2, rfl⟩
      by_cases hE : b.payE = 0
      · left
        exact ⟨by rw [hE]; rfl, tag2, hI.step.trans h1, h2, fun h => absurd h (by omega), fun _ => hc, fun _ => hE⟩
      · right
        refine ⟨b.payE, stepEnd_no hE, hE, tag2, hI.step.trans h1, ?_, ?_⟩
        · unfold Bm.ready; rw [if_neg (by simpa using hc)]; exact h2
        · unfold Bm.readyE; rw [if_neg (by simpa using hc)]
    | j + 2 => omega
  · rintro j hj W ⟨tag', hI⟩
    have := stepR_cell hI.step hEB htE 0
    exact ⟨by rw [this.1]; exact hcE, by rw [this.2]; exact hfE⟩
  · rintro x W ⟨tag', h1, _⟩
    have := stepR_cell h1 hEB htE 0
    exact ⟨by rw [this.1]; exact hcE, by rw [this.2]; exact hfE⟩

theorem win_one (w : World) (C : Array Value) (t : TypeId) (h5 : C.size = 5) : Win (w.alloc (.cells C t)) 5 (.slice (some ⟨w.heap.size, 0, none⟩) 1 1) 1 C.toList := by
  refine ⟨by simp [h5], .inr ⟨w.heap.size, 0, 1, C.toList, rfl, ⟨t, ?_⟩, Nat.le_refl _, by decide, by simp [h5], ?_⟩⟩
  · rw [World.alloc_heap_new]
  · rw [List.drop_zero]; exact List.take_of_length_le (by simp [h5])

set_option maxHeartbeats 2000000 in
theorem bready_ok (w : World) (tag : Nat → Nat) (base o D B : Nat) (ho : 1 ≤ o) (b : Bm) (h : BK w tag base o D B b) (hbase : base ≤ w.heap.size) (e : En) (q : Nat) (hb : b.Ok q)
    (hq : q ≤ 800000) (hout : b.s.outs.length ≤ 900000) (hrec : b.t.recs.length ≤ 800000) (hL : b.L.length ≤ 800000) :
    Calls Tryz.prog 45 #[.pointer (some ⟨B, 0, none⟩), enV e] w fun r w' => r = .returned (.int .i64 (b.readyE e)) ∧ ∃ tag', StepR tag tag' base o (o + 2) w w' ∧ BK w' tag' base o D B (b.ready e) := by
  have hmf : ∀ (fn : Fn) (first cap : Array Value) (w : World), (Instr.makeFunc fn first cap).run Tryz.prog w = .ok (.func fn first cap) w := fun _ _ _ _ => rfl
  obtain ⟨wa, hwa⟩ : ∃ wa, wa = w.alloc (.cells (enC e) 73) := ⟨_, rfl⟩
  obtain ⟨wb, hwb⟩ : ∃ wb, wb = wa.alloc (.cells (enC e) 73) := ⟨_, rfl⟩
  obtain ⟨w1, hw1⟩ : ∃ w1, w1 = wb.alloc (.cells #[.func (.func 83) #[.pointer (some ⟨B, 0, none⟩)] #[], .func (.func 84) #[.pointer (some ⟨B, 0, none⟩)] #[]] 150) := ⟨_, rfl⟩
  obtain ⟨W0, hW0⟩ : ∃ W0, W0 = w1.alloc (.cells #[.int .i64 0] 26) := ⟨_, rfl⟩
  have hsa : wa.heap.size = w.heap.size + 1 := by rw [hwa]; simp
  have hsb : wb.heap.size = w.heap.size + 2 := by rw [hwb]; simp [hsa]
  have hs1 : w1.heap.size = w.heap.size + 3 := by rw [hw1]; simp [hsb]
  have hs0 : W0.heap.size = w.heap.size + 4 := by rw [hW0]; simp [hs1]
  have hBa : Below w.heap.size w wa := by rw [hwa]; exact below_alloc _ _
  have hBb : Below w.heap.size w wb := by rw [hwb]; exact hBa.trans ((below_alloc wa _).mono (by omega))
  have hB1 : Below w.heap.size w w1 := by rw [hw1]; exact hBb.trans ((below_alloc wb _).mono (by omega))
  have hB0 : Below w.heap.size w W0 := by rw [hW0]; exact hB1.trans ((below_alloc w1 _).mono (by omega))
  have hcl : ∀ g, w.heap.size ≤ g → clip tag w.heap.size g / 16 < o := fun g hg => by simp [clip, Nat.not_lt.2 hg]; omega
  have hcE : W0.cell? ⟨w.heap.size + 3, 0, none⟩ = some (.int .i64 0) := by rw [hW0, ← hs1]; simp
  have hfE : W0.frozen? ⟨w.heap.size + 3, 0, none⟩ = false := by rw [hW0, ← hs1]; simp
  have hcS : ∀ j, j < 2 → W0.cell? ⟨w.heap.size + 2, j, none⟩ = some (.func (.func (fsR j)) #[.pointer (some ⟨B, 0, none⟩)] #[]) := by
    intro j hj
    have : w1.cell? ⟨w.heap.size + 2, j, none⟩ = some (.func (.func (fsR j)) #[.pointer (some ⟨B, 0, none⟩)] #[]) := by
      rw [hw1, ← hsb]
      match j, hj with
      | 0, _ => simp; rfl
      | 1, _ => simp; rfl
    rw [hW0]; exact cell_later (below_alloc w1 _) this
  have hwinb : Win wb 5 (.slice (some ⟨w.heap.size + 1, 0, none⟩) 1 1) 1 (eL5 e) := by
    have := win_one wa (enC e) 73 rfl
    rw [← hwb, hsa] at this
    exact this
  have hwin0 : Win W0 5 (.slice (some ⟨w.heap.size + 1, 0, none⟩) 1 1) 1 (eL5 e) := by
    have k1 : Win w1 5 (.slice (some ⟨w.heap.size + 1, 0, none⟩) 1 1) 1 (eL5 e) := by rw [hw1]; exact hwinb.later (below_alloc _ _)
    rw [hW0]; exact k1.later (below_alloc _ _)
  have hSt := steps_r (clip tag w.heap.size) base o D B ho b (.slice (some ⟨w.heap.size + 1, 0, none⟩) 1 1) e W0 (by omega) (w.heap.size + 2) (w.heap.size + 3) (by omega) (by omega) (hcl _ (by omega)) (hcl _ (by omega)) hcS hcE hfE q hb hq hout hrec hL
  have hI0 : IR (clip tag w.heap.size) base o D B b (.slice (some ⟨w.heap.size + 1, 0, none⟩) 1 1) e W0 0 W0 (clip tag w.heap.size) := ⟨StepR.refl _ _ _ _ _, h.new hB0, fun _ => hwin0, fun h => absurd h (by omega), fun h => absurd h (by omega)⟩
  rw [← hs1] at hSt
  have HT := btake_any 2 2 (Nat.le_refl _) (by decide) fsR (.pointer (some ⟨B, 0, none⟩)) (.slice (some ⟨w.heap.size + 1, 0, none⟩) 1 1) (w.heap.size + 2) w1 _ _ hSt ⟨_, by rw [← hW0]; exact hI0⟩
  have HFin : Hid (∀ x W, ((x = 0 ∧ ∃ tag', IR (clip tag w.heap.size) base o D B b (.slice (some ⟨w.heap.size + 1, 0, none⟩) 1 1) e W0 2 W tag') ∨ (x ≠ 0 ∧ ER (clip tag w.heap.size) base o D B b e W0 x W)) → x = b.readyE e ∧ ∃ tag', StepR tag tag' base o (o + 2) w (W.setCell ⟨w.heap.size + 3, 0, none⟩ (.int .i64 x)) ∧
      BK (W.setCell ⟨w.heap.size + 3, 0, none⟩ (.int .i64 x)) tag' base o D B (b.ready e)) := by
    rintro x W (⟨rfl, tag', hI⟩ | ⟨hx, tag', h1, h2, rfl⟩)
    · have hz := hI.e1 (by omega)
      have hz2 := hI.e2 (by omega)
      obtain ⟨k1, k2⟩ := bk_last ho hbase hB0 hI.step hI.bk (g := w.heap.size + 3) (by omega) (by omega) (.int .i64 0)
      refine ⟨?_, tag', k1, ?_⟩
      · unfold Bm.readyE; rw [if_neg (by simpa using hz), hz2]
      · unfold Bm.ready; rw [if_neg (by simpa using hz)]; exact k2
    · obtain ⟨k1, k2⟩ := bk_last ho hbase hB0 h1 h2 (g := w.heap.size + 3) (by omega) (by omega) (.int .i64 (b.readyE e))
      exact ⟨rfl, tag', k1, k2⟩
  have HM := bmade_ok wa (clip tag w.heap.size) base o D B b (h.new hBa)
  clear h hSt hI0 hcS hcE hfE hB0 hB1 hcl hb hwin0 hwinb hBa hBb
  generalize b.readyE e = X at *
  generalize b.ready e = B2 at *
  rw [hw1, hwb, hwa] at HT
  rw [hwa] at HM
  obtain ⟨k0, k1, k2, k3, k4⟩ := e
  go_enter Tryz.func45, Tryz.ntmps45
  go_wp2_with fail
  refine (by exact HM : Calls _ _ _ _ _).mono ?_
  rintro r w' ⟨rfl, hx⟩
  rw [hx]
  clear hx HM
  go_wp2_with fail
  refine (by exact HT : Calls _ _ _ _ _).mono ?_
  rintro r w' ⟨x, W, rfl, rfl, hx⟩
  have hfin := HFin.out x W hx
  rw [← hwa, ← hwb, ← hw1, hs1]
  clear hx HT HFin
  obtain ⟨rfl, hfin⟩ := hfin
  go_wp2
  go_ret
  exact ⟨rfl, hfin⟩

end Go.Proofs.YtafkkehcacdodaaGreat

namespace Go.Proofs.YtafkkehcacdodaaGreat
open Go.RowKit Go.Shelf

theorem put_ready (b : Bm) (e : En) : (b.readyE e ≠ 0 ∧ b.putE e = b.readyE e ∧ b.put e = b.ready e) ∨ (b.readyE e = 0 ∧ checkE e = 0 ∧ b.payE = 0 ∧ b.ready e = b.pay ∧ b.putE e = wrtE b.pay.s b.pay.t [e] ∧ b.put e = b.pay.wrote e) := by
  unfold Bm.readyE Bm.ready Bm.putE Bm.put
  by_cases hc : checkE e = 0
  · have hc' : ¬ checkE e ≠ 0 := by simpa using hc
    rw [if_neg hc', if_neg hc', if_neg hc', if_neg hc']
    by_cases hp : b.payE = 0
    · have hp' : ¬ b.payE ≠ 0 := by simpa using hp
      rw [if_neg hp', if_neg hp']
      exact .inr ⟨hp, hc, hp, rfl, rfl, rfl⟩
    · rw [if_pos hp, if_pos hp]
      exact .inl ⟨hp, rfl, rfl⟩
  · rw [if_pos hc, if_pos hc, if_pos hc, if_pos hc]
    exact .inl ⟨hc, rfl, rfl⟩

set_option maxHeartbeats 400000 in
theorem brel_ok (w : World) (now addr block : Int) : Calls Tryz.prog 46 #[.int .i64 now, .int .u32 addr, .int .i64 block] w fun r w' => r = .returned (enV ⟨3, now, 0, addr, block⟩) ∧ Below w.heap.size w w' := by
  go_enter Tryz.func46, Tryz.ntmps46
  go_wp2
  simp [bodyPost, results, Tryz.results46, go_sem]
  exact below_alloc _ _

theorem enters_rel : ∀ (args : Array Value) (w : World), (callFunc 46 args).run Tryz.prog w = .ok (.enter 46 args) w := enters_of Tryz.func46 (by kernel_rfl) rfl

theorem wrote_same {b : Bm} {e : En} (h : ¬ (wrtE b.s b.t [e] ≠ 0 ∧ e.kind = 2 ∧ wrtE b.s b.t [e] ≠ 6)) : b.wrote e = wrB b [e] := by
  unfold Bm.wrote wrB
  rw [if_neg h]

theorem wrote_owe {b : Bm} {e : En} (h : wrtE b.s b.t [e] ≠ 0 ∧ e.kind = 2 ∧ wrtE b.s b.t [e] ≠ 6) : b.wrote e = ⟨(wrB b [e]).s, (wrB b [e]).t, (wrB b [e]).L, (wrB b [e]).D ++ [relE e]⟩ := by
  unfold Bm.wrote wrB
  rw [if_pos h]

/-- A slice of one entry that was just made. -/
theorem far_one {w : World} {tag : Nat → Nat} {base o D B : Nat} {b : Bm} (h : BK w tag base o D B b) (ho : 1 ≤ o) (hbase : base ≤ w.heap.size) (e : En) :
    BK (w.alloc (.cells (enC e) 73)) (clip tag w.heap.size) base o D B b ∧ Far (w.alloc (.cells (enC e) 73)) (clip tag w.heap.size) o (o + 1) (.slice (some ⟨w.heap.size, 0, none⟩) 1 1) [e] ∧
    StepR tag (clip tag w.heap.size) base o (o + 2) w (w.alloc (.cells (enC e) 73)) ∧ base ≤ (w.alloc (.cells (enC e) 73)).heap.size := by
  have hB := below_alloc w (.cells (enC e) 73)
  refine ⟨h.new hB, ⟨?_, fun g hg => ?_⟩, stepR_clip tag base o (o + 2) hbase hB, Nat.le_trans hbase hB.size⟩
  · have := win_one w (enC e) 73 rfl
    rw [List.flatMap_cons, List.flatMap_nil, List.append_nil]
    exact this
  · simp [Value.ownBlock] at hg
    subst hg
    simp [clip]; omega

set_option maxHeartbeats 1000000 in
theorem brelease_ok (w : World) (tag : Nat → Nat) (base o D B : Nat) (ho : 1 ≤ o) (b : Bm) (h : BK w tag base o D B b) (hbase : base ≤ w.heap.size) (now addr block : Int) (hok : En.Ok ⟨3, now, 0, addr, block⟩) (q : Nat) (hb : b.Ok q)
    (hq : q ≤ 700000) (hout : b.s.outs.length ≤ 900000) (hrec : b.t.recs.length ≤ 700000) (hL : b.L.length ≤ 700000) :
    Calls Tryz.prog 17 #[.pointer (some ⟨B, 0, none⟩), .int .i64 now, .int .u32 addr, .int .i64 block] w fun r w' => r = .returned (.int .i64 (b.putE ⟨3, now, 0, addr, block⟩)) ∧ ∃ tag', StepR tag tag' base o (o + 2) w w' ∧ BK w' tag' base o D B (b.put ⟨3, now, 0, addr, block⟩) := by
  have HRel := fun w1 => brel_ok w1 now addr block
  obtain ⟨e, he⟩ : ∃ e : En, e = ⟨3, now, 0, addr, block⟩ := ⟨_, rfl⟩
  rw [← he] at HRel hok ⊢
  have HK : Hid (e.kind = 3) := by show _ = _; rw [he]
  have HH : Hid (BK w tag base o D B b) := h
  have HPR : Hid ((b.readyE e ≠ 0 ∧ b.putE e = b.readyE e ∧ b.put e = b.ready e) ∨ (b.readyE e = 0 ∧ checkE e = 0 ∧ b.payE = 0 ∧ b.ready e = b.pay ∧ b.putE e = wrtE b.pay.s b.pay.t [e] ∧ b.put e = b.pay.wrote e)) := put_ready b e
  have HReady : ∀ w1 tag1, Hid (StepR tag tag1 base o (o + 2) w w1 → BK w1 tag1 base o D B b → Calls Tryz.prog 45 #[.pointer (some ⟨B, 0, none⟩), enV e] w1 fun r w' => r = .returned (.int .i64 (b.readyE e)) ∧ ∃ tag', StepR tag1 tag' base o (o + 2) w1 w' ∧ BK w' tag' base o D B (b.ready e)) :=
    fun w1 tag1 hs hbk => bready_ok w1 tag1 base o D B ho b hbk (Nat.le_trans hbase hs.below.size) e q hb (by omega) hout (by omega) (by omega)
  clear h he
  obtain ⟨k0, k1, k2, k3, k4⟩ := e
  go_enter Tryz.func17, Tryz.ntmps17
  go_wp2_with fail
  refine (by exact HRel _ : Calls _ _ _ _ _).mono ?_
  rintro r wr ⟨rfl, hBr⟩
  obtain ⟨W, hW⟩ : ∃ W, W = wr.alloc (.cells #[.int .i64 k0, .int .i64 k1, .int .u32 k2, .int .u32 k3, .int .i64 k4] 73) := ⟨_, rfl⟩
  have hBW : Below w.heap.size w W := by rw [hW]; exact hBr.trans ((below_alloc _ _).mono hBr.size)
  have hbW := HH.out.new hBW
  have hR := (HReady W _).out (stepR_clip tag base o (o + 2) hbase hBW) hbW
  have c0 : W.cell? ⟨wr.heap.size, 0, none⟩ = some (.int .i64 k0) := by rw [hW]; simp
  have c1 : W.cell? ⟨wr.heap.size, 1, none⟩ = some (.int .i64 k1) := by rw [hW]; simp
  have c2 : W.cell? ⟨wr.heap.size, 2, none⟩ = some (.int .u32 k2) := by rw [hW]; simp
  have c3 : W.cell? ⟨wr.heap.size, 3, none⟩ = some (.int .u32 k3) := by rw [hW]; simp
  have c4 : W.cell? ⟨wr.heap.size, 4, none⟩ = some (.int .i64 k4) := by rw [hW]; simp
  have hWs : W.heap.size = wr.heap.size + 1 := by rw [hW]; simp
  have hwr := hBr.size
  have htw : clip tag w.heap.size wr.heap.size / 16 < o := by simp [clip, Nat.not_lt.2 hwr]; omega
  have HS0 : Hid (StepR tag (clip tag w.heap.size) base o (o + 2) w W) := stepR_clip tag base o (o + 2) hbase hBW
  have HC : Hid (∀ w2 tag2, StepR (clip tag w.heap.size) tag2 base o (o + 2) W w2 → w2.cell? ⟨wr.heap.size, 0, none⟩ = some (.int .i64 k0) ∧ w2.cell? ⟨wr.heap.size, 1, none⟩ = some (.int .i64 k1) ∧ w2.cell? ⟨wr.heap.size, 2, none⟩ = some (.int .u32 k2) ∧ w2.cell? ⟨wr.heap.size, 3, none⟩ = some (.int .u32 k3) ∧ w2.cell? ⟨wr.heap.size, 4, none⟩ = some (.int .i64 k4)) := fun w2 tag2 h2 =>
    ⟨((stepR_cell h2 (by omega) htw 0).1).trans c0, ((stepR_cell h2 (by omega) htw 1).1).trans c1, ((stepR_cell h2 (by omega) htw 2).1).trans c2, ((stepR_cell h2 (by omega) htw 3).1).trans c3, ((stepR_cell h2 (by omega) htw 4).1).trans c4⟩
  rw [hW] at hR
  go_wp2_with fail
  refine (by exact hR : Calls _ _ _ _ _).mono ?_
  rintro r w2 ⟨rfl, tag2, hS2, hB2⟩
  rw [← hW] at hS2
  obtain ⟨c0, c1, c2, c3, c4⟩ := HC.out w2 tag2 hS2
  have HS2 : Hid (StepR tag tag2 base o (o + 2) w w2) := HS0.out.trans hS2
  have hbw2 : base ≤ w2.heap.size := Nat.le_trans hbase HS2.out.below.size
  clear hR HC HReady hBW hbW hS2 hWs htw
  rcases HPR.out with ⟨p1, p2, p3⟩ | ⟨p1, p2, p3, p4, p5, p6⟩
  · have HB2 : Hid (BK w2 tag2 base o D B (b.put ⟨k0, k1, k2, k3, k4⟩)) := by rw [p3]; exact hB2
    have HP2 : Hid (b.putE ⟨k0, k1, k2, k3, k4⟩ = b.readyE ⟨k0, k1, k2, k3, k4⟩) := p2
    clear hB2 p2 p3
    generalize b.readyE ⟨k0, k1, k2, k3, k4⟩ = X at *
    go_wp2
    go_ret
    exact ⟨by rw [HP2.out]; rfl, tag2, HS2.out, HB2.out⟩
  · rw [p1]
    have HP5 : Hid (b.putE ⟨k0, k1, k2, k3, k4⟩ = wrtE b.pay.s b.pay.t [⟨k0, k1, k2, k3, k4⟩]) := p5
    have HP6 : Hid (b.put ⟨k0, k1, k2, k3, k4⟩ = b.pay.wrote ⟨k0, k1, k2, k3, k4⟩) := p6
    rw [p4] at hB2
    obtain ⟨f1, f2, f3, f4⟩ := far_one hB2 ho hbw2 ⟨k0, k1, k2, k3, k4⟩
    obtain ⟨hpo, hgr, hpd⟩ := hb.pay
    have hgn := hgr.sn
    have hgo := hgr.outs
    have hgr1 := hgr.recs
    have hgl := hgr.L
    have HWr := bwrite_ok _ _ base o D B ho b.pay f1 f4 (.slice (some ⟨w2.heap.size, 0, none⟩) 1 1) [⟨k0, k1, k2, k3, k4⟩] f2 (.one (checkE_zero p2) hok) (q + 2) hpo.nb (by simp; omega) (by omega) (by simp; omega) (by simp; omega)
    have HF : Hid (b.pay.wrote ⟨k0, k1, k2, k3, k4⟩ = wrB b.pay [⟨k0, k1, k2, k3, k4⟩]) := wrote_same (fun h => by have h2 : k0 = 2 := h.2.1; have h3 : k0 = 3 := HK.out; omega)
    have HSt : Hid (StepR tag2 (clip tag2 w2.heap.size) base o (o + 2) w2 (w2.alloc (.cells (enC ⟨k0, k1, k2, k3, k4⟩) 73))) := f3
    clear f1 f2 f3 f4 hB2 hb hpo hgr p1 p2 p3 p4 p5 p6
    go_wp2_with fail
    refine (by exact HWr : Calls _ _ _ _ _).mono ?_
    rintro r w3 ⟨rfl, tag3, hS3, hB3⟩
    have HB3 : Hid (BK w3 tag3 base o D B (wrB b.pay [⟨k0, k1, k2, k3, k4⟩])) := hB3
    have HS3 : Hid (StepR tag tag3 base o (o + 2) w w3) := (HS2.out.trans HSt.out).trans hS3
    clear hB3 hS3 HWr
    go_wp2
    go_ret
    exact ⟨by rw [HP5.out]; rfl, tag3, HS3.out, by rw [HP6.out, HF.out]; exact HB3.out⟩

/-- A debt more. -/
theorem owe_row (w3 : World) (tag3 : Nat → Nat) (base o D B : Nat) (b : Bm) (h : BK w3 tag3 base o D B b) (hbase : base ≤ w3.heap.size) (hD : b.D.length ≤ 1000) (r : En) :
    ∃ a c, w3.cell? ⟨B, 2, none⟩ = some (.slice a b.D.length c) ∧ ∀ w4, Below w3.heap.size w3 w4 → ∃ a5 c5 w5, (Builtin.append_ #[63, 63] 63 #[.slice a b.D.length c, .slice (some ⟨w4.heap.size, 0, none⟩) 1 1]).run Tryz.prog (w4.alloc (.cells (enC r) 73)) = .ok (.slice a5 (b.D.length + 1) c5) w5 ∧
      w5.cell? ⟨B, 2, none⟩ = some (.slice a b.D.length c) ∧ w5.frozen? ⟨B, 2, none⟩ = false ∧ ∃ tag', StepR tag3 tag' base o (o + 2) w3 (w5.setCell ⟨B, 2, none⟩ (.slice a5 (b.D.length + 1) c5)) ∧ BK (w5.setCell ⟨B, 2, none⟩ (.slice a5 (b.D.length + 1) c5)) tag' base o D B ⟨b.s, b.t, b.L, b.D ++ [r]⟩ := by
  obtain ⟨p, q', kv, dv, hDD, hP, hPo, hPb⟩ := h
  obtain ⟨a, c, rfl, hc1, hc2⟩ := win_form hPb.wD
  refine ⟨a, c, hPb.s2, fun w4 hB4 => ?_⟩
  obtain ⟨W4, hW4⟩ : ∃ W4, W4 = w4.alloc (.cells (enC r) 73) := ⟨_, rfl⟩
  have hBW : Below w3.heap.size w3 W4 := by rw [hW4]; exact hB4.trans ((below_alloc _ _).mono hB4.size)
  have hP4 : PD W4 (clip tag3 w3.heap.size) base o b.s p := hP.clip hBW
  have hPo4 : PO W4 (clip tag3 w3.heap.size) base (o + 1) D b.t q' := hPo.clip hBW
  have hPb4 : PB W4 (clip tag3 w3.heap.size) base (o + 2) q'.S b.L b.D B kv (.slice a b.D.length c) := hPb.keep (fun k hk _ => hBW.block k hk) (fun k hk => clip_lt _ _ _ hk)
  have hS4 : StepR tag3 (clip tag3 w3.heap.size) base o (o + 2) w3 W4 := stepR_clip tag3 base o (o + 2) hbase hBW
  have hwin : Win W4 5 (.slice (some ⟨w4.heap.size, 0, none⟩) 1 1) [r].length ([r].flatMap eL5) := by
    rw [List.flatMap_cons, List.flatMap_nil, List.append_nil, hW4]
    exact win_one w4 (enC r) 73 rfl
  obtain ⟨v', w5, tag5, hr, hwin5, hst, htag, hkp⟩ := append_own9 hPb4.wD hPb4.tD (o := o + 2) (by omega) (Nat.le_trans hbase hBW.size) _ [r] hwin (by simp; omega)
  obtain ⟨a5, c5, rfl, _⟩ := win_form hwin5
  have hl5 : (b.D ++ [r]).length = b.D.length + 1 := by simp
  rw [hl5] at hr htag
  rw [hW4] at hr
  have hBl := hPb4.bB.lt
  have hBd : (Value.slice a b.D.length c).ownBlock ≠ some B := fun e => by have := (hPb4.tD B e).1; have := hPb4.tB.1; omega
  have hb5 : Blk w5 B [.pointer (some ⟨q'.S, 0, none⟩), kv, .slice a b.D.length c] := hPb4.bB.same (hkp B hBl hBd)
  have htB : tag5 B = 16 * (o + 2) + 1 := by rw [hst.tags B hBl]; exact hPb4.tB.1
  have hvB : (Value.slice a5 (b.D.length + 1) c5).ownBlock ≠ some B := fun e => by have := (htag B e).1; omega
  have hst2 : Step (clip tag3 w3.heap.size) tag5 base (o + 2) W4 (w5.setCell ⟨B, 2, none⟩ (.slice a5 (b.D.length + 1) c5)) := hst.set hPb4.tB.2 (by omega) 2 _
  have hsR : StepR (clip tag3 w3.heap.size) tag5 base (o + 2) (o + 2) W4 (w5.setCell ⟨B, 2, none⟩ (.slice a5 (b.D.length + 1) c5)) := hst2.range (Nat.le_refl _) (Nat.le_refl _)
  refine ⟨a5, c5, w5, hr, hb5.cell 2, hb5.frozen 2, tag5, hS4.trans (hsR.wide (by omega) (Nat.le_refl _)), ⟨p, q', kv, _, hDD, hP4.otherR hsR (by omega), hPo4.otherR hsR (by omega), ⟨?_, ?_, ?_, ⟨htB, hPb4.tB.2⟩, ?_, htag⟩⟩⟩
  · simpa using hb5.set 2 (.slice a5 (b.D.length + 1) c5)
  · refine hPb4.wK.same (fun g hg => ?_)
    have ht := (hPb4.tK g hg).1
    rw [heap_setCell_other _ _ g _ (fun e => by have : g = B := e; rw [this] at ht; have := hPb4.tB.1; omega)]
    exact hkp g (hPb4.wK.lt g hg) (fun e => by have := (hPb4.tD g e).1; omega)
  · rw [hl5] at hwin5 ⊢
    exact hwin5.same (fun g hg => heap_setCell_other _ _ g _ (fun e => hvB (by rw [hg, show g = B from e])))
  · exact fun g hg => ⟨by rw [hst.tags g (hPb4.wK.lt g hg)]; exact (hPb4.tK g hg).1, (hPb4.tK g hg).2⟩

/-- append, as one step of a region that draws its order. -/
theorem step_app_run {P : Program} {ops : Array Oper} {o : Oper} {a : Act} {w : World} {K : Act → World → Prop} {Q : Exit → Act → World → Prop} {E : Prop} (hgd : o.guard = none) (s x : Operand) (t : TypeId)
    (ho : o.op = .call { callee := .builtin .append, args := #[s, x], argTypes := #[t, t] }) (v u : Value) (hs : a.eval s = v) (hx : a.eval x = u) {v' : Value} {w' : World}
    (hr : (Builtin.append_ #[t, t] o.type #[v, u]).run P w = .ok v' w') (h : K (a.put o.dst v') w') : if Region.wanted o (yielded ops a.tmps) = true then Oper.wp P o a w K Q else E := by
  have hw : Region.wanted o (yielded ops a.tmps) = true := by simp [Region.wanted, hgd]
  rw [if_pos hw]
  unfold Oper.wp execOp
  simp only [ho, resolve, invoke, builtin, Sem.run_bind, Sem.run_pure, Result.andThen_ok, List.map_toArray, List.map_cons, List.map_nil, hs, hx, hr]
  exact h

set_option maxHeartbeats 2000000 in
theorem bgrant_ok (w : World) (tag : Nat → Nat) (base o D B : Nat) (ho : 1 ≤ o) (b : Bm) (h : BK w tag base o D B b) (hbase : base ≤ w.heap.size) (now sub addr block : Int) (hok : En.Ok ⟨2, now, sub, addr, block⟩) (q : Nat) (hb : b.Ok q)
    (hq : q ≤ 700000) (hout : b.s.outs.length ≤ 900000) (hrec : b.t.recs.length ≤ 700000) (hL : b.L.length ≤ 700000) :
    Calls Tryz.prog 15 #[.pointer (some ⟨B, 0, none⟩), .int .i64 now, .int .u32 sub, .int .u32 addr, .int .i64 block] w fun r w' => r = .returned (.int .i64 (b.putE ⟨2, now, sub, addr, block⟩)) ∧ ∃ tag', StepR tag tag' base o (o + 2) w w' ∧ BK w' tag' base o D B (b.put ⟨2, now, sub, addr, block⟩) := by
  have HRel := fun w1 => brel_ok w1 now addr block
  have HH : Hid (BK w tag base o D B b) := h
  have HPR : Hid (_ ∨ _) := put_ready b ⟨2, now, sub, addr, block⟩
  have HReady : ∀ w1 tag1, Hid (StepR tag tag1 base o (o + 2) w w1 → BK w1 tag1 base o D B b → Calls Tryz.prog 45 #[.pointer (some ⟨B, 0, none⟩), enV ⟨2, now, sub, addr, block⟩] w1 fun r w' => r = .returned (.int .i64 (b.readyE ⟨2, now, sub, addr, block⟩)) ∧ ∃ tag', StepR tag1 tag' base o (o + 2) w1 w' ∧ BK w' tag' base o D B (b.ready ⟨2, now, sub, addr, block⟩)) :=
    fun w1 tag1 hs hbk => bready_ok w1 tag1 base o D B ho b hbk (Nat.le_trans hbase hs.below.size) ⟨2, now, sub, addr, block⟩ q hb (by omega) hout (by omega) (by omega)
  clear h
  obtain ⟨W, hW⟩ : ∃ W, W = w.alloc (.cells #[.int .i64 2, .int .i64 now, .int .u32 sub, .int .u32 addr, .int .i64 block] 73) := ⟨_, rfl⟩
  have hBW : Below w.heap.size w W := by rw [hW]; exact below_alloc _ _
  have hbW := HH.out.new hBW
  have hR := (HReady W _).out (stepR_clip tag base o (o + 2) hbase hBW) hbW
  have c0 : W.cell? ⟨w.heap.size, 0, none⟩ = some (.int .i64 2) := by rw [hW]; simp
  have c1 : W.cell? ⟨w.heap.size, 1, none⟩ = some (.int .i64 now) := by rw [hW]; simp
  have c2 : W.cell? ⟨w.heap.size, 2, none⟩ = some (.int .u32 sub) := by rw [hW]; simp
  have c3 : W.cell? ⟨w.heap.size, 3, none⟩ = some (.int .u32 addr) := by rw [hW]; simp
  have c4 : W.cell? ⟨w.heap.size, 4, none⟩ = some (.int .i64 block) := by rw [hW]; simp
  have hWs : W.heap.size = w.heap.size + 1 := by rw [hW]; simp
  have htw : clip tag w.heap.size w.heap.size / 16 < o := by simp [clip]; omega
  have HS0 : Hid (StepR tag (clip tag w.heap.size) base o (o + 2) w W) := stepR_clip tag base o (o + 2) hbase hBW
  have HC : Hid (∀ w2 tag2, StepR (clip tag w.heap.size) tag2 base o (o + 2) W w2 → w2.cell? ⟨w.heap.size, 0, none⟩ = some (.int .i64 2) ∧ w2.cell? ⟨w.heap.size, 1, none⟩ = some (.int .i64 now) ∧ w2.cell? ⟨w.heap.size, 2, none⟩ = some (.int .u32 sub) ∧ w2.cell? ⟨w.heap.size, 3, none⟩ = some (.int .u32 addr) ∧ w2.cell? ⟨w.heap.size, 4, none⟩ = some (.int .i64 block)) := fun w2 tag2 h2 =>
    ⟨((stepR_cell h2 (by omega) htw 0).1).trans c0, ((stepR_cell h2 (by omega) htw 1).1).trans c1, ((stepR_cell h2 (by omega) htw 2).1).trans c2, ((stepR_cell h2 (by omega) htw 3).1).trans c3, ((stepR_cell h2 (by omega) htw 4).1).trans c4⟩
  clear c0 c1 c2 c3 c4
  rw [hW] at hR
  go_enter Tryz.func15, Tryz.ntmps15
  go_wp2_with fail
  refine (by exact hR : Calls _ _ _ _ _).mono ?_
  rintro r w2 ⟨rfl, tag2, hS2, hB2⟩
  rw [← hW] at hS2
  obtain ⟨c0, c1, c2, c3, c4⟩ := HC.out w2 tag2 hS2
  have HS2 : Hid (StepR tag tag2 base o (o + 2) w w2) := HS0.out.trans hS2
  have hbw2 : base ≤ w2.heap.size := Nat.le_trans hbase HS2.out.below.size
  clear hR HC HReady hBW hbW hS2 hWs htw HS0
  rcases HPR.out with ⟨p1, p2, p3⟩ | ⟨p1, p2, p3, p4, p5, p6⟩
  · have HB2 : Hid (BK w2 tag2 base o D B (b.put ⟨2, now, sub, addr, block⟩)) := by rw [p3]; exact hB2
    have HP2 : Hid (b.putE ⟨2, now, sub, addr, block⟩ = b.readyE ⟨2, now, sub, addr, block⟩) := p2
    clear hB2 p2 p3
    generalize b.readyE ⟨2, now, sub, addr, block⟩ = X at *
    go_wp2
    go_ret
    exact ⟨by rw [HP2.out]; rfl, tag2, HS2.out, HB2.out⟩
  · rw [p1]
    have HP5 : Hid (b.putE ⟨2, now, sub, addr, block⟩ = wrtE b.pay.s b.pay.t [⟨2, now, sub, addr, block⟩]) := p5
    have HP6 : Hid (b.put ⟨2, now, sub, addr, block⟩ = b.pay.wrote ⟨2, now, sub, addr, block⟩) := p6
    rw [p4] at hB2
    obtain ⟨f1, f2, f3, f4⟩ := far_one hB2 ho hbw2 ⟨2, now, sub, addr, block⟩
    obtain ⟨hpo, hgr, hpd⟩ := hb.pay
    have hgn := hgr.sn
    have hgo := hgr.outs
    have hgr1 := hgr.recs
    have hgl := hgr.L
    have hpD : b.pay.D = [] := hpd p3
    have HWr := bwrite_ok _ _ base o D B ho b.pay f1 f4 (.slice (some ⟨w2.heap.size, 0, none⟩) 1 1) [⟨2, now, sub, addr, block⟩] f2 (.one (checkE_zero p2) hok) (q + 2) hpo.nb (by simp; omega) (by omega) (by simp; omega) (by simp; omega)
    have HF1 : Hid (¬ (wrtE b.pay.s b.pay.t [⟨2, now, sub, addr, block⟩] ≠ 0 ∧ wrtE b.pay.s b.pay.t [⟨2, now, sub, addr, block⟩] ≠ 6) → b.pay.wrote ⟨2, now, sub, addr, block⟩ = wrB b.pay [⟨2, now, sub, addr, block⟩]) := fun hn => wrote_same (fun h => hn ⟨h.1, h.2.2⟩)
    have HF2 : Hid (wrtE b.pay.s b.pay.t [⟨2, now, sub, addr, block⟩] ≠ 0 ∧ wrtE b.pay.s b.pay.t [⟨2, now, sub, addr, block⟩] ≠ 6 → b.pay.wrote ⟨2, now, sub, addr, block⟩ = ⟨(wrB b.pay [⟨2, now, sub, addr, block⟩]).s, (wrB b.pay [⟨2, now, sub, addr, block⟩]).t, (wrB b.pay [⟨2, now, sub, addr, block⟩]).L, (wrB b.pay [⟨2, now, sub, addr, block⟩]).D ++ [⟨3, now, 0, addr, block⟩]⟩) := fun hn => wrote_owe ⟨hn.1, rfl, hn.2⟩
    have HSt : Hid (StepR tag2 (clip tag2 w2.heap.size) base o (o + 2) w2 (w2.alloc (.cells (enC ⟨2, now, sub, addr, block⟩) 73))) := f3
    have hwD : (wrB b.pay [⟨2, now, sub, addr, block⟩]).D.length ≤ 1000 := by show b.pay.D.length ≤ _; rw [hpD]; simp
    clear f1 f2 f3 f4 hB2 hb hpo hgr p1 p2 p3 p4 p5 p6
    generalize wrtE b.pay.s b.pay.t [⟨2, now, sub, addr, block⟩] = X at *
    generalize wrB b.pay [⟨2, now, sub, addr, block⟩] = b2 at *
    go_wp2_with fail
    refine (by exact HWr : Calls _ _ _ _ _).mono ?_
    rintro r w3 ⟨rfl, tag3, hS3, hB3⟩
    have HS3 : Hid (StepR tag tag3 base o (o + 2) w w3) := (HS2.out.trans HSt.out).trans hS3
    have HB3 : Hid (BK w3 tag3 base o D B b2) := hB3
    by_cases hX : X ≠ 0 ∧ X ≠ 6
    · obtain ⟨x1, x2⟩ := hX
      have b1 : (X != 0) = true := by simpa using x1
      have b6 : (X != 6) = true := by simpa using x2
      have hF2 := HF2.out ⟨x1, x2⟩
      have HFF : Hid (b.put ⟨2, now, sub, addr, block⟩ = ⟨b2.s, b2.t, b2.L, b2.D ++ [⟨3, now, 0, addr, block⟩]⟩) := HP6.out.trans hF2
      obtain ⟨da, dc, g2, hAp⟩ := owe_row w3 tag3 base o D B b2 hB3 (Nat.le_trans hbase HS3.out.below.size) hwD ⟨3, now, 0, addr, block⟩
      have hbd : ∀ w4, Below w3.drew.heap.size w3.drew w4 → Below w3.heap.size w3 w4 := fun w4 h4 => (Below.refl _ w3).drew.trans h4
      have HAp : Hid (∀ w4, Below w3.drew.heap.size w3.drew w4 → _) := fun w4 h4 => hAp w4 (hbd w4 h4)
      have KC : Hid (∀ wx, Below w3.drew.heap.size w3.drew wx → wx.cell? ⟨B, 2, none⟩ = some (.slice da b2.D.length dc)) := fun wx hx => cell_later (hbd wx hx) g2
      have hBlt : B < w3.drew.heap.size := by obtain ⟨_, _, _, _, _, _, _, hPb⟩ := HB3.out; exact hPb.bB.lt
      clear hbd
      clear hB3 hS3 HWr hF2 hAp c0 c1 c2 c3 c4 HSt x1 x2
      go_wp2_with fail
      clear HP6 HF1 HF2 HPR HH HS2
      go_region_law (first
        | (refine step_calls rfl 46 #[.tmp 40, .tmp 41, .tmp 42] #[2, 38, 3] rfl #[.int .i64 now, .int .u32 addr, .int .i64 block] (by go_simp) enters_rel (by with_reducible exact HRel _) ?_; rintro e w4 ⟨rfl, hB4⟩; refine ⟨_, rfl, ?_⟩; have g4 := KC.out w4 hB4; have hsz4 : B < w4.heap.size := Nat.lt_of_lt_of_le hBlt hB4.size; obtain ⟨a5, c5, w5, hr5, h5a, h5b, tag5, hS5, hB5⟩ := HAp.out w4 hB4)
        | (refine step_app_run rfl (.tmp 39) (.tmp 44) 63 rfl _ _ (by rfl) (by rfl) (by exact hr5) ?_))
      all_goals
        go_wp2
        go_ret
        exact ⟨by rw [HP5.out]; rfl, tag5, HS3.out.trans hS5, by rw [HFF.out]; exact hB5⟩
    · have HFF : Hid (b.put ⟨2, now, sub, addr, block⟩ = b2) := HP6.out.trans (HF1.out hX)
      have hX' : X = 0 ∨ X = 6 := by omega
      clear hB3 hS3 HWr hX
      rcases hX' with rfl | rfl
      all_goals
        go_wp2
        go_ret
        exact ⟨by rw [HP5.out]; rfl, tag3, HS3.out, by rw [HFF.out]; exact HB3.out⟩

end Go.Proofs.YtafkkehcacdodaaGreat

namespace Go.Proofs.YtafkkehcacdodaaGreat
open Go.RowKit Go.Shelf

/-- Entries in a row of the call's own. -/
abbrev ERow (w : World) (base : Nat) (v : Value) (l : List En) : Prop := w.ownsRow base 73 5 v l.length (l.flatMap eL5)

theorem append_e5 (W : World) (base : Nat) (v : Value) (l : List En) (e : En) (hv : ERow W base v l) (hbase : base ≤ W.heap.size) (hlen : l.length ≤ 1000000) :
    ∃ v' w', (Builtin.append_ #[63, 63] 63 #[v, .slice (some ⟨W.heap.size, 0, none⟩) 1 1]).run Tryz.prog (W.alloc (.cells #[.int .i64 e.kind, .int .i64 e.time, .int .u32 e.sub, .int .u32 e.addr, .int .i64 e.block] 73)) = .ok v' w' ∧
      ERow w' base v' (l ++ [e]) ∧ Below base W w' := by
  obtain ⟨i0, hi, hz0, hz1, hz2⟩ := info_parts infoE5
  have hown2 := World.ownsRow.alloc hv (.cells (enC e) 73)
  obtain ⟨v', w', hr, ho, hg, -⟩ := run_append_own (P := Tryz.prog) (W.alloc (.cells (enC e) 73)) base 63 63 73 i0 _ 5 32 Tryz.underlying63 hi hz0 hz1 hz2 rfl (by decide) v l.length (l.flatMap eL5) hown2
    ⟨W.heap.size, 0, none⟩ 1 1 (eL5 e) rfl (by
      intro j u hj
      rw [add_at, Nat.zero_add, (blk_new W _ _).cell]
      exact hj) (by
      intro u hu
      exact eL5_one [e] u (by rw [List.flatMap_cons, List.flatMap_nil, List.append_nil]; exact hu)) (by unfold maxLen; omega) (by omega) (by simp; omega)
  refine ⟨v', w', hr, ?_, ((Below.refl _ _).alloc hbase _).grown hg (by simp; omega) (fun k hk => (hv.lt k hk).1)⟩
  show w'.ownsRow base _ 5 v' (l ++ [e]).length ((l ++ [e]).flatMap eL5)
  rw [List.flatMap_append, List.length_append]
  have e1 : List.flatMap eL5 [e] = eL5 e := by rw [List.flatMap_cons, List.flatMap_nil, List.append_nil]
  rw [e1]
  exact ho

theorem run_equalIn_e5 (d : Nat) (w : World) (a : Option Addr) (l c : Nat) : (Op.equalIn (d + 1) 63 (.slice a l c) (.slice none 0 0)).run Tryz.prog w = .ok a.isNone w := by
  cases a <;> simp [Op.equalIn, run_underlying Tryz.underlying63]

theorem run_equal_e5 (w : World) (a : Option Addr) (l c : Nat) : (Op.equal 63 (.slice a l c) (.slice none 0 0)).run Tryz.prog w = .ok a.isNone w := run_equalIn_e5 9999 w a l c

theorem run_eql_e5 (w : World) (a : Option Addr) (l c : Nat) : (binOp .eql 63 (.slice a l c) (.slice none 0 0)).run Tryz.prog w = .ok (.bool a.isNone) w := by
  simp only [binOp]
  simp [run_equal_e5 w a l c]

set_option maxHeartbeats 1000000 in
theorem eclone_ok (w : World) (v : Value) (l : List En) (h : Win w 5 v l.length (l.flatMap eL5)) (hbig : l.length ≤ 1000000) :
    Calls Tryz.prog 66 #[v] w fun e w' => ∃ v', e = .returned v' ∧ Win w' 5 v' l.length (l.flatMap eL5) ∧ Below w.heap.size w w' ∧ ∀ g, v'.ownBlock = some g → w.heap.size ≤ g := by
  obtain ⟨i0, hi, hz0, hz1, hz2⟩ := info_parts infoE5
  have heq := run_eql_e5
  rcases h.2 with ⟨rfl, h0⟩ | ⟨g, oo, c, cs, rfl, hb, h2, h3, h4, h5⟩
  · have hl : l = [] := List.eq_nil_of_length_eq_zero h0
    subst hl
    have HW : Hid (Win w 5 (.slice none 0 0) ([] : List En).length (([] : List En).flatMap eL5)) := win_nil w 5
    clear h
    go_enter Tryz.func66, Tryz.ntmps66
    go_wp2
    go_ret
    exact ⟨_, rfl, HW.out, Below.refl _ _, fun g hg => by simp [Value.ownBlock] at hg⟩
  have hB : Below w.heap.size w (w.alloc (.cells #[] 73)) := below_alloc _ _
  have hown : (w.alloc (.cells #[] 73)).ownsRow w.heap.size 73 5 (.slice (some ⟨w.heap.size, 0, none⟩) 0 0) 0 [] := World.ownsRow_made w #[] 0 (Nat.le_refl _) (by decide) rfl
  have hsrc : ∀ j u, (l.flatMap eL5)[j]? = some u → (w.alloc (.cells #[] 73)).cell? ((⟨g, oo, none⟩ : Addr).add j) = some u := by
    intro j u hu
    have hr := hb.range oo (l.length * 5)
    rw [h5] at hr
    rw [add_at]
    exact cell_later hB (hr j u hu)
  obtain ⟨v', w1, hrun, ho, hg, _⟩ := run_append_own (P := Tryz.prog) (w.alloc (.cells #[] 73)) w.heap.size 63 63 73 i0 _ 5 32 Tryz.underlying63 hi hz0 hz1 hz2 rfl (by decide) (.slice (some ⟨w.heap.size, 0, none⟩) 0 0) 0 [] hown ⟨g, oo, none⟩ l.length c (l.flatMap eL5) h.1 hsrc (eL5_one l) (by unfold maxLen; omega) (by omega) (by simp)
  rw [Nat.zero_add, List.nil_append] at ho
  have HO : Hid (Win w1 5 v' l.length (l.flatMap eL5) ∧ ∀ g, v'.ownBlock = some g → w.heap.size ≤ g) := ⟨win_of_owns ho, fun g hg => (ho.lt g hg).1⟩
  have HB : Hid (Below w.heap.size w w1) := hB.grown hg (by simp) (fun k hk => by simp [Value.ownBlock] at hk; omega)
  unfold maxLen at h3
  clear ho hg hB hown hsrc h hi hz0 hz1 hz2 hb h4 h5
  go_enter Tryz.func66, Tryz.ntmps66
  go_wp2_with (at_builtin; refine wpl_append_run rfl _ _ 63 rfl _ _ rfl rfl hrun ?_)
  go_ret
  exact ⟨_, rfl, HO.out.1, HB.out, HO.out.2⟩

set_option maxHeartbeats 1000000 in
theorem bdebts_ok (w : World) (tag : Nat → Nat) (base o D B : Nat) (b : Bm) (h : BK w tag base o D B b) (hl : b.D.length ≤ 1000000) :
    Calls Tryz.prog 55 #[.pointer (some ⟨B, 0, none⟩)] w fun e w' => ∃ v', e = .returned v' ∧ Win w' 5 v' b.D.length (b.D.flatMap eL5) ∧ Below w.heap.size w w' ∧ ∀ g, v'.ownBlock = some g → w.heap.size ≤ g := by
  have HM := bmade_ok w tag base o D B b h
  obtain ⟨p, q', kv, dv, _, _, _, hPb⟩ := h
  have g2 := hPb.s2
  have HC := eclone_ok w dv b.D hPb.wD hl
  obtain ⟨a, c, rfl, _⟩ := win_form hPb.wD
  clear hPb
  go_enter Tryz.func55, Tryz.ntmps55
  go_wp2_with fail
  refine HM.mono ?_
  rintro e w' ⟨rfl, hx⟩
  rw [hx]
  clear hx
  go_wp2_with fail
  refine HC.mono ?_
  rintro e w' ⟨v', rfl, h1, h2⟩
  go_wp2
  go_ret
  exact ⟨_, rfl, h1, h2⟩

set_option maxHeartbeats 1000000 in
theorem bentries_ok (w : World) (tag : Nat → Nat) (base o D B : Nat) (b : Bm) (h : BK w tag base o D B b) (hl : b.L.length ≤ 1000000) :
    Calls Tryz.prog 27 #[.pointer (some ⟨B, 0, none⟩)] w fun e w' => ∃ v', e = .returned v' ∧ Win w' 5 v' b.L.length (b.L.flatMap eL5) ∧ Below w.heap.size w w' ∧ ∀ g, v'.ownBlock = some g → w.heap.size ≤ g := by
  have HM := bmade_ok w tag base o D B b h
  obtain ⟨p, q', kv, dv, _, _, _, hPb⟩ := h
  have g1 := hPb.s1
  have HC := eclone_ok w kv b.L hPb.wK hl
  obtain ⟨a, c, rfl, _⟩ := win_form hPb.wK
  clear hPb
  go_enter Tryz.func27, Tryz.ntmps27
  go_wp2_with fail
  refine HM.mono ?_
  rintro e w' ⟨rfl, hx⟩
  rw [hx]
  clear hx
  go_wp2_with fail
  refine HC.mono ?_
  rintro e w' ⟨v', rfl, h1, h2⟩
  go_wp2
  go_ret
  exact ⟨_, rfl, h1, h2⟩

set_option maxHeartbeats 1000000 in
theorem bspans_ok (w : World) (tag : Nat → Nat) (base o D B : Nat) (b : Bm) (h : BK w tag base o D B b) (hf : Fine b.L) (hl : b.L.length ≤ 1000) :
    Calls Tryz.prog 24 #[.pointer (some ⟨B, 0, none⟩)] w fun e w' => ∃ v', e = .returned v' ∧ SpRow w' (w.heap.size + 1) v' (spans b.L) ∧ Below w.heap.size w w' := by
  have HM := bmade_ok w tag base o D B b h
  obtain ⟨p, q', kv, dv, _, _, _, hPb⟩ := h
  have g1 := hPb.s1
  obtain ⟨EB, EO, hE, _⟩ := win_ens hPb.wK
  have HC := spans_ok kv EB EO b.L w hE hf.ok hl
  obtain ⟨a, c, rfl, _⟩ := win_form hPb.wK
  clear hPb hE
  go_enter Tryz.func24, Tryz.ntmps24
  go_wp2_with fail
  refine HM.mono ?_
  rintro e w' ⟨rfl, hx⟩
  rw [hx]
  clear hx
  go_wp2_with fail
  refine HC.mono ?_
  rintro e w' ⟨v', rfl, h1, h2⟩
  go_wp2
  go_ret
  exact ⟨_, rfl, h1, h2⟩

end Go.Proofs.YtafkkehcacdodaaGreat

namespace Go.Proofs.YtafkkehcacdodaaGreat
open Go.RowKit Go.Shelf

theorem found_snoc (l : List (List Int)) (k : Nat) (h : k < l.length) : foundE (l.take (k + 1)) = foundE (l.take k) ++ (if whyE (l.getD k []) = 0 then [entE (l.getD k [])] else []) := by
  rw [List.take_succ_eq_append_getElem h]
  unfold foundE
  rw [List.filter_append, List.map_append]
  congr 1
  rw [List.getD_eq_getElem?_getD, List.getElem?_eq_getElem h]
  simp only [Option.getD_some]
  split
  · rename_i e
    simp [e]
  · rename_i e
    simp [e]

set_option maxHeartbeats 600000 in
theorem found_ok (w : World) (base0 : Nat) (v : Value) (vs : List Value) (ls : List (List Int)) (h : Lst w base0 v vs ls) (hl : ls.length ≤ 100000) :
    Calls Tryz.prog 31 #[v] w fun e w' => ∃ r, e = .returned r ∧ ERow w' w.heap.size r (foundE ls) ∧ Below w.heap.size w w' := by
  have HL : Hid (Lst w base0 v vs ls) := h
  obtain ⟨va, vc, rfl, hc1, hc2⟩ := win_form h.win
  unfold maxLen at hc2
  have h0 : ERow w w.heap.size (.slice none 0 0) (foundE (ls.take 0)) := World.ownsRow_nil _ _ _ _
  clear h
  go_enter Tryz.func31, Tryz.ntmps31
  go_wp2
  go_loopg [3, 10] ls.length (fun gk rv i wr => ∃ (k : Nat) (r : Value), k + gk = ls.length ∧ r = rv ∧ i = .int .i64 (k : Int) ∧ ERow wr w.heap.size r (foundE (ls.take k)) ∧ Below w.heap.size w wr)
  case atStart => exact ⟨0, _, by omega, rfl, rfl, h0, Below.refl _ _⟩
  case round =>
    obtain ⟨k, r, hk, rfl, rfl, hrow, hB⟩ := hrel
    by_cases hlt : k < ls.length
    case neg =>
      have hge : ¬ (k : Int) < (ls.length : Int) := by omega
      have hke : k = ls.length := by omega
      subst hke
      rw [List.take_length] at hrow
      have HR : Hid (ERow wr w.heap.size r (foundE ls)) := hrow
      clear hrow
      go_wp2
      go_ret
      exact ⟨_, rfl, HR.out, hB⟩
    have hltI : (k : Int) < (ls.length : Int) := by omega
    obtain ⟨LB, LO, lc, hvv, hlc, hlm, hcel⟩ := (HL.out.later hB).read (by omega)
    cases hvv
    have hc0 := hcel k hlt
    have hbt := (HL.out.later hB).bts k hlt
    have HS : Hid (foundE (ls.take (k + 1)) = foundE (ls.take k) ++ (if whyE (ls.getD k []) = 0 then [entE (ls.getD k [])] else [])) := found_snoc ls k hlt
    have HLe : Hid ((foundE (ls.take k)).length ≤ 100000) := by
      have := found_len (ls.take k)
      rw [List.length_take] at this
      show _ ≤ _
      omega
    have HRow : Hid (ERow wr w.heap.size r (foundE (ls.take k))) := hrow
    have hD := decode_any (vs.getD k undef) (ls.getD k []) wr hbt
    obtain ⟨ba, bc, hbv, _⟩ := bts_src hbt
    rw [hbv] at hc0 hD
    have hbsz := hB.size
    clear hbt hcel hrow hbv
    generalize foundE (ls.take k) = F at *
    generalize entE (ls.getD k []) = e at *
    generalize whyE (ls.getD k []) = y at *
    generalize (ls.getD k []).length = bn at *
    obtain ⟨k0, k1, k2, k3, k4⟩ := e
    go_wp2_with fail
    refine (by exact hD : Calls _ _ _ _ _).mono ?_
    rintro e w2 ⟨rfl, hB2⟩
    have hB02 := hB.trans (hB2.mono hbsz)
    have hB03 := hB02.trans ((below_alloc w2 (.cells #[.int .i64 k0, .int .i64 k1, .int .u32 k2, .int .u32 k3, .int .i64 k4] 73)).mono hB02.size)
    have hrow3 : ERow (w2.alloc (.cells #[.int .i64 k0, .int .i64 k1, .int .u32 k2, .int .u32 k3, .int .i64 k4] 73)) w.heap.size r F := World.ownsRow.alloc (ownsRow_later HRow.out hB2) _
    by_cases hy : y = 0
    · subst hy
      rw [if_pos rfl] at HS
      obtain ⟨v', w5, hr5, hrow5, hB5⟩ := append_e5 _ w.heap.size r F ⟨k0, k1, k2, k3, k4⟩ hrow3 hB03.size (by have := HLe.out; omega)
      obtain ⟨a5, c5, rfl, _⟩ := ownsRow_shape hrow5
      have hl1 : (F ++ [(⟨k0, k1, k2, k3, k4⟩ : En)]).length = F.length + 1 := by simp
      have HR5 : Hid (ERow w5 w.heap.size (.slice a5 (F.length + 1) c5) (F ++ [(⟨k0, k1, k2, k3, k4⟩ : En)])) := by rw [← hl1]; exact hrow5
      rw [hl1] at hr5
      have HB5 : Hid (Below w.heap.size w w5) := hB03.trans hB5
      obtain ⟨ra, rc, rfl, _⟩ := ownsRow_shape HRow.out
      simp only [World.size_alloc] at hr5
      clear hrow5 hB5 hrow3 hB2 hD
      go_wp2_with (at_builtin; refine wpl_append_run rfl _ _ 63 rfl _ _ rfl rfl hr5 ?_)
      go_roundg (ls.length - (k + 1))
      case rel => exact ⟨k + 1, _, by omega, rfl, by go_num, by rw [HS.out]; exact HR5.out, HB5.out⟩
      case measure => omega
    · rw [if_neg hy, List.append_nil] at HS
      have HB3 : Hid (Below w.heap.size w (w2.alloc (.cells #[.int .i64 k0, .int .i64 k1, .int .u32 k2, .int .u32 k3, .int .i64 k4] 73))) := hB03
      have HR3 : Hid (ERow (w2.alloc (.cells #[.int .i64 k0, .int .i64 k1, .int .u32 k2, .int .u32 k3, .int .i64 k4] 73)) w.heap.size r F) := hrow3
      have hy' : (y == 0) = false := by simpa using hy
      clear hrow3 hB03 hD
      go_wp2
      go_roundg (ls.length - (k + 1))
      case rel => exact ⟨k + 1, _, by omega, rfl, by go_num, by rw [HS.out]; exact HR3.out, HB3.out⟩
      case measure => omega

theorem ends_snoc (l : List Sp) (now : Int) (k : Nat) (s : Sp) (h : l[k]? = some s) : endsE (l.take (k + 1)) now = endsE (l.take k) now ++ (if s.opn then [⟨3, max now s.frm, 0, s.addr, s.block⟩] else []) := by
  rw [List.take_add_one, h]
  unfold endsE
  rw [List.filter_append, List.map_append]
  congr 1
  simp only [Option.toList_some]
  cases hs : s.opn with
  | true => rw [List.filter_cons_of_pos hs, List.filter_nil]; rfl
  | false => rw [List.filter_cons_of_neg (by rw [hs]; decide), List.filter_nil]; rfl

theorem ends_len2 (l : List Sp) (now : Int) : (endsE l now).length ≤ l.length := by
  unfold endsE
  rw [List.length_map]
  exact List.length_filter_le _ _

set_option maxHeartbeats 600000 in
theorem ends_ok (w : World) (v : Value) (B O : Nat) (l : List Sp) (now : Int) (h : Sps w v B O l) (hl : l.length ≤ 100000) :
    Calls Tryz.prog 34 #[v, .int .i64 now] w fun e w' => ∃ r, e = .returned r ∧ ERow w' w.heap.size r (endsE l now) ∧ Below w.heap.size w w' := by
  obtain ⟨ad, cap, rfl, h2, h3, h4, h5⟩ := h
  have H5 : Hid (∀ i s, l[i]? = some s → SpAt w B (O + i * 6) s) := h5
  unfold maxLen at h3
  have h0 : ERow w w.heap.size (.slice none 0 0) (endsE (l.take 0) now) := World.ownsRow_nil _ _ _ _
  clear h5
  go_enter Tryz.func34, Tryz.ntmps34
  go_wp2
  go_loopg [5, 10] l.length (fun gk rv i wr => ∃ (k : Nat) (r : Value), k + gk = l.length ∧ r = rv ∧ i = .int .i64 (k : Int) ∧ ERow wr w.heap.size r (endsE (l.take k) now) ∧ Below w.heap.size w wr)
  case atStart => exact ⟨0, _, by omega, rfl, rfl, h0, Below.refl _ _⟩
  case round =>
    obtain ⟨k, r, hk, rfl, rfl, hrow, hB⟩ := hrel
    by_cases hlt : k < l.length
    case neg =>
      have hge : ¬ (k : Int) < (l.length : Int) := by omega
      have hke : k = l.length := by omega
      subst hke
      rw [List.take_length] at hrow
      have HR : Hid (ERow wr w.heap.size r (endsE l now)) := hrow
      clear hrow
      go_wp2
      go_ret
      exact ⟨_, rfl, HR.out, hB⟩
    have hltI : (k : Int) < (l.length : Int) := by omega
    obtain ⟨s, hs⟩ : ∃ s, l[k]? = some s := ⟨_, List.getElem?_eq_getElem hlt⟩
    obtain rfl : ad = some ⟨B, O, none⟩ := by
      rcases h4 with h4 | h4
      · exact h4
      · subst h4; simp at hlt
    obtain ⟨c0, c1, c2, c3, c4, c5⟩ := spAt_later (H5.out k s hs) hB
    have HS : Hid (endsE (l.take (k + 1)) now = endsE (l.take k) now ++ (if s.opn then [⟨3, max now s.frm, 0, s.addr, s.block⟩] else [])) := ends_snoc l now k s hs
    have HLe : Hid ((endsE (l.take k) now).length ≤ 100000) := by
      have := ends_len2 (l.take k) now
      rw [List.length_take] at this
      show _ ≤ _
      omega
    have HRow : Hid (ERow wr w.heap.size r (endsE (l.take k) now)) := hrow
    have hbsz := hB.size
    clear hrow hs
    generalize endsE (l.take k) now = F at *
    obtain ⟨s0, s1, s2, s3, s4, s5⟩ := s
    simp only at c0 c1 c2 c3 c4 c5 HS
    obtain ⟨W, hW⟩ : ∃ W, W = wr.alloc (.cells #[.int .u32 s0, .int .u32 s1, .int .i64 s2, .int .i64 s3, .int .i64 s4, .bool s5] 59) := ⟨_, rfl⟩
    have hBW : Below wr.heap.size wr W := by rw [hW]; exact below_alloc _ _
    have hB0W := hB.trans (hBW.mono hbsz)
    cases s5 with
    | false =>
      simp only [Bool.false_eq_true, if_false, List.append_nil] at HS
      have HB3 : Hid (Below w.heap.size w W) := hB0W
      have HR3 : Hid (ERow W w.heap.size r F) := ownsRow_later HRow.out hBW
      rw [hW] at HB3 HR3
      clear hB0W hBW hW HRow
      go_wp2
      go_roundg (l.length - (k + 1))
      case rel => exact ⟨k + 1, _, by omega, rfl, by go_num, by rw [HS.out]; exact HR3.out, HB3.out⟩
      case measure => omega
    | true =>
      simp only [if_true] at HS
      have hRel := fun m => brel_ok W m s1 s2
      obtain ⟨ra, rc, rfl, _⟩ := ownsRow_shape HRow.out
      have HAp : Hid (∀ m, m = max now s3 → ∀ w4, Below W.heap.size W w4 → ∃ a5 c5 w5, (Builtin.append_ #[63, 63] 63 #[.slice ra F.length rc, .slice (some ⟨w4.heap.size, 0, none⟩) 1 1]).run Tryz.prog (w4.alloc (.cells #[.int .i64 3, .int .i64 m, .int .u32 0, .int .u32 s1, .int .i64 s2] 73)) = .ok (.slice a5 (F.length + 1) c5) w5 ∧
          ERow w5 w.heap.size (.slice a5 (F.length + 1) c5) (endsE (l.take (k + 1)) now) ∧ Below w.heap.size w w5) := by
        rintro m rfl w4 h4
        have hb4 := hB0W.trans (h4.mono hB0W.size)
        obtain ⟨v', w5, hr5, hrow5, hB5⟩ := append_e5 w4 w.heap.size _ F ⟨3, max now s3, 0, s1, s2⟩ (ownsRow_later (ownsRow_later HRow.out hBW) h4) hb4.size (by have := HLe.out; omega)
        obtain ⟨a5, c5, rfl, _⟩ := ownsRow_shape hrow5
        have hl1 : (F ++ [(⟨3, max now s3, 0, s1, s2⟩ : En)]).length = F.length + 1 := by simp
        rw [hl1] at hr5
        refine ⟨a5, c5, w5, hr5, ?_, hb4.trans hB5⟩
        rw [HS.out, ← hl1]
        exact hrow5
      rw [hW] at hRel
      clear hB0W hBW HRow
      go_wp2_with fail
      case inr =>
        refine (by exact hRel _ : Calls _ _ _ _ _).mono ?_
        rintro e w4 ⟨rfl, hB4⟩
        obtain ⟨a5, c5, w5, hr5, hrow5, hB5⟩ := HAp.out now (by omega) w4 (by rw [hW]; exact hB4)
        have HR5 : Hid (ERow w5 w.heap.size (.slice a5 (F.length + 1) c5) (endsE (l.take (k + 1)) now)) := hrow5
        clear hrow5 hRel
        go_wp2_with (at_builtin; refine wpl_append_run rfl _ _ 63 rfl _ _ rfl rfl hr5 ?_)
        go_roundg (l.length - (k + 1))
        case rel => exact ⟨k + 1, _, by omega, rfl, by go_num, HR5.out, hB5⟩
        case measure => omega
      case inl =>
        refine (by exact hRel _ : Calls _ _ _ _ _).mono ?_
        rintro e w4 ⟨rfl, hB4⟩
        obtain ⟨a5, c5, w5, hr5, hrow5, hB5⟩ := HAp.out s3 (by omega) w4 (by rw [hW]; exact hB4)
        have HR5 : Hid (ERow w5 w.heap.size (.slice a5 (F.length + 1) c5) (endsE (l.take (k + 1)) now)) := hrow5
        clear hrow5 hRel
        go_wp2_with (at_builtin; refine wpl_append_run rfl _ _ 63 rfl _ _ rfl rfl hr5 ?_)
        go_roundg (l.length - (k + 1))
        case rel => exact ⟨k + 1, _, by omega, rfl, by go_num, HR5.out, hB5⟩
        case measure => omega

end Go.Proofs.YtafkkehcacdodaaGreat

namespace Go.Proofs.YtafkkehcacdodaaGreat
open Go.RowKit Go.Shelf

/-- A book that was just made over a strand. -/
theorem bk_made {w6 w7 : World} {tag6 : Nat → Nat} {base o : Nat} {s : St} {p : PL} {t : Sd} {q : SL} (hP : PD w6 tag6 base o s p) (hQ : PO w6 tag6 base (o + 1) p.D t q) (hbase : base ≤ w6.heap.size) (hB : Below w6.heap.size w6 w7) (kv : Value) (L : List En) (hk : ERow w7 w6.heap.size kv L) (ty : TypeId) :
    ∃ tag', (∀ k, k < w6.heap.size → tag' k = tag6 k) ∧ BK (w7.alloc (.cells #[.pointer (some ⟨q.S, 0, none⟩), kv, .slice none 0 0] ty)) tag' base o p.D w7.heap.size ⟨s, t, L, []⟩ := by
  obtain ⟨W, hW⟩ : ∃ W, W = w7.alloc (.cells #[.pointer (some ⟨q.S, 0, none⟩), kv, .slice none 0 0] ty) := ⟨_, rfl⟩
  rw [← hW]
  have hs := hB.size
  have hBW : Below w6.heap.size w6 W := by rw [hW]; exact hB.trans ((below_alloc _ _).mono hs)
  obtain ⟨tag', htag⟩ : ∃ tag' : Nat → Nat, tag' = fun k => if k < w6.heap.size then tag6 k else if k = w7.heap.size then 16 * (o + 2) + 1 else 16 * (o + 2) + 2 := ⟨_, rfl⟩
  have t1 : ∀ k, k < w6.heap.size → tag' k = tag6 k := fun k hk => by rw [htag]; simp [hk]
  have t2 : tag' w7.heap.size = 16 * (o + 2) + 1 := by rw [htag]; simp [Nat.not_lt.2 hs]
  have t3 : ∀ k, w6.heap.size ≤ k → k < w7.heap.size → tag' k = 16 * (o + 2) + 2 := fun k h1 h2 => by
    rw [htag]
    simp only [if_neg (Nat.not_lt.2 h1), if_neg (Nat.ne_of_lt h2)]
  refine ⟨tag', t1, p, q, kv, .slice none 0 0, rfl, hP.keep (fun k hk _ => hBW.block k hk) t1, hQ.keep (fun k hk _ => hBW.block k hk) t1 hBW.size, ⟨?_, ?_, win_nil _ _, ⟨t2, by omega⟩, ?_, fun g hg => by simp [Value.ownBlock] at hg⟩⟩
  · rw [hW]; exact blk_new _ _ _
  · rw [hW]; exact (win_of_owns hk).later (below_alloc _ _)
  · intro g hg
    obtain ⟨h1, h2⟩ := hk.lt g hg
    exact ⟨t3 g h1 h2, by omega⟩

theorem enters_bspans : ∀ (args : Array Value) (w : World), (callFunc 24 args).run Tryz.prog w = .ok (.enter 24 args) w := enters_of Tryz.func24 (by kernel_rfl) rfl

theorem enters_ends : ∀ (args : Array Value) (w : World), (callFunc 34 args).run Tryz.prog w = .ok (.enter 34 args) w := enters_of Tryz.func34 (by kernel_rfl) rfl

theorem enters_bwrite : ∀ (args : Array Value) (w : World), (callFunc 33 args).run Tryz.prog w = .ok (.enter 33 args) w := enters_of Tryz.func33 (by kernel_rfl) rfl

/-- No disk, or no time. -/
theorem bopen_nil (w : World) (now : Int) : Calls Tryz.prog 9 #[.pointer none, .int .i64 now] w fun e w' => e = .returned (.tuple #[.pointer none, .int .i64 1]) ∧ Below w.heap.size w w' := by
  have hB := below_alloc w (.cells #[.int .i64 1, .int .i64 now, .int .u32 0, .int .u32 0, .int .i64 0] 73)
  go_enter Tryz.func9, Tryz.ntmps9
  go_wp2
  go_ret2
  exact ⟨rfl, hB⟩

theorem boot_check (now : Int) : checkE (bootE now) = if goodT now then 0 else 1 := by
  by_cases h : goodT now = true
  · rw [if_pos h, checkE_may (goodT_boot.1 h)]
  · rw [if_neg h]
    rcases check_cases (bootE now) with e | e
    · exact absurd (goodT_boot.2 (checkE_zero e)) h
    · exact e

theorem bopen_bad (w : World) (D : Nat) (now : Int) (h : goodT now = false) : Calls Tryz.prog 9 #[.pointer (some ⟨D, 0, none⟩), .int .i64 now] w fun e w' => e = .returned (.tuple #[.pointer none, .int .i64 1]) ∧ Below w.heap.size w w' := by
  have hB := below_alloc w (.cells #[.int .i64 1, .int .i64 now, .int .u32 0, .int .u32 0, .int .i64 0] 73)
  have hC := echeck_any (bootE now) (w.alloc (.cells #[.int .i64 1, .int .i64 now, .int .u32 0, .int .u32 0, .int .i64 0] 73))
  rw [boot_check, if_neg (by rw [h]; decide)] at hC
  clear h
  go_enter Tryz.func9, Tryz.ntmps9
  go_wp2_with fail
  refine (by exact hC : Calls _ _ _ _ _).mono ?_
  rintro e w1 ⟨rfl, hB1⟩
  go_wp2
  go_ret2
  exact ⟨rfl, hB.trans (hB1.mono hB.size)⟩

/-- The book that Open begins with. -/
def b0 (s : St) : Bm := ⟨s, openT s, startL s, []⟩

/-- What Open gives. -/
def bookV (x : Int) (B : Nat) : Value := if x = 0 then .pointer (some ⟨B, 0, none⟩) else .pointer none

theorem opn_wr (s : St) (now : Int) (h : opnE s now = 0) : wrB (b0 s) (moreE (startL s) now) = opnB s now := by
  unfold wrB
  rw [if_pos (by exact h)]
  rfl

theorem sps_row {w : World} {base : Nat} {v : Value} {l : List Sp} (h : SpRow w base v l) : ∃ B O, Sps w v B O l := by
  obtain ⟨a, cap, rfl, h2, h3, h4⟩ := ownsRow_shape h
  rcases h4 with h4 | ⟨g, rfl⟩
  · have hl : l = [] := List.eq_nil_of_length_eq_zero h4
    subst hl
    exact ⟨0, 0, a, cap, rfl, h2, h3, .inr rfl, fun i s hs => by simp at hs⟩
  · refine ⟨g, 0, _, cap, rfl, h2, h3, .inl rfl, fun i s hs => ?_⟩
    rw [Nat.zero_add]
    exact spRow_at h rfl hs

theorem sps_later {w w' : World} {v : Value} {B O : Nat} {l : List Sp} (h : Sps w v B O l) (hb : Below w.heap.size w w') : Sps w' v B O l := by
  obtain ⟨a, cap, h1, h2, h3, h4, h5⟩ := h
  exact ⟨a, cap, h1, h2, h3, h4, fun i s hs => spAt_later (h5 i s hs) hb⟩

/-- One entry behind a row of the call's own, from wherever it lies. -/
theorem append_eG (W : World) (base G : Nat) (v : Value) (l : List En) (e : En) (hv : ERow W base v l) (hbase : base ≤ W.heap.size) (hlen : l.length ≤ 1000000) (hc : ∀ j u, (eL5 e)[j]? = some u → W.cell? ⟨G, j, none⟩ = some u) :
    ∃ a5 c5 w', (Builtin.append_ #[63, 63] 63 #[v, .slice (some ⟨G, 0, none⟩) 1 1]).run Tryz.prog W = .ok (.slice a5 (l ++ [e]).length c5) w' ∧ ERow w' base (.slice a5 (l ++ [e]).length c5) (l ++ [e]) ∧ Below base W w' := by
  obtain ⟨i0, hi, hz0, hz1, hz2⟩ := info_parts infoE5
  obtain ⟨v', w', hr, ho, hg, -⟩ := run_append_own (P := Tryz.prog) W base 63 63 73 i0 _ 5 32 Tryz.underlying63 hi hz0 hz1 hz2 rfl (by decide) v l.length (l.flatMap eL5) hv
    ⟨G, 0, none⟩ 1 1 (eL5 e) rfl (fun j u hj => by rw [add_at, Nat.zero_add]; exact hc j u hj) (by
      intro u hu
      exact eL5_one [e] u (by rw [List.flatMap_cons, List.flatMap_nil, List.append_nil]; exact hu)) (by unfold maxLen; omega) (by omega) (by omega)
  have hE : ERow w' base v' (l ++ [e]) := by
    show w'.ownsRow base _ 5 v' (l ++ [e]).length ((l ++ [e]).flatMap eL5)
    rw [List.flatMap_append, List.length_append]
    have e1 : List.flatMap eL5 [e] = eL5 e := by rw [List.flatMap_cons, List.flatMap_nil, List.append_nil]
    rw [e1]
    exact ho
  obtain ⟨a5, c5, rfl, _⟩ := ownsRow_shape hE
  exact ⟨a5, c5, w', hr, hE, (Below.refl _ _).grown hg hbase (fun k hk => (hv.lt k hk).1)⟩

theorem e5_news (w : World) (e : En) (j : Nat) (u : Value) (h : (eL5 e)[j]? = some u) : (w.alloc (.cells (enC e) 73)).cell? ⟨w.heap.size, j, none⟩ = some u := by
  rw [(blk_new w (enC e) _).cell]; exact h

/-- Spans that a row of some call shows. -/
def SeeSp (w : World) (v : Value) (l : List Sp) : Prop := ∃ B O, Sps w v B O l

theorem SeeSp.form {w : World} {v : Value} {l : List Sp} (h : SeeSp w v l) : ∃ a c, v = .slice a l.length c := by
  obtain ⟨B, O, a, c, h1, _⟩ := h
  exact ⟨a, c, h1⟩

theorem SeeSp.later {w w' : World} {v : Value} {l : List Sp} (h : SeeSp w v l) (hb : Below w.heap.size w w') : SeeSp w' v l := by
  obtain ⟨B, O, h⟩ := h
  exact ⟨B, O, sps_later h hb⟩

set_option maxHeartbeats 4000000 in
theorem bopen_ok (w : World) (tag : Nat → Nat) (base o : Nat) (ho : 1 ≤ o) (s : St) (p : PL) (h : PD w tag base o s p) (hbase : base ≤ w.heap.size) (now : Int) (hg : goodT now = true)
    (hops : s.ops ≤ 700000) (hsin : s.since.length ≤ 700000) (hout : s.outs.length ≤ 700000) (hL : (startL s).length ≤ 1000) :
    Calls Tryz.prog 9 #[.pointer (some ⟨p.D, 0, none⟩), .int .i64 now] w fun e w' => ∃ tag', StepR tag tag' base o (o + 2) w w' ∧ ∃ B, BK w' tag' base o p.D B (wrB (b0 s) (moreE (startL s) now)) ∧ e = .returned (.tuple #[bookV (opnE s now) B, .int .i64 (opnE s now)]) := by
  obtain ⟨wa, hwa⟩ : ∃ wa, wa = w.alloc (.cells #[.int .i64 1, .int .i64 now, .int .u32 0, .int .u32 0, .int .i64 0] 73) := ⟨_, rfl⟩
  have hBa : Below w.heap.size w wa := by rw [hwa]; exact below_alloc _ _
  have hC := echeck_any (bootE now) wa
  rw [boot_check, if_pos hg] at hC
  have d0 : wa.cell? ⟨w.heap.size, 0, none⟩ = some (.int .i64 1) := by rw [hwa]; simp
  have d1 : wa.cell? ⟨w.heap.size, 1, none⟩ = some (.int .i64 now) := by rw [hwa]; simp
  have d2 : wa.cell? ⟨w.heap.size, 2, none⟩ = some (.int .u32 0) := by rw [hwa]; simp
  have d3 : wa.cell? ⟨w.heap.size, 3, none⟩ = some (.int .u32 0) := by rw [hwa]; simp
  have d4 : wa.cell? ⟨w.heap.size, 4, none⟩ = some (.int .i64 0) := by rw [hwa]; simp
  have HCl : Hid (∀ wx, Below wa.heap.size wa wx → wx.cell? ⟨w.heap.size, 0, none⟩ = some (.int .i64 1) ∧ wx.cell? ⟨w.heap.size, 1, none⟩ = some (.int .i64 now) ∧ wx.cell? ⟨w.heap.size, 2, none⟩ = some (.int .u32 0) ∧ wx.cell? ⟨w.heap.size, 3, none⟩ = some (.int .u32 0) ∧ wx.cell? ⟨w.heap.size, 4, none⟩ = some (.int .i64 0)) := fun wx hx =>
    ⟨cell_later hx d0, cell_later hx d1, cell_later hx d2, cell_later hx d3, cell_later hx d4⟩
  have HP : Hid (PD w tag base o s p) := h
  obtain ⟨hok1, hok2, hok3⟩ := openT_ok h.ok
  have hn2 := h.ok.n2
  have HOk : Hid (s.Ok) := h.ok
  clear h d0 d1 d2 d3 d4
  rw [hwa] at hC
  go_enter Tryz.func9, Tryz.ntmps9
  go_wp2_with fail
  refine (by exact hC : Calls _ _ _ _ _).mono ?_
  rintro e w1 ⟨rfl, hB1⟩
  rw [← hwa] at hB1
  have hB01 : Below w.heap.size w w1 := hBa.trans (hB1.mono hBa.size)
  have HO := open_ok w1 (clip tag w.heap.size) base o (o + 1) (by omega) s p (HP.out.clip hB01) (Nat.le_trans hbase hB01.size)
  go_wp2_with fail
  refine (by exact HO : Calls _ _ _ _ _).mono ?_
  rintro e w2 ⟨q, tag2, rfl, hQ, hT, hB2⟩
  have hB12 : Below wa.heap.size wa w2 := hB1.trans (hB2.mono hB1.size)
  have hB02 : Below w.heap.size w w2 := hB01.trans (hB2.mono hB01.size)
  have hPD2 : PD w2 tag2 base o s p := (HP.out.clip hB01).keep (fun k hk _ => hB2.block k hk) hT
  have HA := all_ok w2 tag2 base (o + 1) p.D (openT s) q hQ s.n hok1 (by omega)
  go_wp2_with fail
  refine (by exact HA : Calls _ _ _ _ _).mono ?_
  rintro e w3 ⟨v3, vs3, rfl, hL3, hB3⟩
  have HFo := found_ok w3 _ v3 vs3 (bodies (openT s)) hL3 (by rw [bodies_len]; omega)
  obtain ⟨a3, c3, rfl, _⟩ := win_form hL3.win
  go_wp2_with fail
  refine (by exact HFo : Calls _ _ _ _ _).mono ?_
  rintro e w4 ⟨kv, rfl, hK, hB4⟩
  have hB24 : Below w2.heap.size w2 w4 := hB3.trans (hB4.mono hB3.size)
  have hK : ERow w4 w3.heap.size kv (startL s) := hK
  obtain ⟨tag5, hT5, hBK⟩ := bk_made hPD2 hQ (Nat.le_trans hbase hB02.size) hB24 kv (startL s) (ownsRow_low hK hB3.size) 82
  obtain ⟨ka, kc, rfl, _⟩ := ownsRow_shape hK
  clear HO HA HFo hC hQ hPD2 hL3 hK
  obtain ⟨W, hW⟩ : ∃ W, W = w4.alloc (.cells #[.pointer (some ⟨q.S, 0, none⟩), .slice ka (startL s).length kc, .slice none 0 0] 82) := ⟨_, rfl⟩
  have hB2W : Below w2.heap.size w2 W := by rw [hW]; exact hB24.trans ((below_alloc _ _).mono hB24.size)
  have hBW : Below wa.heap.size wa W := hB12.trans (hB2W.mono hB12.size)
  have hB0W : Below w.heap.size w W := hBa.trans (hBW.mono hBa.size)
  have HSW : Hid (StepR tag tag5 base o (o + 2) w W) := ⟨hB0W.mono hbase, fun k hk => by
    have hk1 := Nat.lt_of_lt_of_le hk hB01.size
    rw [hT5 k (Nat.lt_of_lt_of_le hk hB02.size), hT k hk1]
    exact clip_lt _ _ _ hk, fun k hk _ => hB0W.block k hk⟩
  have hbW : base ≤ W.heap.size := Nat.le_trans hbase hB0W.size
  rw [← hW] at hBK
  have HBK : Hid (BK W tag5 base o p.D w4.heap.size (b0 s)) := hBK
  have HW : Hid (W = w4.alloc (.cells #[.pointer (some ⟨q.S, 0, none⟩), .slice ka (startL s).length kc, .slice none 0 0] 82)) := hW
  have hFin : Fine (startL s) := start_fine HOk.out
  have hgt : 0 ≤ now ∧ now ≤ 1099511627776 := of_decide_eq_true hg
  have hml := more_len (startL s) now
  have hel := ends_len (startL s) now
  have hslr : (startL s).length ≤ 32768 := by have := start_len HOk.out; omega
  have hbd : ∀ wx, Below W.drew.heap.size W.drew wx → Below W.heap.size W wx := fun wx h4 => (Below.refl _ W).drew.trans h4
  -- the calls of the region, in whatever world
  have HSp : ∀ wx, Hid (Below W.drew.heap.size W.drew wx → Calls Tryz.prog 24 #[.pointer (some ⟨w4.heap.size, 0, none⟩)] wx fun e w' => ∃ v', e = .returned v' ∧ SeeSp w' v' (spans (startL s)) ∧ Below wx.heap.size wx w') := fun wx hx => by
    refine (bspans_ok wx (clip tag5 W.heap.size) base o p.D w4.heap.size (b0 s) (HBK.out.new (hbd wx hx)) hFin hL).mono ?_
    rintro e w' ⟨v', rfl, h1, h2⟩
    exact ⟨v', rfl, sps_row h1, h2⟩
  have HEn : ∀ wx v, Hid (SeeSp wx v (spans (startL s)) → Calls Tryz.prog 34 #[v, .int .i64 now] wx fun e w' => ∃ r, e = .returned r ∧ ERow w' wx.heap.size r (endsE (spans (startL s)) now) ∧ Below wx.heap.size wx w') := fun wx v hx => by
    obtain ⟨B, O, hx⟩ := hx
    exact ends_ok wx v B O (spans (startL s)) now hx (by have := spans_length (startL s); omega)
  have HAp : ∀ wx r G, Hid (Below W.drew.heap.size W.drew wx → ERow wx W.heap.size r (endsE (spans (startL s)) now) → (∀ j u, (eL5 (bootE now))[j]? = some u → wx.cell? ⟨G, j, none⟩ = some u) →
      ∃ a5 c5 w5, (Builtin.append_ #[63, 63] 63 #[r, .slice (some ⟨G, 0, none⟩) 1 1]).run Tryz.prog wx = .ok (.slice a5 (moreE (startL s) now).length c5) w5 ∧ ERow w5 W.heap.size (.slice a5 (moreE (startL s) now).length c5) (moreE (startL s) now) ∧ Below W.heap.size W w5) := fun wx r G hx hrow hc => by
    have hb := hbd wx hx
    obtain ⟨a5, c5, w5, k1, k2, k3⟩ := append_eG wx W.heap.size G r (endsE (spans (startL s)) now) (bootE now) hrow hb.size (by omega) hc
    exact ⟨a5, c5, w5, k1, k2, hb.trans k3⟩
  have HWr : ∀ wx v, Hid (Below W.heap.size W wx → ERow wx W.heap.size v (moreE (startL s) now) → Calls Tryz.prog 33 #[.pointer (some ⟨w4.heap.size, 0, none⟩), v] wx fun e w' => e = .returned (.int .i64 (opnE s now)) ∧ ∃ tag', StepR tag tag' base o (o + 2) w w' ∧ BK w' tag' base o p.D w4.heap.size (wrB (b0 s) (moreE (startL s) now))) := fun wx v hx hrow => by
    have hfar : Far wx (clip tag5 W.heap.size) o (o + 1) v (moreE (startL s) now) := ⟨win_of_owns hrow, fun g hg => by
      have := (hrow.lt g hg).1
      left
      simp [clip, Nat.not_lt.2 this]; omega⟩
    refine (bwrite_ok wx (clip tag5 W.heap.size) base o p.D w4.heap.size ho (b0 s) (HBK.out.new hx) (Nat.le_trans hbW hx.size) v (moreE (startL s) now) hfar (more_fine hFin hgt.1 hgt.2) 700000 ⟨HOk.out, (openT_ok HOk.out).1, hops, hsin⟩ (by omega) (by show s.outs.length ≤ _; omega) (by show (openT s).recs.length + _ ≤ _; omega) (by show (startL s).length + _ ≤ _; omega)).mono ?_
    rintro e w' ⟨rfl, tag', k1, k2⟩
    exact ⟨rfl, tag', (HSW.out.trans (stepR_clip tag5 base o (o + 2) hbW hx)).trans k1, k2⟩
  clear hBK hT hT5 hB01 hB02 hB1 hB2 hB3 hB4 hB12 hB24 hB2W hB0W hg hW hFin hgt HBK HSW
  have HD : Hid (∀ wx, Below W.drew.heap.size W.drew wx → wx.cell? ⟨w.heap.size, 0, none⟩ = some (.int .i64 1) ∧ wx.cell? ⟨w.heap.size, 1, none⟩ = some (.int .i64 now) ∧ wx.cell? ⟨w.heap.size, 2, none⟩ = some (.int .u32 0) ∧ wx.cell? ⟨w.heap.size, 3, none⟩ = some (.int .u32 0) ∧ wx.cell? ⟨w.heap.size, 4, none⟩ = some (.int .i64 0)) := fun wx hx => HCl.out wx (hBW.trans ((hbd wx hx).mono hBW.size))
  obtain ⟨d0, d1, d2, d3, d4⟩ := HD.out W.drew (Below.refl _ _)
  have hebl : w.heap.size < W.drew.heap.size := by have := hBW.size; rw [hwa] at this; simp at this; show _ < W.heap.size; omega
  clear HCl hBW hbd hBa
  go_wp2_with fail
  rw [← HW.out]
  obtain ⟨B, hB⟩ : ∃ B, B = w4.heap.size := ⟨_, rfl⟩
  have HSp : Hid (∀ wx, Hid _) := HSp
  have HEn : Hid (∀ wx v, Hid _) := HEn
  have HAp : Hid (∀ wx r G, Hid _) := HAp
  have HWr : Hid (∀ wx v, Hid _) := HWr
  rw [← hB] at HSp HWr ⊢
  clear hB HW hok1 hok2 hok3 hn2 HP HOk hml hel hslr hL hops hsin hout hbW hwa
  go_region_law (first
    | (refine step_calls rfl 24 #[.tmp 35] #[32] rfl #[.pointer (some ⟨B, 0, none⟩)] (by go_simp) enters_bspans ((HSp.out _).out (by first | exact Below.refl _ _ | exact below_alloc _ _)) ?_
       rintro e wA ⟨v1, rfl, hs1, hbA⟩
       have hA : Below W.drew.heap.size W.drew wA := by first | exact hbA | exact (below_alloc _ _).trans (hbA.mono (below_alloc _ _).size)
       obtain ⟨d0, d1, d2, d3, d4⟩ := HD.out wA hA
       have heA : w.heap.size < wA.heap.size := Nat.lt_of_lt_of_le hebl hA.size
       try have hgA : ∀ j u, (eL5 (bootE now))[j]? = some u → wA.cell? ⟨W.drew.heap.size, j, none⟩ = some u := fun j u hj => cell_later hbA (e5_news W.drew (bootE now) j u hj)
       obtain ⟨sa, sc, hsv⟩ := hs1.form
       subst hsv
       refine ⟨_, rfl, ?_⟩)
    | (refine step_calls rfl 34 #[.tmp 36, .tmp 37] #[57, 2] rfl #[.slice sa (spans (startL s)).length sc, .int .i64 now] (by go_simp) enters_ends ((HEn.out _ _).out (by first | exact hs1 | exact hs1.later (below_alloc _ _))) ?_
       rintro e wE ⟨r, rfl, hr, hbE⟩
       have hE : Below W.drew.heap.size W.drew wE := by first | exact hA.trans (hbE.mono hA.size) | exact hA.trans (((below_alloc _ _).trans (hbE.mono (below_alloc _ _).size)).mono hA.size)
       obtain ⟨d0, d1, d2, d3, d4⟩ := HD.out wE hE
       have heE : w.heap.size < wE.heap.size := Nat.lt_of_lt_of_le hebl hE.size
       have hrE : ERow wE W.heap.size r (endsE (spans (startL s)) now) := ownsRow_low hr (by first | exact hA.size | exact Nat.le_trans hA.size (below_alloc _ _).size)
       try have hgE : ∀ j u, (eL5 (bootE now))[j]? = some u → wE.cell? ⟨wA.heap.size, j, none⟩ = some u := fun j u hj => cell_later hbE (e5_news wA (bootE now) j u hj)
       try have hgE2 : ∀ j u, (eL5 (bootE now))[j]? = some u → wE.cell? ⟨W.drew.heap.size, j, none⟩ = some u := fun j u hj => cell_later hbE (hgA j u hj)
       obtain ⟨ra, rc, hrv, _⟩ := ownsRow_shape hrE
       subst hrv
       refine ⟨_, rfl, ?_⟩)
    | (obtain ⟨a5, c5, w5, hr5, hrow5, hB5⟩ := (HAp.out (wE.alloc (.cells #[.int .i64 1, .int .i64 now, .int .u32 0, .int .u32 0, .int .i64 0] 73)) (.slice ra (endsE (spans (startL s)) now).length rc) wE.heap.size).out (hE.trans ((below_alloc _ _).mono hE.size)) (World.ownsRow.alloc hrE _) (e5_news wE (bootE now))
       refine step_app_run rfl (.tmp 38) (.tmp 40) 63 rfl (.slice ra (endsE (spans (startL s)) now).length rc) (.slice (some ⟨wE.heap.size, 0, none⟩) 1 1) (by rfl) (by rfl) hr5 ?_)
    | (obtain ⟨a5, c5, w5, hr5, hrow5, hB5⟩ := (HAp.out wE (.slice ra (endsE (spans (startL s)) now).length rc) wA.heap.size).out hE hrE hgE
       refine step_app_run rfl (.tmp 38) (.tmp 40) 63 rfl (.slice ra (endsE (spans (startL s)) now).length rc) (.slice (some ⟨wA.heap.size, 0, none⟩) 1 1) (by rfl) (by rfl) hr5 ?_)
    | (obtain ⟨a5, c5, w5, hr5, hrow5, hB5⟩ := (HAp.out wE (.slice ra (endsE (spans (startL s)) now).length rc) W.drew.heap.size).out hE hrE hgE2
       refine step_app_run rfl (.tmp 38) (.tmp 40) 63 rfl (.slice ra (endsE (spans (startL s)) now).length rc) (.slice (some ⟨W.drew.heap.size, 0, none⟩) 1 1) (by rfl) (by rfl) hr5 ?_)
    | (refine step_calls rfl 33 #[.tmp 34, .tmp 41] #[32, 63] rfl #[.pointer (some ⟨B, 0, none⟩), .slice a5 (moreE (startL s) now).length c5] (by go_simp) enters_bwrite ((HWr.out _ _).out hB5 hrow5) ?_
       rintro e w6 ⟨rfl, tag6, hS6, hB6⟩
       refine ⟨_, rfl, ?_⟩))
  all_goals
    have HS6 : Hid (StepR tag tag6 base o (o + 2) w w6) := hS6
    have HB6 : Hid (BK w6 tag6 base o p.D B (wrB (b0 s) (moreE (startL s) now))) := hB6
    clear hS6 hB6 hB5 hrow5 hr5 hrE hE hr hbE hA hbA hs1 HSp HEn HAp HWr HD
    obtain ⟨X, hXX⟩ : ∃ X, X = opnE s now := ⟨_, rfl⟩
    rw [← hXX]
    have HXX : Hid (opnE s now = X) := hXX.symm
    clear hXX
    by_cases hX : X = 0
    · subst hX
      go_wp2
      go_ret2
      exact ⟨tag6, HS6.out, B, HB6.out, by rw [HXX.out]; rfl⟩
    · have HV : Hid (bookV X B = .pointer none) := if_neg hX
      go_wp2
      go_ret2
      exact ⟨tag6, HS6.out, B, HB6.out, by rw [HXX.out, HV.out]; rfl⟩

end Go.Proofs.YtafkkehcacdodaaGreat

namespace Go.Proofs.YtafkkehcacdodaaGreat
open Go.RowKit Go.Shelf

theorem start_new (n : Nat) : startL (St.new n) = [] := by
  unfold startL
  rw [openT_new]
  rfl

theorem new_opn (n : Nat) (h1 : 1 ≤ n) (now : Int) (hg : goodT now = true) : opnE (St.new n) now = 0 := by
  have hm := goodT_boot.1 hg
  unfold opnE
  rw [start_new, openT_new]
  have hf := frameE_bytes hm
  have hl := bytesE_len hm
  have hfit : (⟨0, 0, []⟩ : Sd).fit (bytesE (bootE now)) = ⟨0, 0, []⟩ := by
    unfold Sd.fit
    rw [if_neg (by show ¬ 64 < 0 + _; omega)]
  have hE : appE (St.new n) ⟨0, 0, []⟩ (bytesE (bootE now)) = 0 := by
    unfold appE
    rw [if_neg (by simp [hf]), hfit, if_neg (by show ¬ n ≤ 0; omega)]
    rfl
  have hS : (appS (St.new n) ⟨0, 0, []⟩ (bytesE (bootE now))).out = 0 := by
    have := outs_app (St.new n) ⟨0, 0, []⟩ (bytesE (bootE now))
    exact out_nil this
  have hmore : moreE [] now = [bootE now] := rfl
  rw [hmore]
  unfold wrtE
  have hlay : layE (St.new n) ⟨0, 0, []⟩ [bootE now] = 0 := by
    unfold layE
    rw [if_neg (by simpa using hE)]
    rfl
  rw [if_neg (by simpa using hlay)]
  unfold layS
  rw [if_neg (by simpa using hE)]
  show errC (appS (St.new n) ⟨0, 0, []⟩ (bytesE (bootE now))).out = 0
  rw [hS]
  rfl

/-- A new book. -/
def newB (n : Nat) (now : Int) : Bm := opnB (St.new n) now

theorem newB_ok (n : Nat) (h1 : 1 ≤ n) (h2 : n ≤ 4096) (now : Int) (hg : goodT now = true) : (newB n now).Ok 2 ∧ (newB n now).s.n = n ∧ (newB n now).t.recs.length ≤ 1 ∧ (newB n now).s.outs.length = 0 ∧ (newB n now).L = [bootE now] := by
  have hgt : 0 ≤ now ∧ now ≤ 1099511627776 := of_decide_eq_true hg
  obtain ⟨k1, k2, k3, k4⟩ := opn_ok (St.ok_new h1 h2) (q := 0) (Nat.le_refl _) (Nat.le_refl _) hgt.1 hgt.2
  have hm : moreE (startL (St.new n)) now = [bootE now] := by rw [start_new]; rfl
  rw [hm] at k1 k3
  rw [openT_new] at k3
  refine ⟨k1.mono (by simp), k2, by show (opnB (St.new n) now).t.recs.length ≤ 1; simpa using k3, by have : (St.new n).outs.length = 0 := rfl; unfold newB; omega, ?_⟩
  show startL (St.new n) ++ moreE (startL (St.new n)) now = _
  rw [hm, start_new]
  rfl

set_option maxHeartbeats 1000000 in
theorem fresh_ok11 (w : World) (tag : Nat → Nat) (base o : Nat) (ho : 1 ≤ o) (hbase : base ≤ w.heap.size) (n : Nat) (N : Int) (hN : N = n) (h1 : 1 ≤ n) (h2 : n ≤ 4096) (now : Int) (hg : goodT now = true) :
    Calls Tryz.prog 22 #[.int .i64 N, .int .i64 now] w fun e w' => ∃ D B tag', e = .returned (.tuple #[.pointer (some ⟨D, 0, none⟩), .pointer (some ⟨B, 0, none⟩)]) ∧ BK w' tag' base o D B (newB n now) ∧ (∀ k, k < w.heap.size → tag' k = tag k) ∧ Below base w w' := by
  subst hN
  have HN := new_ok w tag base o n hbase h1 h2
  have HE : Hid (opnE (St.new n) now = 0) := new_opn n h1 now hg
  go_enter Tryz.func22, Tryz.ntmps22
  go_wp2_with fail
  refine HN.mono ?_
  rintro e w1 ⟨p, tag1, rfl, hP, hT, hB⟩
  have HO := bopen_ok w1 tag1 base o ho (St.new n) p hP (Nat.le_trans hbase hB.size) now hg (by simp [St.new]) (by simp [St.new]) (by simp [St.new]) (by rw [start_new]; simp)
  rw [HE.out] at HO
  have HT : Hid (∀ k, k < w.heap.size → tag1 k = tag k) := hT
  have HB : Hid (Below w.heap.size w w1) := hB
  clear hP hT hB HN
  go_wp2_with fail
  refine HO.mono ?_
  rintro e w2 ⟨tag2, hS, B, hBK, rfl⟩
  rw [opn_wr _ _ HE.out] at hBK
  have HS : Hid (StepR tag1 tag2 base o (o + 2) w1 w2) := hS
  have HK : Hid (BK w2 tag2 base o p.D B (newB n now)) := hBK
  clear hS hBK HO
  have hv : bookV 0 B = .pointer (some ⟨B, 0, none⟩) := rfl
  rw [hv]
  go_wp2
  go_ret2
  exact ⟨p.D, B, tag2, rfl, HK.out, fun k hk => (HS.out.tags k (Nat.lt_of_lt_of_le hk HB.out.size)).trans (HT.out k hk), (HB.out.mono hbase).trans HS.out.below⟩

/-- awake's book, step by step. -/
def aw0 : Bm := newB 4 5
def aw1 : Bm := aw0.put ⟨2, 6, 7, 9, 0⟩
def aw2 : Bm := aw1.put ⟨3, 9, 0, 9, 0⟩

theorem aw_e1 : aw0.putE ⟨2, 6, 7, 9, 0⟩ = 0 := by kernel_rfl
theorem aw_e2 : aw1.putE ⟨3, 9, 0, 9, 0⟩ = 0 := by kernel_rfl
theorem aw_L : aw2.L = [⟨1, 5, 0, 0, 0⟩, ⟨2, 6, 7, 9, 0⟩, ⟨3, 9, 0, 9, 0⟩] := by kernel_rfl
theorem aw_S : spans [⟨1, 5, 0, 0, 0⟩, ⟨2, 6, 7, 9, 0⟩, ⟨3, 9, 0, 9, 0⟩] = [⟨7, 9, 0, 6, 9, false⟩] := by rfl

theorem en_ok (k t s a b : Int) (h1 : -9223372036854775808 ≤ k ∧ k ≤ 9223372036854775807) (h2 : -9223372036854775808 ≤ t ∧ t ≤ 9223372036854775807) (h3 : 0 ≤ s ∧ s < 4294967296) (h4 : 0 ≤ a ∧ a < 4294967296) (h5 : -9223372036854775808 ≤ b ∧ b ≤ 9223372036854775807) : En.Ok ⟨k, t, s, a, b⟩ :=
  ⟨h1.1, h1.2, h2.1, h2.2, h3.1, h3.2, h4.1, h4.2, h5.1, h5.2⟩

set_option maxHeartbeats 4000000 in
theorem awake11_ok (w : World) : Calls Tryz.prog 5 #[] w fun e w' => e = .returned (.bool true) ∧ Below w.heap.size w w' := by
  have HF := fresh_ok11 w (fun _ => 0) w.heap.size 1 (by omega) (Nat.le_refl _) 4 4 rfl (by omega) (by omega) 5 rfl
  obtain ⟨n1, n2, n3, n4, n5⟩ := newB_ok 4 (by omega) (by omega) 5 rfl
  have hok1 : En.Ok ⟨2, 6, 7, 9, 0⟩ := en_ok 2 6 7 9 0 (by omega) (by omega) (by omega) (by omega) (by omega)
  have hok2 : En.Ok ⟨3, 9, 0, 9, 0⟩ := en_ok 3 9 0 9 0 (by omega) (by omega) (by omega) (by omega) (by omega)
  obtain ⟨o1, g1⟩ := n1.put hok1
  obtain ⟨o2, g2⟩ := o1.put hok2
  have l1 : aw0.L.length = 1 := by unfold aw0; rw [n5]; rfl
  have HB := fun w' tag' D B h hb => bgrant_ok w' tag' w.heap.size 1 D B (by omega) aw0 h hb 6 7 9 0 hok1 2 n1 (by omega) (by show (newB 4 5).s.outs.length ≤ _; omega) (by show (newB 4 5).t.recs.length ≤ _; omega) (by omega)
  have HR := fun w' tag' D B h hb => brelease_ok w' tag' w.heap.size 1 D B (by omega) aw1 h hb 9 9 0 hok2 6 o1 (by omega) (by have := g1.outs; show aw1.s.outs.length ≤ _; have h0 : (newB 4 5).s.outs.length = 0 := n4; exact Nat.le_trans this (by omega)) (by have := g1.recs; exact Nat.le_trans this (by omega)) (by have := g1.L; exact Nat.le_trans this (by show aw0.L.length + 2 ≤ _; omega))
  have HSp := fun w' tag' D B h => bspans_ok w' tag' w.heap.size 1 D B aw2 h o2.fL (by rw [aw_L]; decide)
  have HEn := fun w' tag' D B h => bentries_ok w' tag' w.heap.size 1 D B aw2 h (by rw [aw_L]; decide)
  rw [aw_e1] at HB
  rw [aw_e2] at HR
  rw [aw_L, aw_S] at HSp
  rw [aw_L] at HEn
  clear n1 n2 n3 n4 n5 o1 g1 o2 g2 hok1 hok2
  have HB : Hid (∀ w' tag' D B, _) := HB
  have HR : Hid (∀ w' tag' D B, _) := HR
  have HSp : Hid (∀ w' tag' D B, _) := HSp
  have HEn : Hid (∀ w' tag' D B, _) := HEn
  go_enter Tryz.func5, Tryz.ntmps5
  go_wp2_with fail
  refine HF.mono ?_
  rintro e w1 ⟨D, B, tag1, rfl, hK1, _, hB1⟩
  have h1 := HB.out w1 tag1 D B hK1 hB1.size
  clear hK1 HF
  go_wp2_with fail
  refine h1.mono ?_
  rintro e w2 ⟨rfl, tag2, hS2, hK2⟩
  have hB2 := hB1.trans hS2.below
  have h2 := HR.out w2 tag2 D B hK2 hB2.size
  clear hK2 hS2 h1
  go_wp2_with fail
  refine h2.mono ?_
  rintro e w3 ⟨rfl, tag3, hS3, hK3⟩
  have hB3 := hB2.trans hS3.below
  have h3 := HSp.out w3 tag3 D B hK3
  have HK3 : Hid (BK w3 tag3 w.heap.size 1 D B aw2) := hK3
  clear hK3 hS3 h2
  go_wp2_with fail
  refine h3.mono ?_
  rintro e w4 ⟨v4, rfl, hR4, hB4⟩
  obtain ⟨ga, gc, rfl, _, hgc2⟩ := ownsRow_slice hR4 (by decide)
  have hs0 := spRow_at hR4 rfl (i := 0) rfl
  obtain ⟨q0, q1, q2, q3, q4, q5⟩ := hs0
  have hB04 := hB3.trans (hB4.mono hB3.size)
  have h4 := HEn.out w4 tag3 D B (by obtain ⟨p', q', kv, dv, k0, k1, k2, k3⟩ := HK3.out; exact ⟨p', q', kv, dv, k0, k1.later hB4, k2.later hB4, k3.later hB4⟩)
  have hl1 : ([⟨7, 9, 0, 6, 9, false⟩] : List Sp).length = 1 := rfl
  rw [hl1] at *
  simp only at q0 q3 q4
  clear hR4 h3 q1 q2 q5
  go_wp2_with fail
  refine h4.mono ?_
  rintro e w5 ⟨v5, rfl, hW5, hB5, _⟩
  have hB05 := hB04.trans (hB5.mono hB04.size)
  have hl3 : ([⟨1, 5, 0, 0, 0⟩, ⟨2, 6, 7, 9, 0⟩, ⟨3, 9, 0, 9, 0⟩] : List En).length = 3 := rfl
  rw [hl3] at hW5
  obtain ⟨a5, c5, rfl, _⟩ := win_form hW5
  clear hW5 h4 hl3
  go_wp2
  go_ret
  exact ⟨rfl, hB05⟩

end Go.Proofs.YtafkkehcacdodaaGreat

namespace Go.Proofs.YtafkkehcacdodaaGreat
open Go.RowKit

/-- What was tried, behind entries that were laid. -/
def layG : St → Sd → List En → List Tr → List Tr
  | _, _, [], G => G
  | s, t, e :: r, G => if appE s t (bytesE e) ≠ 0 then appG s t (bytesE e) G else layG (appS s t (bytesE e)) (appT s t (bytesE e)) r (appG s t (bytesE e) G)

def wrtG (s : St) (t : Sd) (l : List En) (G : List Tr) : List Tr := if layE s t l ≠ 0 then layG s t l G else synG (layS s t l) (layG s t l G)

theorem appG_shape (s : St) (t : Sd) (b : List Int) (G : List Tr) : (appE s t b = 0 ∧ ∃ k, appG s t b G = G ++ [⟨k, b, true, false⟩]) ∨ (appE s t b ≠ 0 ∧ appE s t b ≠ 6 ∧ (appG s t b G = G ∨ ∃ k, appG s t b G = G ++ [⟨k, b, false, false⟩])) ∨ (appE s t b = 6 ∧ appG s t b G = G) := by
  unfold appE appG
  by_cases hE : frameE b = 0
  · have hE' : ¬ frameE b ≠ 0 := fun e => e hE
    rw [if_neg hE', if_neg hE']
    by_cases hn : s.n ≤ (t.fit b).pos
    · rw [if_pos hn, if_pos hn]; exact .inr (.inr ⟨rfl, rfl⟩)
    · rw [if_neg hn, if_neg hn]
      rcases err_cases s.out with e | e
      · rw [e]; exact .inl ⟨rfl, _, rfl⟩
      · rw [e]; exact .inr (.inl ⟨by decide, by decide, .inr ⟨_, rfl⟩⟩)
  · rw [if_pos hE, if_pos hE]
    refine .inr (.inl ⟨hE, ?_, .inl rfl⟩)
    unfold frameE
    split
    · decide
    · split <;> decide

theorem layG_shape : ∀ (l : List En) (s : St) (t : Sd) (G : List Tr), ∃ R, layG s t l G = G ++ R ∧ R.length ≤ l.length ∧ R.map Tr.b = (l.take R.length).map bytesE ∧ (∀ x ∈ R, x.su = false) ∧ (layE s t l = 0 → R.length = l.length ∧ ∀ x ∈ R, x.fi = true) ∧ (layE s t l = 6 → l.length = 1 → R = []) := by
  intro l
  induction l with
  | nil => intro s t G; exact ⟨[], by simp [layG], Nat.le_refl _, rfl, (fun x hx => by cases hx), fun _ => ⟨rfl, fun x hx => by cases hx⟩, fun _ _ => rfl⟩
  | cons e r ih =>
    intro s t G
    unfold layG layE
    rcases appG_shape s t (bytesE e) G with ⟨h0, k, h1⟩ | ⟨h0, h6, h1⟩ | ⟨h0, h1⟩
    · rw [if_neg (by simpa using h0), if_neg (by simpa using h0), h1]
      obtain ⟨R, e1, e2, e3, e4, e5, e6⟩ := ih (appS s t (bytesE e)) (appT s t (bytesE e)) (G ++ [⟨k, bytesE e, true, false⟩])
      refine ⟨⟨k, bytesE e, true, false⟩ :: R, by rw [e1]; simp, by simp; exact e2, by simp [e3], ?_, fun hz => ?_, fun hz hl => ?_⟩
      · intro x hx
        rcases List.mem_cons.1 hx with rfl | hx
        · rfl
        · exact e4 x hx
      · obtain ⟨f1, f2⟩ := e5 hz
        refine ⟨by simp [f1], fun x hx => ?_⟩
        rcases List.mem_cons.1 hx with rfl | hx
        · rfl
        · exact f2 x hx
      · have hr : r = [] := List.eq_nil_of_length_eq_zero (by simpa using hl)
        subst hr
        simp [layE] at hz
    · rw [if_pos h0, if_pos h0]
      rcases h1 with h1 | ⟨k, h1⟩
      · exact ⟨[], by rw [h1]; simp, Nat.zero_le _, rfl, (fun x hx => by cases hx), fun hz => absurd hz h0, fun _ _ => rfl⟩
      · exact ⟨[⟨k, bytesE e, false, false⟩], h1, by simp, by simp, (fun x hx => by rw [List.mem_singleton.1 hx]), fun hz => absurd hz h0, fun hz => absurd hz h6⟩
    · rw [if_pos (by rw [h0]; decide), if_pos (by rw [h0]; decide), h1, h0]
      exact ⟨[], by simp, Nat.zero_le _, rfl, (fun x hx => by cases hx), fun hz => by simp at hz, fun _ _ => rfl⟩

/-- A write: the records that are tried; where it is OK they are certain, and all that was written ahead. -/
theorem wrtG_shape (l : List En) (s : St) (t : Sd) (G : List Tr) : ∃ R, R.length ≤ l.length ∧ R.map Tr.b = (l.take R.length).map bytesE ∧ (∀ x ∈ R, x.su = false) ∧
    ((wrtE s t l = 0 ∧ R.length = l.length ∧ (∀ x ∈ R, x.fi = true) ∧ wrtG s t l G = (G ++ R).map Tr.sured) ∨ (wrtE s t l ≠ 0 ∧ wrtG s t l G = G ++ R ∧ (wrtE s t l = 6 → l.length = 1 → R = []))) := by
  obtain ⟨R, e1, e2, e3, e4, e5, e6⟩ := layG_shape l s t G
  refine ⟨R, e2, e3, e4, ?_⟩
  unfold wrtE wrtG
  by_cases hz : layE s t l = 0
  · obtain ⟨f1, f2⟩ := e5 hz
    rw [if_neg (by simpa using hz), if_neg (by simpa using hz), e1]
    unfold synG
    rcases err_cases (layS s t l).out with h | h
    · rw [if_pos h]; exact .inl ⟨h, f1, f2, rfl⟩
    · rw [if_neg (by rw [h]; decide), h]
      exact .inr ⟨by decide, rfl, fun h6 => by simp at h6⟩
  · rw [if_pos hz, if_pos hz]
    exact .inr ⟨hz, e1, e6⟩

theorem SvF.lay {F : Nat} : ∀ (l : List En) {s : St} {t : Sd} {G : List Tr}, SvF F s t G → s.Ok → t.Ok s.n → SvF F (layS s t l) (layT s t l) (layG s t l G) ∧ (layS s t l).Ok ∧ (layT s t l).Ok (layS s t l).n := by
  intro l
  induction l with
  | nil => intro s t G h ho ht; exact ⟨h, ho, ht⟩
  | cons e r ih =>
    intro s t G h ho ht
    have h1 := h.app ho ht (bytesE e) (bytesE_bytes e)
    obtain ⟨h2, h3⟩ := appS_ok ho ht (bytesE e) (bytesE_bytes e)
    have h4 : (appT s t (bytesE e)).Ok (appS s t (bytesE e)).n := by rw [h3]; exact (appT_ok (s := s) ht _ (bytesE_bytes e)).1
    unfold layS layT layG
    by_cases he : appE s t (bytesE e) ≠ 0
    · rw [if_pos he, if_pos he, if_pos he]; exact ⟨h1, h2, h4⟩
    · rw [if_neg he, if_neg he, if_neg he]; exact ih h1 h2 h4

theorem SvF.wrt {F : Nat} (l : List En) {s : St} {t : Sd} {G : List Tr} (h : SvF F s t G) (ho : s.Ok) (ht : t.Ok s.n) : SvF F (wrtS s t l) (wrtT s t l) (wrtG s t l G) := by
  obtain ⟨h1, h2, h3⟩ := h.lay l ho ht
  unfold wrtS wrtT wrtG
  by_cases he : layE s t l ≠ 0
  · rw [if_pos he, if_pos he, if_pos he]; exact h1
  · rw [if_neg he, if_neg he, if_neg he]; exact h1.sync

theorem Old.lay {F : Nat} {N0 : List Int} : ∀ (l : List En) {s : St} {t : Sd}, Old F N0 s → s.Ok → t.Ok s.n → F ≤ t.pos → Old F N0 (layS s t l) ∧ F ≤ (layT s t l).pos := by
  intro l
  induction l with
  | nil => intro s t h _ _ hF; exact ⟨h, hF⟩
  | cons e r ih =>
    intro s t h ho ht hF
    have h1 := h.app ho ht hF (bytesE e)
    obtain ⟨h2, h3⟩ := appS_ok ho ht (bytesE e) (bytesE_bytes e)
    have h4 : (appT s t (bytesE e)).Ok (appS s t (bytesE e)).n := by rw [h3]; exact (appT_ok (s := s) ht _ (bytesE_bytes e)).1
    have h5 : F ≤ (appT s t (bytesE e)).pos := by
      have hfit : F ≤ (t.fit (bytesE e)).pos := by
        unfold Sd.fit
        split
        · simp [Sd.leave]; omega
        · exact hF
      unfold appT
      split
      · exact hF
      · split
        · exact hfit
        · split
          · exact hfit
          · simp [Sd.leave]; omega
    unfold layS layT
    by_cases he : appE s t (bytesE e) ≠ 0
    · rw [if_pos he, if_pos he]; exact ⟨h1, h5⟩
    · rw [if_neg he, if_neg he]; exact ih h1 h2 h4 h5

theorem Old.wrt {F : Nat} {N0 : List Int} (l : List En) {s : St} {t : Sd} (h : Old F N0 s) (ho : s.Ok) (ht : t.Ok s.n) (hF : F ≤ t.pos) : Old F N0 (wrtS s t l) := by
  unfold wrtS
  split
  · exact (Old.lay l h ho ht hF).1
  · exact (Old.lay l h ho ht hF).1.sync

/-! ### A book's calls -/
def Bm.payG (b : Bm) (G : List Tr) : List Tr := if b.D = [] then G else wrtG b.s b.t b.D G
def Bm.putG (b : Bm) (e : En) (G : List Tr) : List Tr := if checkE e ≠ 0 then G else if b.payE ≠ 0 then b.payG G else wrtG b.pay.s b.pay.t [e] (b.payG G)

theorem SvF.pay {F : Nat} {b : Bm} {q : Nat} (hb : b.Ok q) {G : List Tr} (h : SvF F b.s b.t G) : SvF F b.pay.s b.pay.t (b.payG G) := by
  unfold Bm.pay Bm.payG
  split
  · exact h
  · exact h.wrt b.D hb.nb.ok hb.nb.tk

theorem SvF.bput {F : Nat} {b : Bm} {q : Nat} (hb : b.Ok q) {G : List Tr} (h : SvF F b.s b.t G) (e : En) : SvF F (b.put e).s (b.put e).t (b.putG e G) := by
  unfold Bm.put Bm.putG
  split
  · exact h
  · split
    · exact h.pay hb
    · exact (h.pay hb).wrt [e] hb.pay.1.nb.ok hb.pay.1.nb.tk

theorem new_sv (n : Nat) (h1 : 1 ≤ n) (h2 : n ≤ 4096) (now : Int) : SvF 0 (newB n now).s (newB n now).t (wrtG (St.new n) ⟨0, 0, []⟩ [bootE now] []) ∧ Old 0 (St.new n).now (newB n now).s := by
  obtain ⟨k1, k2⟩ := SvF.start (s := St.new n) (St.ok_new h1 h2) rfl rfl
  have ht := (openT_ok (St.ok_new h1 h2)).1
  have hm : moreE (startL (St.new n)) now = [bootE now] := by rw [start_new]; rfl
  have hs : (newB n now).s = wrtS (St.new n) (openT (St.new n)) [bootE now] := by
    show opnS (St.new n) now = _
    unfold opnS
    rw [hm]
  have htt : (newB n now).t = wrtT (St.new n) (openT (St.new n)) [bootE now] := by
    show wrtT _ _ _ = _
    rw [hm]
  rw [hs, htt]
  rw [openT_new] at k1 k2 ht ⊢
  exact ⟨k1.wrt [bootE now] (St.ok_new h1 h2) ht, k2.wrt [bootE now] (St.ok_new h1 h2) ht (Nat.le_refl _)⟩

/-! ### What is certain -/
def Sures (G : List Tr) : List (List Int) := (G.filter Tr.su).map Tr.b
def SuFi (G : List Tr) : Prop := ∀ x ∈ G, x.su = true → x.fi = true

theorem sures_app (G R : List Tr) (h : ∀ x ∈ R, x.su = false) : Sures (G ++ R) = Sures G := by
  unfold Sures
  rw [List.filter_append]
  have : R.filter Tr.su = [] := by
    rw [List.filter_eq_nil_iff]
    intro x hx
    rw [h x hx]; decide
  rw [this, List.append_nil]

theorem sures_sured (G : List Tr) : Sures (G.map Tr.sured) = (G.filter Tr.fi).map Tr.b := by
  induction G with
  | nil => rfl
  | cons x G ih =>
    unfold Sures at ih ⊢
    rw [List.map_cons]
    by_cases h : x.fi = true
    · rw [List.filter_cons_of_pos (by exact h), List.filter_cons_of_pos h, List.map_cons, List.map_cons, ih]; rfl
    · rw [List.filter_cons_of_neg (by exact h), List.filter_cons_of_neg h, ih]

theorem sures_fi (G : List Tr) (h : SuFi G) : (Sures G).Sublist ((G.filter Tr.fi).map Tr.b) := by
  unfold Sures
  refine List.Sublist.map _ ?_
  induction G with
  | nil => exact .slnil
  | cons x G ih =>
    have hG := ih (fun y hy => h y (by simp [hy]))
    by_cases h1 : x.su = true
    · rw [List.filter_cons_of_pos h1, List.filter_cons_of_pos (h x (by simp) h1)]; exact hG.cons_cons x
    · rw [List.filter_cons_of_neg h1]
      by_cases h2 : x.fi = true
      · rw [List.filter_cons_of_pos h2]; exact hG.cons x
      · rw [List.filter_cons_of_neg h2]; exact hG

theorem suFi_app {G R : List Tr} (h : SuFi G) (k : ∀ x ∈ R, x.su = false) : SuFi (G ++ R) := by
  intro x hx hs
  rcases List.mem_append.1 hx with hx | hx
  · exact h x hx hs
  · rw [k x hx] at hs; cases hs

theorem suFi_sured (G : List Tr) : SuFi (G.map Tr.sured) := by
  intro x hx hs
  obtain ⟨y, _, rfl⟩ := List.mem_map.1 hx
  exact hs

/-- How what was tried has grown: nothing certain is lost. -/
structure GrewG (G G' : List Tr) (n : Nat) : Prop where
  sf : SuFi G'
  su : (Sures G).Sublist (Sures G')
  len : G'.length ≤ G.length + n

theorem GrewG.refl {G : List Tr} (h : SuFi G) (n : Nat) : GrewG G G n := ⟨h, List.Sublist.refl _, by omega⟩
theorem GrewG.trans {G H K : List Tr} {n m : Nat} (h : GrewG G H n) (k : GrewG H K m) : GrewG G K (n + m) := ⟨k.sf, h.su.trans k.su, by have := h.len; have := k.len; omega⟩
theorem GrewG.more {G H : List Tr} {n m : Nat} (h : GrewG G H n) (k : n ≤ m) : GrewG G H m := ⟨h.sf, h.su, by have := h.len; omega⟩

theorem wrtG_grew (l : List En) (s : St) (t : Sd) {G : List Tr} (h : SuFi G) : GrewG G (wrtG s t l G) l.length ∧ (wrtE s t l = 0 → (Sures G ++ l.map bytesE).Sublist (Sures (wrtG s t l G))) := by
  obtain ⟨R, r1, r2, r3, r4⟩ := wrtG_shape l s t G
  rcases r4 with ⟨e0, e1, e2, e3⟩ | ⟨e0, e1, _⟩
  · rw [e3]
    have hR : (R.filter Tr.fi).map Tr.b = l.map bytesE := by
      have : R.filter Tr.fi = R := by rw [List.filter_eq_self]; exact e2
      rw [this, r2, e1, List.take_length]
    have hs : Sures ((G ++ R).map Tr.sured) = (G.filter Tr.fi).map Tr.b ++ l.map bytesE := by
      rw [sures_sured, List.filter_append, List.map_append, hR]
    have hsub := (sures_fi G h).append (List.Sublist.refl (l.map bytesE))
    refine ⟨⟨suFi_sured _, ?_, by simp; omega⟩, fun _ => by rw [hs]; exact hsub⟩
    rw [hs]
    exact (List.sublist_append_left _ _).trans hsub
  · rw [e1]
    exact ⟨⟨suFi_app h r3, by rw [sures_app _ _ r3]; exact List.Sublist.refl _, by simp; omega⟩, fun hz => absurd hz e0⟩

theorem payG_grew {b : Bm} {q : Nat} (hb : b.Ok q) {G : List Tr} (h : SuFi G) : GrewG G (b.payG G) 1 := by
  unfold Bm.payG
  split
  · exact .refl h 1
  · exact (wrtG_grew b.D b.s b.t h).1.more hb.d1

theorem putG_grew {b : Bm} {q : Nat} (hb : b.Ok q) {G : List Tr} (h : SuFi G) (e : En) : GrewG G (b.putG e G) 2 ∧ (b.putE e = 0 → (Sures G ++ [bytesE e]).Sublist (Sures (b.putG e G))) := by
  unfold Bm.putG Bm.putE
  by_cases hc : checkE e = 0
  · have hc' : ¬ checkE e ≠ 0 := by simpa using hc
    rw [if_neg hc', if_neg hc']
    have h1 := payG_grew hb h
    by_cases hp : b.payE = 0
    · have hp' : ¬ b.payE ≠ 0 := by simpa using hp
      rw [if_neg hp', if_neg hp']
      obtain ⟨h2, h3⟩ := wrtG_grew [e] b.pay.s b.pay.t h1.sf
      exact ⟨h1.trans h2, fun hz => (h1.su.append (List.Sublist.refl _)).trans (h3 hz)⟩
    · rw [if_pos hp, if_pos hp]
      exact ⟨h1.more (by omega), fun hz => absurd hz hp⟩
  · rw [if_pos hc, if_pos hc]
    exact ⟨.refl h 2, fun hz => absurd hz hc⟩

/-- What is certain is found. -/
theorem btw_sures {h : List (List Int)} {G : List Tr} (hb : Btw h G) : (Sures G).Sublist h := by
  induction hb with
  | nil => exact .slnil
  | skip x hx _ ih =>
    unfold Sures at ih ⊢
    rw [List.filter_cons_of_neg (by rw [hx]; decide)]; exact ih
  | take x _ ih =>
    unfold Sures at ih ⊢
    by_cases hx : x.su = true
    · rw [List.filter_cons_of_pos hx, List.map_cons]; exact ih.cons_cons _
    · rw [List.filter_cons_of_neg hx]; exact ih.cons _

theorem found_bytes {l : List En} (h : Fine l) : foundE (l.map bytesE) = l := by
  unfold foundE
  induction l with
  | nil => rfl
  | cons e l ih =>
    obtain ⟨hm, ho⟩ := h e (by simp)
    obtain ⟨k1, k2⟩ := entE_bytesE hm ho
    rw [List.map_cons, List.filter_cons_of_pos (by simpa using k1), List.map_cons, k2, ih (fun x hx => h x (by simp [hx]))]

theorem found_sub {l m : List (List Int)} (h : l.Sublist m) : (foundE l).Sublist (foundE m) := (h.filter _).map _

end Go.Proofs.YtafkkehcacdodaaGreat

namespace Go.Proofs.YtafkkehcacdodaaGreat
open Go.RowKit

/-! ### Spans that are shut -/
theorem frm_til (l : List En) : ∀ s ∈ spans l, s.opn = false → s.frm ≤ s.til := by
  unfold spans
  suffices H : ∀ (l : List En) (acc : List Sp), (∀ s ∈ acc, s.opn = false → s.frm ≤ s.til) → ∀ s ∈ l.foldl stepS acc, s.opn = false → s.frm ≤ s.til from H l [] (fun s hs => by cases hs)
  intro l
  induction l with
  | nil => intro acc h; exact h
  | cons e l ih =>
    intro acc h
    refine ih (stepS acc e) ?_
    have hshut : ∀ (o : Option Nat) (t : Int), ∀ s ∈ shutI acc o t, s.opn = false → s.frm ≤ s.til := by
      intro o t s hs
      cases o with
      | none => exact h s hs
      | some i =>
        rcases List.mem_or_eq_of_mem_set hs with h' | rfl
        · exact h s h'
        · intro _; show (acc.getD i default).frm ≤ max (acc.getD i default).frm t; omega
    unfold stepS
    split
    · intro s hs
      rcases List.mem_append.1 hs with hs | hs
      · exact hshut _ _ s hs
      · rw [List.mem_singleton.1 hs]; intro h; cases h
    · split
      · exact hshut _ _
      · exact h

theorem open_rel {S : List Sp} (hU : Uniq S) {e : En} (he : e.kind = 3) {a k : Int} {j : Nat} : OpenAt (stepS S e) a k j ↔ ¬ (a = e.addr ∧ k = e.block) ∧ OpenAt S a k j := by
  have hs : stepS S e = shutI S (openI S e.addr e.block) e.time := by unfold stepS; rw [if_neg (by omega), if_pos he]
  rw [hs, openAt_shutI hU]

theorem open_rels : ∀ (R : List En) {S : List Sp}, Uniq S → (∀ e ∈ R, e.kind = 3) → ∀ {a k : Int} {j : Nat}, OpenAt (R.foldl stepS S) a k j → OpenAt S a k j ∧ ∀ e ∈ R, ¬ (a = e.addr ∧ k = e.block) := by
  intro R
  induction R with
  | nil => intro S _ _ a k j h; exact ⟨h, fun e he => by cases he⟩
  | cons e R ih =>
    intro S hU hk a k j h
    obtain ⟨h1, h2⟩ := ih (uniq_step hU e) (fun x hx => hk x (by simp [hx])) h
    rw [open_rel hU (hk e (by simp))] at h1
    refine ⟨h1.2, fun x hx => ?_⟩
    rcases List.mem_cons.1 hx with rfl | hx
    · exact h1.1
    · exact h2 x hx

theorem spans_app (l m : List En) : spans (l ++ m) = m.foldl stepS (spans l) := by unfold spans; rw [List.foldl_append]

theorem spans_boot (l : List En) (now : Int) : spans (l ++ [bootE now]) = spans l := by
  rw [spans_snoc]
  unfold stepS
  rw [if_neg (by show ¬ (1 : Int) = 2; omega), if_neg (by show ¬ (1 : Int) = 3; omega)]

/-- No span is open. -/
def Shut (S : List Sp) : Prop := ∀ s ∈ S, s.opn = false

theorem ends_kind (S : List Sp) (now : Int) : ∀ e ∈ endsE S now, e.kind = 3 := by
  intro e he
  obtain ⟨s, _, rfl⟩ := List.mem_map.1 he
  rfl

theorem shut_more (L : List En) (now : Int) : Shut (spans (L ++ moreE L now)) := by
  unfold moreE
  rw [← List.append_assoc, spans_boot, spans_app]
  intro s hs
  cases ho : s.opn with
  | false => rfl
  | true =>
    obtain ⟨j, hj⟩ := List.getElem?_of_mem hs
    have h0 : OpenAt ((endsE (spans L) now).foldl stepS (spans L)) s.addr s.block j := ⟨s, hj, ho, rfl, rfl⟩
    obtain ⟨⟨s', hs', o1, o2, o3⟩, h2⟩ := open_rels _ (uniq_spans L) (ends_kind _ now) h0
    exfalso
    refine h2 ⟨3, max now s'.frm, 0, s'.addr, s'.block⟩ ?_ ⟨o2.symm, o3.symm⟩
    unfold endsE
    exact List.mem_map.2 ⟨s', List.mem_filter.2 ⟨List.mem_of_getElem? hs', o1⟩, rfl⟩

theorem shut_ends {L : List En} (h : Shut (spans L)) (now : Int) : moreE L now = [bootE now] := by
  unfold moreE endsE
  have : (spans L).filter (fun s => s.opn) = [] := by
    rw [List.filter_eq_nil_iff]
    intro s hs
    rw [h s hs]; decide
  rw [this]; rfl

/-! ### A disk without failures -/
theorem app_quiet {s : St} (h : s.outs = []) (t : Sd) {b : List Int} (hb : frameE b = 0) : (appE s t b = 0 ∨ appE s t b = 6) ∧ (appS s t b).outs = [] := by
  have ho : s.out = 0 := by unfold St.out; rw [h]; rfl
  refine ⟨?_, ?_⟩
  · unfold appE
    rw [if_neg (by simp [hb])]
    split
    · exact .inr rfl
    · rw [ho]; exact .inl rfl
  · have := outs_app s t b
    rw [h] at this
    exact List.eq_nil_of_length_eq_zero (by simpa using this)

theorem lay_quiet : ∀ (l : List En) {s : St} {t : Sd}, s.outs = [] → Fine l → (layE s t l = 0 ∨ layE s t l = 6) ∧ (layS s t l).outs = [] := by
  intro l
  induction l with
  | nil => intro s t h _; exact ⟨.inl rfl, h⟩
  | cons e r ih =>
    intro s t h hf
    obtain ⟨h1, h2⟩ := app_quiet h t (frameE_bytes (hf e (by simp)).1)
    unfold layE layS
    by_cases he : appE s t (bytesE e) ≠ 0
    · rw [if_pos he, if_pos he]
      exact ⟨h1, h2⟩
    · rw [if_neg he, if_neg he]
      exact ih h2 (fun x hx => hf x (by simp [hx]))

theorem wrt_quiet (l : List En) {s : St} {t : Sd} (h : s.outs = []) (hf : Fine l) : wrtE s t l = 0 ∨ wrtE s t l = 6 := by
  obtain ⟨h1, h2⟩ := lay_quiet l (t := t) h hf
  unfold wrtE
  by_cases he : layE s t l ≠ 0
  · rw [if_pos he]; exact h1
  · rw [if_neg he]
    have ho : (layS s t l).out = 0 := by unfold St.out; rw [h2]; rfl
    rw [ho]; exact .inl rfl

/-! ### Opened behind a crash -/
theorem btw_sub {h : List (List Int)} {G : List Tr} (hb : Btw h G) : h.Sublist (G.map Tr.b) := by
  induction hb with
  | nil => exact .slnil
  | skip x _ _ ih => exact ih.cons _
  | take x _ ih => exact ih.cons_cons _

theorem btw_all {h : List (List Int)} {G : List Tr} (hb : Btw h G) (hs : ∀ x ∈ G, x.su = true) : h = G.map Tr.b := by
  have h1 := btw_sub hb
  have h2 := btw_sures hb
  have h3 : Sures G = G.map Tr.b := by
    unfold Sures
    congr 1
    rw [List.filter_eq_self]; exact hs
  rw [h3] at h2
  exact h1.eq_of_length_le h2.length_le

/-- A disk behind a crash. -/
structure Rest (s : St) : Prop where
  ok : s.Ok
  since : s.since = []
  sure : s.sure = s.now
  outs : s.outs = []
  ops : s.ops = 0

theorem Rest.crash {s : St} (h : s.Ok) (ch : List Int) : Rest (s.crash ch) := ⟨h.crash ch, rfl, rfl, rfl, rfl⟩

theorem Rest.first {s : St} (h : Rest s) : bodies (openT s) = bodK s.now (openT s).pos := by
  obtain ⟨k1, _⟩ := SvF.start h.ok h.since h.sure
  have hF : (openT s).pos ≤ s.n := (openT_ok h.ok).1.pn
  obtain ⟨hh, e1, e2⟩ := Poss.found k1 hF k1.possN
  cases e2
  rw [bodies_bodK, e1, List.append_nil]

/-- What an Open leaves on the disk: its records are behind all that stood there. -/
theorem Rest.opened {s : St} (h : Rest s) {now : Int} : ∃ R : List Tr, R.length ≤ (moreE (startL s) now).length ∧ R.map Tr.b = ((moreE (startL s) now).take R.length).map bytesE ∧
    (∃ hh, bodK (opnS s now).now s.n = bodies (openT s) ++ hh ∧ hh.Sublist (R.map Tr.b)) ∧
    (opnE s now = 0 → ∀ ch, startL ((opnS s now).crash ch) = startL s ++ moreE (startL s) now ∨ ¬ Fine (moreE (startL s) now)) := by
  obtain ⟨k1, k2⟩ := SvF.start h.ok h.since h.sure
  have hF : (openT s).pos ≤ s.n := (openT_ok h.ok).1.pn
  have ht := (openT_ok h.ok).1
  have k3 := k1.wrt (moreE (startL s) now) h.ok ht
  have k4 := k2.wrt (moreE (startL s) now) h.ok ht (Nat.le_refl _)
  have hnb := Nb.wrt (moreE (startL s) now) (q := 0) ⟨h.ok, ht, by rw [h.ops]; exact Nat.le_refl _, by rw [h.since]; exact Nat.le_refl _⟩
  have hn : (opnS s now).n = s.n := hnb.2.1
  have hok : (opnS s now).Ok := hnb.1.ok
  obtain ⟨R, r1, r2, r3, r4⟩ := wrtG_shape (moreE (startL s) now) s (openT s) []
  have hfirst := h.first
  refine ⟨R, r1, r2, ?_, ?_⟩
  · obtain ⟨hh, e1, e2⟩ := Poss.found k3 (by rw [show (wrtS s (openT s) (moreE (startL s) now)).n = s.n from hn]; exact hF) k3.possN
    refine ⟨hh, ?_, ?_⟩
    · have hb : bodK (opnS s now).now (openT s).pos = bodK s.now (openT s).pos := bodK_same _ (fun j hj => k4.nw j hj (by rw [show (wrtS s (openT s) (moreE (startL s) now)).n = s.n from hn]; omega))
      rw [hfirst, ← hb, ← hn]
      exact e1
    · have := btw_sub e2
      rcases r4 with ⟨_, _, _, e3⟩ | ⟨_, e3, _⟩
      · rw [e3, List.nil_append, List.map_map] at this
        exact this
      · rw [e3, List.nil_append] at this
        exact this
  · intro hz ch
    by_cases hfine : Fine (moreE (startL s) now)
    case neg => exact .inr hfine
    left
    rcases r4 with ⟨_, e1, e2, e3⟩ | ⟨e0, _⟩
    case inr => exact absurd hz e0
    obtain ⟨hh, f1, f2⟩ := Poss.found k3 (by rw [show (wrtS s (openT s) (moreE (startL s) now)).n = s.n from hn]; exact hF) (k3.possC hok ch)
    rw [e3, List.nil_append] at f2
    have hall := btw_all f2 (fun x hx => by obtain ⟨y, hy, rfl⟩ := List.mem_map.1 hx; exact e2 y hy)
    rw [List.map_map] at hall
    have hmap : List.map (Tr.b ∘ Tr.sured) R = R.map Tr.b := rfl
    rw [hmap, r2, e1, List.take_length] at hall
    have hb : bodK ((opnS s now).crash ch).now (openT s).pos = bodK s.now (openT s).pos := bodK_same _ (fun j hj => k4.crash hok ch j hj (by rw [show (wrtS s (openT s) (moreE (startL s) now)).n = s.n from hn]; omega))
    unfold startL
    rw [bodies_bodK]
    show foundE (bodK ((opnS s now).crash ch).now (opnS s now).n) = _
    have f1' : bodK ((opnS s now).crash ch).now (opnS s now).n = bodK ((opnS s now).crash ch).now (openT s).pos ++ hh := f1
    rw [f1', hb, ← hfirst, hall]
    unfold foundE
    rw [List.filter_append, List.map_append]
    congr 1
    exact found_bytes hfine

theorem btw_len {h : List (List Int)} {G : List Tr} (hb : Btw h G) : h.length ≤ G.length := by
  have := (btw_sub hb).length_le
  simpa using this

end Go.Proofs.YtafkkehcacdodaaGreat

namespace Go.Proofs.YtafkkehcacdodaaGreat
open Go.RowKit

/-! ### What the shutting of an open span does to the list's members -/
theorem shut_mem {S : List Sp} {a k t : Int} {s' : Sp} (h : s' ∈ shutI S (openI S a k) t) : s' ∈ S ∨ ∃ s ∈ S, s.opn = true ∧ s.addr = a ∧ s.block = k ∧ s' = shutS s t := by
  cases ho : openI S a k with
  | none => rw [ho] at h; exact .inl h
  | some i =>
    rw [ho] at h
    obtain ⟨s, hs, o1, o2, o3⟩ := openI_at ho
    rcases List.mem_or_eq_of_mem_set h with h' | rfl
    · exact .inl h'
    · refine .inr ⟨s, List.mem_of_getElem? hs, o1, o2, o3, ?_⟩
      rw [List.getD_eq_getElem?_getD, hs]; rfl

theorem mem_shut {S : List Sp} {a k : Int} (t : Int) {s : Sp} (h : s ∈ S) : s ∈ shutI S (openI S a k) t ∨ (s.opn = true ∧ s.addr = a ∧ s.block = k ∧ shutS s t ∈ shutI S (openI S a k) t) := by
  cases ho : openI S a k with
  | none => exact .inl h
  | some i =>
    obtain ⟨u, hu, o1, o2, o3⟩ := openI_at ho
    obtain ⟨j, hj⟩ := List.getElem?_of_mem h
    by_cases hji : j = i
    · subst hji
      rw [hu] at hj
      have hsu : u = s := Option.some.inj hj
      subst hsu
      refine .inr ⟨o1, o2, o3, ?_⟩
      have hlt := (List.getElem?_eq_some_iff.1 hu).1
      refine List.mem_of_getElem? (i := j) ?_
      show (S.set j (shutS (S.getD j default) t))[j]? = _
      rw [List.getElem?_set_self hlt, List.getD_eq_getElem?_getD, hu]; rfl
    · left
      refine List.mem_of_getElem? (i := j) ?_
      show (S.set i (shutS (S.getD i default) t))[j]? = _
      rw [List.getElem?_set_ne (fun e => hji e.symm)]; exact hj

theorem shut_none {S : List Sp} (hU : Uniq S) {a k t : Int} {s' : Sp} (h : s' ∈ shutI S (openI S a k) t) (ho : s'.opn = true) : ¬ (s'.addr = a ∧ s'.block = k) := by
  obtain ⟨j, hj⟩ := List.getElem?_of_mem h
  have : OpenAt (shutI S (openI S a k) t) s'.addr s'.block j := ⟨s', hj, ho, rfl, rfl⟩
  exact ((openAt_shutI hU).1 this).1

theorem step_rel {S : List Sp} {e : En} (he : e.kind = 3) : stepS S e = shutI S (openI S e.addr e.block) e.time := by
  unfold stepS; rw [if_neg (by omega), if_pos he]

theorem step_grant {S : List Sp} {e : En} (he : e.kind = 2) : stepS S e = shutI S (openI S e.addr e.block) (aheadT e.time) ++ [newS e] := by
  unfold stepS; rw [if_pos he]

theorem openI_no {S : List Sp} {a k : Int} (h : ∀ s ∈ S, s.addr = a → s.block = k → s.opn = false) : openI S a k = none := by
  cases ho : openI S a k with
  | none => rfl
  | some i =>
    obtain ⟨s, hs, o1, o2, o3⟩ := openI_at ho
    have := h s (List.mem_of_getElem? hs) o2 o3
    rw [o1] at this; cases this

/-- Another block's spans stay as they are. -/
theorem step_other {S : List Sp} {e : En} {a k : Int} (hne : ¬ (e.addr = a ∧ e.block = k)) {s : Sp} (h1 : s.addr = a) (h2 : s.block = k) : s ∈ stepS S e ↔ s ∈ S := by
  have hs : ∀ t, s ∈ shutI S (openI S e.addr e.block) t ↔ s ∈ S := fun t => by
    constructor
    · intro h
      rcases shut_mem h with h | ⟨u, _, _, u2, u3, rfl⟩
      · exact h
      · exact absurd ⟨u2.symm.trans h1, u3.symm.trans h2⟩ hne
    · intro h
      rcases mem_shut t h with h | ⟨_, u2, u3, _⟩
      · exact h
      · exact absurd ⟨u2.symm.trans h1, u3.symm.trans h2⟩ hne
  unfold stepS
  split
  · rw [List.mem_append, hs, List.mem_singleton]
    refine ⟨fun h => ?_, .inl⟩
    rcases h with h | rfl
    · exact h
    · exact absurd ⟨h1, h2⟩ hne
  · split
    · exact hs _
    · exact Iff.rfl

/-! ### Who is asked for -/
/-- A block, a time from and to, and whose it was. -/
structure AskOK (S : List Sp) (q : Sp) : Prop where
  le : q.frm ≤ q.til
  ex : ∃ s ∈ S, s.addr = q.addr ∧ s.block = q.block ∧ s.sub = q.sub ∧ s.frm ≤ q.frm ∧ (s.opn = true ∨ q.til ≤ s.til)
  un : ∀ s ∈ S, s.addr = q.addr → s.block = q.block → s.frm ≤ q.til → (s.opn = true ∨ q.frm ≤ s.til) → s.sub = q.sub

theorem AskOK.who {S : List Sp} {q : Sp} (h : AskOK S q) {t : Int} (h1 : q.frm ≤ t) (h2 : t ≤ q.til) {r : List Int} (hr : WhoOf S q.addr q.block t r) : r = [q.sub] := by
  refine hr.one ⟨List.pairwise_singleton _ _, fun x => ?_⟩
  rw [List.mem_singleton, mem_subsAt]
  constructor
  · rintro rfl
    obtain ⟨s, hs, a1, a2, a3, a4, a5⟩ := h.ex
    refine ⟨s, hs, hit_iff.2 ⟨⟨a1, a2⟩, by omega, ?_⟩, a3⟩
    rcases a5 with a5 | a5
    · exact .inl a5
    · exact .inr (by omega)
  · rintro ⟨s, hs, hh, rfl⟩
    obtain ⟨⟨a1, a2⟩, a3, a4⟩ := hit_iff.1 hh
    refine h.un s hs a1 a2 (by omega) ?_
    rcases a4 with a4 | a4
    · exact .inl a4
    · exact .inr (by omega)

theorem AskOK.agree {S S' : List Sp} {q : Sp} (h : AskOK S q) (ha : ∀ s : Sp, s.addr = q.addr → s.block = q.block → (s ∈ S' ↔ s ∈ S)) : AskOK S' q := by
  obtain ⟨s, hs, a1, a2, a3⟩ := h.ex
  exact ⟨h.le, ⟨s, (ha s a1 a2).2 hs, a1, a2, a3⟩, fun s hs a1 a2 => h.un s ((ha s a1 a2).1 hs) a1 a2⟩

theorem AskOK.rel {S : List Sp} {q : Sp} (h : AskOK S q) {e : En} (he : e.kind = 3) (ht : e.addr = q.addr → e.block = q.block → q.til ≤ e.time) : AskOK (stepS S e) q := by
  by_cases hb : e.addr = q.addr ∧ e.block = q.block
  case neg => exact h.agree (fun s h1 h2 => step_other hb h1 h2)
  have hT := ht hb.1 hb.2
  rw [step_rel he]
  refine ⟨h.le, ?_, fun s' hs' a1 a2 a3 a4 => ?_⟩
  · obtain ⟨s, hs, a1, a2, a3, a4, a5⟩ := h.ex
    rcases mem_shut e.time hs with h' | ⟨_, _, _, h'⟩
    · exact ⟨s, h', a1, a2, a3, a4, a5⟩
    · exact ⟨shutS s e.time, h', a1, a2, a3, a4, .inr (by show _ ≤ max s.frm e.time; omega)⟩
  · rcases shut_mem hs' with h' | ⟨s, hs, o1, o2, o3, rfl⟩
    · exact h.un s' h' a1 a2 a3 a4
    · exact h.un s hs a1 a2 a3 (.inl o1)

theorem AskOK.quiet {S : List Sp} {q : Sp} (h : AskOK S q) {e : En} (h2 : e.kind ≠ 2) (h3 : e.kind ≠ 3) : AskOK (stepS S e) q := by
  unfold stepS
  rw [if_neg h2, if_neg h3]; exact h

theorem AskOK.grant {S : List Sp} {q : Sp} (h : AskOK S q) {e : En} (he : e.kind = 2) (ht : e.addr = q.addr → e.block = q.block → q.til < e.time ∧ ∀ s ∈ S, s.addr = e.addr → s.block = e.block → s.opn = false) : AskOK (stepS S e) q := by
  by_cases hb : e.addr = q.addr ∧ e.block = q.block
  case neg => exact h.agree (fun s h1 h2 => step_other hb h1 h2)
  obtain ⟨hT, ho⟩ := ht hb.1 hb.2
  rw [step_grant he, openI_no ho]
  refine ⟨h.le, ?_, fun s' hs' a1 a2 a3 a4 => ?_⟩
  · obtain ⟨s, hs, a⟩ := h.ex
    exact ⟨s, List.mem_append.2 (.inl hs), a⟩
  · rcases List.mem_append.1 hs' with h' | h'
    · exact h.un s' h' a1 a2 a3 a4
    · rw [List.mem_singleton.1 h'] at a3
      have : e.time ≤ q.til := a3
      omega

/-- Releases of a later time, and entries of no block. -/
theorem AskOK.more : ∀ (R : List En) {S : List Sp} {q : Sp}, AskOK S q → (∀ e ∈ R, e.kind ≠ 2 ∧ (e.kind = 3 → q.til ≤ e.time)) → AskOK (R.foldl stepS S) q := by
  intro R
  induction R with
  | nil => intro S q h _; exact h
  | cons e R ih =>
    intro S q h hR
    obtain ⟨h1, h2⟩ := hR e (by simp)
    refine ih ?_ (fun x hx => hR x (by simp [hx]))
    by_cases h3 : e.kind = 3
    · exact h.rel h3 (fun _ _ => h2 h3)
    · exact h.quiet h1 h3

theorem AskOK.opened {L R : List En} {q : Sp} (h : AskOK (spans L) q) {now : Int} (hn : q.til ≤ now) (hR : R.Sublist (moreE L now)) : AskOK (spans (L ++ R)) q := by
  rw [spans_app]
  refine h.more R (fun e he => ?_)
  have hm := hR.subset he
  rcases List.mem_append.1 hm with hm | hm
  · obtain ⟨s, _, rfl⟩ := List.mem_map.1 hm
    exact ⟨by show (3 : Int) ≠ 2; decide, fun _ => by show _ ≤ max now s.frm; omega⟩
  · rw [List.mem_singleton.1 hm]
    exact ⟨by show (1 : Int) ≠ 2; decide, fun h3 => by have : (1 : Int) = 3 := h3; omega⟩

/-! ### The state of one block -/
structure Own1 (S : List Sp) (a k o t : Int) (D : List En) : Prop where
  no : o = 0 → ∀ s ∈ S, ¬ (s.addr = a ∧ s.block = k)
  has : 0 < o → (∃ s ∈ S, s.opn = true ∧ s.addr = a ∧ s.block = k ∧ s.sub = o ∧ s.frm = t) ∧ ∀ s ∈ S, s.addr = a → s.block = k → (s.opn = true → s.sub = o ∧ s.frm = t) ∧ (s.opn = false → s.til < t)
  rest : o = -1 → ∀ s ∈ S, s.addr = a → s.block = k → (s.opn = true → s.frm ≤ t ∧ ∃ e ∈ D, e.addr = a ∧ e.block = k ∧ e.time = s.frm) ∧ (s.opn = false → s.til ≤ t)

theorem Own1.agree {S S' : List Sp} {a k o t : Int} {D : List En} (h : Own1 S a k o t D) (ha : ∀ s : Sp, s.addr = a → s.block = k → (s ∈ S' ↔ s ∈ S)) : Own1 S' a k o t D := by
  refine ⟨fun ho s hs hb => h.no ho s ((ha s hb.1 hb.2).1 hs) hb, fun ho => ?_, fun ho s hs h1 h2 => h.rest ho s ((ha s h1 h2).1 hs) h1 h2⟩
  obtain ⟨⟨s, hs, o1, o2, o3, o4⟩, hall⟩ := h.has ho
  exact ⟨⟨s, (ha s o2 o3).2 hs, o1, o2, o3, o4⟩, fun s hs h1 h2 => hall s ((ha s h1 h2).1 hs) h1 h2⟩

/-- What it takes that nothing is owed. -/
theorem Own1.unowed {S : List Sp} {a k o t : Int} {D D' : List En} (h : Own1 S a k o t D) (hd : o = -1 → ∀ s ∈ S, s.addr = a → s.block = k → s.opn = false) : Own1 S a k o t D' :=
  ⟨h.no, h.has, fun ho s hs h1 h2 => ⟨(fun hop => by rw [hd ho s hs h1 h2] at hop; cases hop), (h.rest ho s hs h1 h2).2⟩⟩

/-- The six blocks. -/
def ka (κ : Nat) : Int := ((κ % 2 : Nat) : Int)
def kb (κ : Nat) : Int := ((κ / 2 : Nat) : Int)

theorem k_inj {κ κ' : Nat} (h1 : ka κ = ka κ') (h2 : kb κ = kb κ') : κ = κ' := by unfold ka at h1; unfold kb at h2; omega

/-- What is seen of them all. -/
structure Seen (S : List Sp) (D : List En) (ow tm : Nat → Int) (now : Int) (A : List Sp) : Prop where
  uq : Uniq S
  glob : ∀ s ∈ S, s.frm ≤ now ∧ (s.opn = false → s.til ≤ now)
  own : ∀ κ, κ < 6 → Own1 S (ka κ) (kb κ) (ow κ) (tm κ) D
  asks : ∀ q ∈ A, AskOK S q

/-- What goes without what is seen. -/
structure Fixed (D : List En) (ow tm : Nat → Int) (now : Int) (A : List Sp) : Prop where
  now0 : 0 ≤ now
  tm0 : ∀ κ, κ < 6 → 0 ≤ tm κ ∧ tm κ ≤ now
  ow3 : ∀ κ, κ < 6 → -2 ≤ ow κ ∧ ow κ ≤ 3
  ask : ∀ q ∈ A, ∃ κ, κ < 6 ∧ q.addr = ka κ ∧ q.block = kb κ ∧ ow κ ≠ 0 ∧ (ow κ = -1 → q.til ≤ tm κ) ∧ 0 ≤ q.frm ∧ q.til ≤ now ∧ 0 ≤ q.sub ∧ q.sub ≤ 3
  debt : ∀ e ∈ D, e.kind = 3 ∧ ∃ κ, κ < 6 ∧ e.addr = ka κ ∧ e.block = kb κ ∧ ow κ = -1 ∧ e.time ≤ tm κ ∧ ∀ q ∈ A, q.addr = e.addr → q.block = e.block → q.til ≤ e.time
  d1 : D.length ≤ 1

def upd (f : Nat → Int) (κ : Nat) (v : Int) : Nat → Int := fun i => if i = κ then v else f i

theorem upd_same (f : Nat → Int) (κ : Nat) (v : Int) : upd f κ v κ = v := if_pos rfl
theorem upd_ne (f : Nat → Int) {κ i : Nat} (v : Int) (h : i ≠ κ) : upd f κ v i = f i := if_neg h

section
variable {S : List Sp} {D : List En} {ow tm : Nat → Int} {now : Int} {A : List Sp}

theorem Seen.now' (h : Seen S D ow tm now A) {now' : Int} (hn : now ≤ now') : Seen S D ow tm now' A :=
  ⟨h.uq, fun s hs => ⟨by have := (h.glob s hs).1; omega, fun ho => by have := (h.glob s hs).2 ho; omega⟩, h.own, h.asks⟩

theorem Fixed.now' (h : Fixed D ow tm now A) {now' : Int} (hn : now ≤ now') : Fixed D ow tm now' A :=
  ⟨by have := h.now0; omega, fun κ hκ => ⟨(h.tm0 κ hκ).1, by have := (h.tm0 κ hκ).2; omega⟩, h.ow3, fun q hq => by
    obtain ⟨κ, a1, a2, a3, a4, a5, a6, a7, a8⟩ := h.ask q hq
    exact ⟨κ, a1, a2, a3, a4, a5, a6, by omega, a8⟩, h.debt, h.d1⟩

theorem glob_rel (h : ∀ s ∈ S, s.frm ≤ now ∧ (s.opn = false → s.til ≤ now)) {e : En} (he : e.kind = 3) (ht : e.time ≤ now) : ∀ s ∈ stepS S e, s.frm ≤ now ∧ (s.opn = false → s.til ≤ now) := by
  rw [step_rel he]
  intro s' hs'
  rcases shut_mem hs' with h' | ⟨s, hs, _, _, _, rfl⟩
  · exact h s' h'
  · have := (h s hs).1
    exact ⟨this, fun _ => by show max s.frm e.time ≤ _; omega⟩

/-- The release that is owed is tried. -/
theorem Seen.owed (h : Seen S D ow tm now A) (hF : Fixed D ow tm now A) {e : En} (he : e ∈ D) : Seen (stepS S e) D ow tm now A ∧ Seen (stepS S e) [] ow tm now A := by
  obtain ⟨hk, κ, k1, k2, k3, k4, k5, k6⟩ := hF.debt e he
  have hD : D = [e] := by
    have := hF.d1
    match D, he, this with
    | [x], he, _ => rw [List.mem_singleton.1 he]
  have hown : ∀ D', ∀ i, i < 6 → Own1 (stepS S e) (ka i) (kb i) (ow i) (tm i) D' := by
    intro D' i hi
    by_cases hik : i = κ
    · subst hik
      refine ⟨fun ho => by omega, fun ho => by omega, fun ho s' hs' h1 h2 => ?_⟩
      rw [step_rel hk] at hs'
      refine ⟨fun hop => absurd ⟨h1.trans k2.symm, h2.trans k3.symm⟩ (shut_none h.uq hs' hop), fun hop => ?_⟩
      rcases shut_mem hs' with h' | ⟨s, hs, o1, o2, o3, rfl⟩
      · exact ((h.own i hi).rest ho s' h' h1 h2).2 hop
      · have := (((h.own i hi).rest ho s hs (o2.trans k2) (o3.trans k3)).1 o1).1
        show max s.frm e.time ≤ _; omega
    · have hne : ¬ (e.addr = ka i ∧ e.block = kb i) := fun hh => hik (k_inj (hh.1.symm.trans k2) (hh.2.symm.trans k3))
      have h1 := (h.own i hi).agree (fun s a1 a2 => step_other hne (S := S) a1 a2)
      refine h1.unowed (fun ho s hs a1 a2 => ?_)
      cases hop : s.opn with
      | false => rfl
      | true =>
        obtain ⟨_, x, hx, x1, x2, _⟩ := (h1.rest ho s hs a1 a2).1 hop
        rw [hD, List.mem_singleton] at hx
        subst hx
        exact absurd ⟨x1, x2⟩ hne
  have hg := glob_rel h.glob hk (by have := (hF.tm0 κ k1).2; omega)
  have ha : ∀ q ∈ A, AskOK (stepS S e) q := fun q hq => (h.asks q hq).rel hk (fun a1 a2 => k6 q hq a1.symm a2.symm)
  exact ⟨⟨uniq_step h.uq e, hg, hown D, ha⟩, ⟨uniq_step h.uq e, hg, hown [], ha⟩⟩

/-- A grant that was not tried. -/
theorem Seen.refused (h : Seen S D ow tm now A) {κ : Nat} (_ : κ < 6) (hc : ow κ = 0 ∨ (ow κ = -1 ∧ tm κ < now)) : Seen S D (upd ow κ (-1)) (upd tm κ now) now A := by
  refine ⟨h.uq, h.glob, fun i hi => ?_, h.asks⟩
  by_cases hik : i = κ
  · subst hik
    rw [upd_same, upd_same]
    have hi1 := h.own i hi
    refine ⟨fun ho => by omega, fun ho => by omega, fun _ s hs h1 h2 => ?_⟩
    rcases hc with hc | ⟨hc, ht⟩
    · exact absurd ⟨h1, h2⟩ (hi1.no hc s hs)
    · obtain ⟨r1, r2⟩ := hi1.rest hc s hs h1 h2
      refine ⟨fun hop => ?_, fun hop => by have := r2 hop; omega⟩
      obtain ⟨x1, x2⟩ := r1 hop
      exact ⟨by omega, x2⟩
  · rw [upd_ne _ _ hik, upd_ne _ _ hik]
    exact h.own i hi

theorem Fixed.refused (h : Fixed D ow tm now A) {κ : Nat} (hκ : κ < 6) (hc : ow κ = 0 ∨ (ow κ = -1 ∧ tm κ < now)) : Fixed D (upd ow κ (-1)) (upd tm κ now) now A := by
  refine ⟨h.now0, fun i hi => ?_, fun i hi => ?_, fun q hq => ?_, fun e he => ?_, h.d1⟩
  · by_cases hik : i = κ
    · subst hik; rw [upd_same]; exact ⟨h.now0, by omega⟩
    · rw [upd_ne _ _ hik]; exact h.tm0 i hi
  · by_cases hik : i = κ
    · subst hik; rw [upd_same]; exact ⟨by omega, by omega⟩
    · rw [upd_ne _ _ hik]; exact h.ow3 i hi
  · obtain ⟨i, a1, a2, a3, a4, a5, a6, a7, a8⟩ := h.ask q hq
    refine ⟨i, a1, a2, a3, ?_, ?_, a6, a7, a8⟩
    · by_cases hik : i = κ
      · subst hik; rw [upd_same]; omega
      · rw [upd_ne _ _ hik]; exact a4
    · by_cases hik : i = κ
      · subst hik; rw [upd_same, upd_same]; exact fun _ => a7
      · rw [upd_ne _ _ hik, upd_ne _ _ hik]; exact a5
  · obtain ⟨hk, i, a1, a2, a3, a4, a5, a6⟩ := h.debt e he
    refine ⟨hk, i, a1, a2, a3, ?_, ?_, a6⟩
    · by_cases hik : i = κ
      · subst hik; rw [upd_same]
      · rw [upd_ne _ _ hik]; exact a4
    · by_cases hik : i = κ
      · subst hik; rw [upd_same]; have := (h.tm0 i a1).2; omega
      · rw [upd_ne _ _ hik]; exact a5

/-- A grant that is found: of an answer OK or not. -/
theorem Seen.granted (h : Seen S [] ow tm now A) (hF : Fixed [] ow tm now A) {κ : Nat} (hκ : κ < 6) (hc : ow κ = 0 ∨ (ow κ = -1 ∧ tm κ < now)) {e : En} (he : e.kind = 2) (h1 : e.addr = ka κ) (h2 : e.block = kb κ) (ht : e.time = now) :
    Seen (stepS S e) [relE e] (upd ow κ (-1)) (upd tm κ now) now A ∧ (0 < e.sub → Seen (stepS S e) [] (upd ow κ e.sub) (upd tm κ now) now A) := by
  have hno : ∀ s ∈ S, s.addr = e.addr → s.block = e.block → s.opn = false := by
    intro s hs a1 a2
    cases hop : s.opn with
    | false => rfl
    | true =>
      rcases hc with hc | ⟨hc, _⟩
      · exact absurd ⟨a1.trans h1, a2.trans h2⟩ ((h.own κ hκ).no hc s hs)
      · obtain ⟨_, x, hx, _⟩ := ((h.own κ hκ).rest hc s hs (a1.trans h1) (a2.trans h2)).1 hop
        cases hx
  have hst : stepS S e = S ++ [newS e] := by rw [step_grant he, openI_no hno]; rfl
  have hcl : ∀ s ∈ S, s.addr = ka κ → s.block = kb κ → s.til < now := by
    intro s hs a1 a2
    rcases hc with hc | ⟨hc, hlt⟩
    · exact absurd ⟨a1, a2⟩ ((h.own κ hκ).no hc s hs)
    · have := ((h.own κ hκ).rest hc s hs a1 a2).2 (hno s hs (a1.trans h1.symm) (a2.trans h2.symm)); omega
  have hg : ∀ s ∈ stepS S e, s.frm ≤ now ∧ (s.opn = false → s.til ≤ now) := by
    intro s hs
    rw [hst] at hs
    rcases List.mem_append.1 hs with hs | hs
    · exact h.glob s hs
    · rw [List.mem_singleton.1 hs]
      exact ⟨by show e.time ≤ _; omega, fun ho => by cases ho⟩
  have ha : ∀ q ∈ A, AskOK (stepS S e) q := by
    intro q hq
    refine (h.asks q hq).grant he (fun a1 a2 => ⟨?_, hno⟩)
    obtain ⟨i, b1, b2, b3, b4, b5, _⟩ := hF.ask q hq
    have hik : i = κ := k_inj (b2.symm.trans (a1.symm.trans h1)) (b3.symm.trans (a2.symm.trans h2))
    subst hik
    rcases hc with hc | ⟨hc, hlt⟩
    · exact absurd hc b4
    · have := b5 hc; omega
  have hoth : ∀ D' i, i < 6 → i ≠ κ → Own1 (stepS S e) (ka i) (kb i) (ow i) (tm i) D' := by
    intro D' i hi hik
    have hne : ¬ (e.addr = ka i ∧ e.block = kb i) := fun hh => hik (k_inj (hh.1.symm.trans h1) (hh.2.symm.trans h2))
    have g1 := (h.own i hi).agree (fun s a1 a2 => step_other hne (S := S) a1 a2)
    refine g1.unowed (fun ho s hs a1 a2 => ?_)
    cases hop : s.opn with
    | false => rfl
    | true => obtain ⟨_, x, hx, _⟩ := (g1.rest ho s hs a1 a2).1 hop; cases hx
  refine ⟨⟨uniq_step h.uq e, hg, fun i hi => ?_, ha⟩, fun hs0 => ⟨uniq_step h.uq e, hg, fun i hi => ?_, ha⟩⟩
  · by_cases hik : i = κ
    · subst hik
      rw [upd_same, upd_same]
      refine ⟨fun ho => by omega, fun ho => by omega, fun _ s hs a1 a2 => ?_⟩
      rw [hst] at hs
      rcases List.mem_append.1 hs with hs | hs
      · refine ⟨(fun hop => by rw [hno s hs (a1.trans h1.symm) (a2.trans h2.symm)] at hop; cases hop), fun _ => by have := hcl s hs a1 a2; omega⟩
      · rw [List.mem_singleton.1 hs]
        exact ⟨fun _ => ⟨by show e.time ≤ _; omega, relE e, List.mem_singleton.2 rfl, h1, h2, rfl⟩, fun ho => by cases ho⟩
    · rw [upd_ne _ _ hik, upd_ne _ _ hik]; exact hoth _ i hi hik
  · by_cases hik : i = κ
    · subst hik
      rw [upd_same, upd_same]
      refine ⟨fun ho => by omega, fun _ => ⟨⟨newS e, by rw [hst]; simp, rfl, h1, h2, rfl, ht⟩, fun s hs a1 a2 => ?_⟩, fun ho => by omega⟩
      rw [hst] at hs
      rcases List.mem_append.1 hs with hs | hs
      · refine ⟨(fun hop => by rw [hno s hs (a1.trans h1.symm) (a2.trans h2.symm)] at hop; cases hop), fun _ => hcl s hs a1 a2⟩
      · rw [List.mem_singleton.1 hs]
        exact ⟨fun _ => ⟨rfl, ht⟩, fun ho => by cases ho⟩
    · rw [upd_ne _ _ hik, upd_ne _ _ hik]; exact hoth _ i hi hik

theorem Fixed.granted (h : Fixed [] ow tm now A) {κ : Nat} (hκ : κ < 6) (hc : ow κ = 0 ∨ (ow κ = -1 ∧ tm κ < now)) {e : En} (h1 : e.addr = ka κ) (h2 : e.block = kb κ) (ht : e.time = now) :
    Fixed [relE e] (upd ow κ (-1)) (upd tm κ now) now A ∧ (0 < e.sub → e.sub ≤ 3 → Fixed [] (upd ow κ e.sub) (upd tm κ now) now A) := by
  have hr := h.refused hκ hc
  have hq : ∀ q ∈ A, q.addr = e.addr → q.block = e.block → q.til < now := by
    intro q hq a1 a2
    obtain ⟨i, b1, b2, b3, b4, b5, _⟩ := h.ask q hq
    have hik : i = κ := k_inj (b2.symm.trans (a1.trans h1)) (b3.symm.trans (a2.trans h2))
    subst hik
    rcases hc with hc | ⟨hc, hlt⟩
    · exact absurd hc b4
    · have := b5 hc; omega
  refine ⟨⟨hr.now0, hr.tm0, hr.ow3, hr.ask, fun x hx => ?_, Nat.le_refl _⟩, fun hs0 hs3 => ⟨h.now0, hr.tm0, fun i hi => ?_, fun q hq' => ?_, (fun x hx => by cases hx), Nat.zero_le _⟩⟩
  · rw [List.mem_singleton.1 hx]
    refine ⟨rfl, κ, hκ, h1, h2, by rw [upd_same], by rw [upd_same]; show e.time ≤ _; omega, fun q hq' a1 a2 => ?_⟩
    have := hq q hq' a1 a2
    show _ ≤ e.time; omega
  · by_cases hik : i = κ
    · subst hik; rw [upd_same]; omega
    · rw [upd_ne _ _ hik]; exact h.ow3 i hi
  · obtain ⟨i, a1, a2, a3, a4, a5, a6⟩ := h.ask q hq'
    refine ⟨i, a1, a2, a3, ?_, ?_, a6⟩
    · by_cases hik : i = κ
      · subst hik; rw [upd_same]; omega
      · rw [upd_ne _ _ hik]; exact a4
    · by_cases hik : i = κ
      · subst hik; rw [upd_same]; intro ho; omega
      · rw [upd_ne _ _ hik, upd_ne _ _ hik]; exact a5

/-- It is asked for. -/
def askS (o : Int) (κ : Nat) (t now : Int) : Sp := ⟨o, ka κ, kb κ, t, now, false⟩

theorem Seen.asked (h : Seen S D ow tm now A) (hF : Fixed D ow tm now A) {κ : Nat} (hκ : κ < 6) (ho : 0 < ow κ) : AskOK S (askS (ow κ) κ (tm κ) now) := by
  obtain ⟨⟨s, hs, o1, o2, o3, o4, o5⟩, hall⟩ := (h.own κ hκ).has ho
  refine ⟨(hF.tm0 κ hκ).2, ⟨s, hs, o2, o3, o4, by show s.frm ≤ tm κ; omega, .inl o1⟩, fun u hu a1 a2 _ a4 => ?_⟩
  obtain ⟨g1, g2⟩ := hall u hu a1 a2
  rcases a4 with a4 | a4
  · exact (g1 a4).1
  · cases hop : u.opn with
    | true => exact (g1 hop).1
    | false => have := g2 hop; have : tm κ ≤ u.til := a4; omega

theorem Seen.leave (h : Seen S D ow tm now A) (hF : Fixed D ow tm now A) {κ : Nat} (hκ : κ < 6) (ho : 0 < ow κ) : Seen S D (upd ow κ (-2)) tm now (A ++ [askS (ow κ) κ (tm κ) now]) := by
  refine ⟨h.uq, h.glob, fun i hi => ?_, fun q hq => ?_⟩
  · by_cases hik : i = κ
    · subst hik; rw [upd_same]; exact ⟨fun h => by omega, fun h => by omega, fun h => by omega⟩
    · rw [upd_ne _ _ hik]; exact h.own i hi
  · rcases List.mem_append.1 hq with hq | hq
    · exact h.asks q hq
    · rw [List.mem_singleton.1 hq]; exact h.asked hF hκ ho

theorem Fixed.leave (h : Fixed D ow tm now A) {κ : Nat} (hκ : κ < 6) (ho : 0 < ow κ) : Fixed D (upd ow κ (-2)) tm now (A ++ [askS (ow κ) κ (tm κ) now]) := by
  refine ⟨h.now0, h.tm0, fun i hi => ?_, fun q hq => ?_, fun e he => ?_, h.d1⟩
  · by_cases hik : i = κ
    · subst hik; rw [upd_same]; omega
    · rw [upd_ne _ _ hik]; exact h.ow3 i hi
  · rcases List.mem_append.1 hq with hq | hq
    · obtain ⟨i, a1, a2, a3, a4, a5, a6⟩ := h.ask q hq
      refine ⟨i, a1, a2, a3, ?_, ?_, a6⟩
      · by_cases hik : i = κ
        · subst hik; rw [upd_same]; omega
        · rw [upd_ne _ _ hik]; exact a4
      · by_cases hik : i = κ
        · subst hik; rw [upd_same]; intro h; omega
        · rw [upd_ne _ _ hik]; exact a5
    · rw [List.mem_singleton.1 hq]
      have := h.tm0 κ hκ
      have := h.ow3 κ hκ
      exact ⟨κ, hκ, rfl, rfl, by rw [upd_same]; omega, by rw [upd_same]; intro h; omega, by show 0 ≤ tm κ; omega, Int.le_refl _, by show 0 ≤ ow κ; omega, by show ow κ ≤ 3; omega⟩
  · obtain ⟨hk, i, a1, a2, a3, a4, a5, a6⟩ := h.debt e he
    have hik : i ≠ κ := fun hh => by subst hh; omega
    refine ⟨hk, i, a1, a2, a3, by rw [upd_ne _ _ hik]; exact a4, a5, fun q hq b1 b2 => ?_⟩
    rcases List.mem_append.1 hq with hq | hq
    · exact a6 q hq b1 b2
    · rw [List.mem_singleton.1 hq] at b1 b2
      exact absurd (k_inj (a2.symm.trans b1.symm) (a3.symm.trans b2.symm)) hik

/-- A release that is found: of an answer OK or not. -/
theorem Seen.released (h : Seen S [] ow tm now A) (hF : Fixed [] ow tm now A) {κ : Nat} (_ : κ < 6) (ho : ow κ = -2) {e : En} (he : e.kind = 3) (h1 : e.addr = ka κ) (h2 : e.block = kb κ) (ht : e.time = now) :
    Seen (stepS S e) [] ow tm now A ∧ Seen (stepS S e) [] (upd ow κ (-1)) (upd tm κ now) now A := by
  have hg := glob_rel h.glob he (by omega)
  have ha : ∀ q ∈ A, AskOK (stepS S e) q := fun q hq => (h.asks q hq).rel he (fun _ _ => by
    obtain ⟨_, _, _, _, _, _, _, a7, _⟩ := hF.ask q hq
    omega)
  have hoth : ∀ i, i < 6 → i ≠ κ → Own1 (stepS S e) (ka i) (kb i) (ow i) (tm i) [] := fun i hi hik =>
    (h.own i hi).agree (fun s a1 a2 => step_other (fun hh => hik (k_inj (hh.1.symm.trans h1) (hh.2.symm.trans h2))) (S := S) a1 a2)
  refine ⟨⟨uniq_step h.uq e, hg, fun i hi => ?_, ha⟩, ⟨uniq_step h.uq e, hg, fun i hi => ?_, ha⟩⟩
  · by_cases hik : i = κ
    · subst hik; rw [ho]; exact ⟨fun h => by omega, fun h => by omega, fun h => by omega⟩
    · exact hoth i hi hik
  · by_cases hik : i = κ
    · subst hik
      rw [upd_same, upd_same]
      refine ⟨fun h => by omega, fun h => by omega, fun _ s hs a1 a2 => ⟨fun hop => ?_, fun hop => (hg s hs).2 hop⟩⟩
      rw [step_rel he] at hs
      exact absurd ⟨a1.trans h1.symm, a2.trans h2.symm⟩ (shut_none h.uq hs hop)
    · rw [upd_ne _ _ hik, upd_ne _ _ hik]; exact hoth i hi hik

theorem Fixed.released (h : Fixed D ow tm now A) {κ : Nat} (hκ : κ < 6) (ho : ow κ = -2) : Fixed D (upd ow κ (-1)) (upd tm κ now) now A := by
  refine ⟨h.now0, fun i hi => ?_, fun i hi => ?_, fun q hq => ?_, fun e he => ?_, h.d1⟩
  · by_cases hik : i = κ
    · subst hik; rw [upd_same]; exact ⟨h.now0, by omega⟩
    · rw [upd_ne _ _ hik]; exact h.tm0 i hi
  · by_cases hik : i = κ
    · subst hik; rw [upd_same]; exact ⟨by omega, by omega⟩
    · rw [upd_ne _ _ hik]; exact h.ow3 i hi
  · obtain ⟨i, a1, a2, a3, a4, a5, a6, a7, a8⟩ := h.ask q hq
    refine ⟨i, a1, a2, a3, ?_, ?_, a6, a7, a8⟩
    · by_cases hik : i = κ
      · subst hik; rw [upd_same]; omega
      · rw [upd_ne _ _ hik]; exact a4
    · by_cases hik : i = κ
      · subst hik; rw [upd_same, upd_same]; exact fun _ => a7
      · rw [upd_ne _ _ hik, upd_ne _ _ hik]; exact a5
  · obtain ⟨hk, i, a1, a2, a3, a4, a5, a6⟩ := h.debt e he
    have hik : i ≠ κ := fun hh => by subst hh; omega
    exact ⟨hk, i, a1, a2, a3, by rw [upd_ne _ _ hik]; exact a4, by rw [upd_ne _ _ hik]; exact a5, a6⟩

theorem Fixed.paid (h : Fixed D ow tm now A) : Fixed [] ow tm now A := ⟨h.now0, h.tm0, h.ow3, h.ask, (fun x hx => by cases hx), Nat.zero_le _⟩

end

end Go.Proofs.YtafkkehcacdodaaGreat

namespace Go.Proofs.YtafkkehcacdodaaGreat
open Go.RowKit

theorem btw_split {A B : List Tr} : ∀ {h : List (List Int)}, Btw h (A ++ B) → ∃ h1 h2, h = h1 ++ h2 ∧ Btw h1 A ∧ Btw h2 B := by
  induction A with
  | nil => intro h hb; exact ⟨[], h, rfl, .nil, hb⟩
  | cons x A ih =>
    intro h hb
    cases hb with
    | skip _ hx hb =>
      obtain ⟨h1, h2, rfl, e1, e2⟩ := ih hb
      exact ⟨h1, h2, rfl, .skip x hx e1, e2⟩
    | take _ hb =>
      obtain ⟨h1, h2, rfl, e1, e2⟩ := ih hb
      exact ⟨x.b :: h1, h2, rfl, .take x e1, e2⟩

theorem btw_unsured {G : List Tr} : ∀ {h : List (List Int)}, SuFi G → Btw h (G.map Tr.sured) → Btw h G := by
  induction G with
  | nil => intro h _ hb; exact hb
  | cons x G ih =>
    intro h hs hb
    have hs' : SuFi G := fun y hy => hs y (by simp [hy])
    rw [List.map_cons] at hb
    cases hb with
    | skip _ hx hb =>
      refine .skip x ?_ (ih hs' hb)
      have hx' : x.fi = false := hx
      cases hsu : x.su with
      | false => rfl
      | true => rw [hs x (by simp) hsu] at hx'; cases hx'
    | take _ hb => exact .take x (ih hs' hb)

theorem foundE_app (a b : List (List Int)) : foundE (a ++ b) = foundE a ++ foundE b := by
  unfold foundE
  rw [List.filter_append, List.map_append]

theorem Fine.sub {l m : List En} (h : Fine m) (hs : l.Sublist m) : Fine l := fun e he => h e (hs.subset he)

/-- What is found behind a write. -/
theorem wrt_found {s : St} {t : Sd} {l : List En} {G : List Tr} (hs : SuFi G) (hf : Fine l) {hh : List (List Int)} (hb : Btw hh (wrtG s t l G)) :
    ∃ h1 l2, Btw h1 G ∧ foundE hh = foundE h1 ++ l2 ∧ l2.Sublist l ∧ (wrtE s t l = 0 → l2 = l) ∧ (wrtE s t l = 6 → l.length = 1 → l2 = []) := by
  obtain ⟨R, r1, r2, r3, r4⟩ := wrtG_shape l s t G
  rcases r4 with ⟨e0, e1, e2, e3⟩ | ⟨e0, e1, e6⟩
  · rw [e3, List.map_append] at hb
    obtain ⟨h1, h2, rfl, b1, b2⟩ := btw_split hb
    have hall := btw_all b2 (fun x hx => by obtain ⟨y, hy, rfl⟩ := List.mem_map.1 hx; exact e2 y hy)
    rw [List.map_map, show Tr.b ∘ Tr.sured = Tr.b from rfl, r2, e1, List.take_length] at hall
    have h2e : foundE h2 = l := by rw [hall]; exact found_bytes hf
    refine ⟨h1, l, btw_unsured hs b1, by rw [foundE_app, h2e], List.Sublist.refl _, fun _ => rfl, fun h6 => ?_⟩
    rw [e0] at h6; cases h6
  · rw [e1] at hb
    obtain ⟨h1, h2, rfl, b1, b2⟩ := btw_split hb
    refine ⟨h1, foundE h2, b1, foundE_app _ _, ?_, fun hz => absurd hz e0, fun h6 hl => ?_⟩
    · have h3 := found_sub (btw_sub b2)
      rw [r2, found_bytes (hf.sub (List.take_sublist _ _))] at h3
      exact h3.trans (List.take_sublist _ _)
    · rw [e6 h6 hl] at b2
      cases b2
      rfl

/-- What is told, whatever is found. -/
structure Told (G : List Tr) (D : List En) (ow tm : Nat → Int) (now : Int) (A : List Sp) : Prop where
  fx : Fixed D ow tm now A
  sn : ∀ hh, Btw hh G → Seen (spans (foundE hh)) D ow tm now A

theorem Seen.owe {S : List Sp} {ow tm : Nat → Int} {now : Int} {A : List Sp} (h : Seen S [] ow tm now A) (D : List En) : Seen S D ow tm now A :=
  ⟨h.uq, h.glob, fun i hi => (h.own i hi).unowed (fun ho s hs h1 h2 => by
    cases hop : s.opn with
    | false => rfl
    | true => obtain ⟨_, x, hx, _⟩ := ((h.own i hi).rest ho s hs h1 h2).1 hop; cases hx), h.asks⟩

theorem sub_one {e : En} {l : List En} (h : l.Sublist [e]) : l = [] ∨ l = [e] := by
  cases h with
  | cons _ h => exact .inl (List.sublist_nil.1 h)
  | cons_cons _ h => exact .inr (by rw [List.sublist_nil.1 h])

section
variable {G : List Tr} {ow tm : Nat → Int} {now : Int} {A : List Sp} {b : Bm} {q : Nat}

theorem Told.now' {D : List En} (h : Told G D ow tm now A) {now' : Int} (hn : now ≤ now') : Told G D ow tm now' A :=
  ⟨h.fx.now' hn, fun hh hb => (h.sn hh hb).now' hn⟩

theorem Told.pay (hb : b.Ok q) (hs : SuFi G) (h : Told G b.D ow tm now A) : (b.payE = 0 → Told (b.payG G) [] ow tm now A) ∧ (b.payE ≠ 0 → Told (b.payG G) b.pay.D ow tm now A) := by
  unfold Bm.payE Bm.payG Bm.pay
  by_cases hD : b.D = []
  · rw [if_pos hD, if_pos hD, if_pos hD]
    rw [hD] at h
    exact ⟨fun _ => h, fun hz => absurd rfl hz⟩
  · rw [if_neg hD, if_neg hD, if_neg hD]
    obtain ⟨e, he⟩ : ∃ e, b.D = [e] := by
      have h1 := hb.d1
      match hd : b.D, h1 with
      | [], _ => exact absurd hd hD
      | [x], _ => exact ⟨x, rfl⟩
    have hf := hb.fD
    have hmem : e ∈ b.D := by rw [he]; simp
    have hcase : ∀ hh, Btw hh (wrtG b.s b.t b.D G) → ∃ h1, Btw h1 G ∧ ((foundE hh = foundE h1 ∧ wrtE b.s b.t b.D ≠ 0) ∨ foundE hh = foundE h1 ++ [e]) := by
      intro hh hbw
      obtain ⟨h1, l2, b1, b2, b3, b4, _⟩ := wrt_found hs hf hbw
      rw [he] at b3
      rcases sub_one b3 with rfl | rfl
      · refine ⟨h1, b1, .inl ⟨by rw [b2, List.append_nil], fun hz => ?_⟩⟩
        have := b4 hz
        rw [he] at this; cases this
      · exact ⟨h1, b1, .inr b2⟩
    refine ⟨fun hz => ⟨h.fx.paid, fun hh hbw => ?_⟩, fun hz => ?_⟩
    · obtain ⟨h1, b1, b2⟩ := hcase hh hbw
      rcases b2 with ⟨_, b3⟩ | b2
      · exact absurd hz b3
      · rw [b2, spans_snoc]
        exact ((h.sn h1 b1).owed h.fx hmem).2
    · have hDD : b.paid.D = b.D := if_neg hz
      rw [hDD]
      refine ⟨h.fx, fun hh hbw => ?_⟩
      obtain ⟨h1, b1, b2⟩ := hcase hh hbw
      rcases b2 with ⟨b2, _⟩ | b2
      · rw [b2]; exact h.sn h1 b1
      · rw [b2, spans_snoc]
        exact ((h.sn h1 b1).owed h.fx hmem).1

theorem Told.grant (hb : b.Ok q) (hs : SuFi G) (h : Told G b.D ow tm now A) {κ : Nat} (hκ : κ < 6) (hc : ow κ = 0 ∨ (ow κ = -1 ∧ tm κ < now)) {sub : Int} (h0 : 0 < sub) (h3 : sub ≤ 3) (hok : En.Ok ⟨2, now, sub, ka κ, kb κ⟩) :
    Told (b.putG ⟨2, now, sub, ka κ, kb κ⟩ G) (b.put ⟨2, now, sub, ka κ, kb κ⟩).D (if b.putE ⟨2, now, sub, ka κ, kb κ⟩ = 0 then upd ow κ sub else upd ow κ (-1)) (upd tm κ now) now A := by
  obtain ⟨e, he⟩ : ∃ e : En, e = ⟨2, now, sub, ka κ, kb κ⟩ := ⟨_, rfl⟩
  rw [← he] at hok ⊢
  have hk : e.kind = 2 := by rw [he]
  have ha : e.addr = ka κ := by rw [he]
  have hbl : e.block = kb κ := by rw [he]
  have ht : e.time = now := by rw [he]
  have hsu : e.sub = sub := by rw [he]
  obtain ⟨p1, p2⟩ := h.pay hb hs
  have hsp := (payG_grew hb hs).sf
  unfold Bm.putG Bm.put Bm.putE
  by_cases hck : checkE e ≠ 0
  · rw [if_pos hck, if_pos hck, if_pos hck, if_neg hck]
    exact ⟨h.fx.refused hκ hc, fun hh hbw => (h.sn hh hbw).refused hκ hc⟩
  · rw [if_neg hck, if_neg hck, if_neg hck]
    have hmay : e.May := checkE_zero (by simpa using hck)
    by_cases hpy : b.payE ≠ 0
    · rw [if_pos hpy, if_pos hpy, if_pos hpy, if_neg hpy]
      have hp := p2 hpy
      exact ⟨hp.fx.refused hκ hc, fun hh hbw => (hp.sn hh hbw).refused hκ hc⟩
    · rw [if_neg hpy, if_neg hpy, if_neg hpy]
      have hp := p1 (by simpa using hpy)
      have hDn : b.pay.D = [] := hb.pay.2.2 (by simpa using hpy)
      have hfe : Fine [e] := .one hmay hok
      have hWD : (b.pay.wrote e).D = if wrtE b.pay.s b.pay.t [e] ≠ 0 ∧ e.kind = 2 ∧ wrtE b.pay.s b.pay.t [e] ≠ 6 then b.pay.D ++ [relE e] else b.pay.D := rfl
      rw [hWD, hDn]
      by_cases hz : wrtE b.pay.s b.pay.t [e] = 0
      · rw [if_pos hz, if_neg (fun hh => hh.1 hz)]
        refine ⟨by rw [← hsu]; exact (hp.fx.granted hκ hc ha hbl ht).2 (by omega) (by omega), fun hh hbw => ?_⟩
        obtain ⟨h1, l2, b1, b2, _, b4, _⟩ := wrt_found hsp hfe hbw
        rw [b2, b4 hz, spans_snoc, ← hsu]
        exact ((hp.sn h1 b1).granted hp.fx hκ hc hk ha hbl ht).2 (by omega)
      · rw [if_neg hz]
        by_cases h6 : wrtE b.pay.s b.pay.t [e] = 6
        · rw [if_neg (fun hh => hh.2.2 h6)]
          refine ⟨hp.fx.refused hκ hc, fun hh hbw => ?_⟩
          obtain ⟨h1, l2, b1, b2, _, _, b5⟩ := wrt_found hsp hfe hbw
          rw [b2, b5 h6 rfl, List.append_nil]
          exact (hp.sn h1 b1).refused hκ hc
        · rw [if_pos ⟨hz, hk, h6⟩, List.nil_append]
          refine ⟨(hp.fx.granted hκ hc ha hbl ht).1, fun hh hbw => ?_⟩
          obtain ⟨h1, l2, b1, b2, b3, _, _⟩ := wrt_found hsp hfe hbw
          rcases sub_one b3 with rfl | rfl
          · rw [b2, List.append_nil]
            exact ((hp.sn h1 b1).refused hκ hc).owe _
          · rw [b2, spans_snoc]
            exact ((hp.sn h1 b1).granted hp.fx hκ hc hk ha hbl ht).1

theorem Told.leave {D : List En} (h : Told G D ow tm now A) {κ : Nat} (hκ : κ < 6) (ho : 0 < ow κ) : Told G D (upd ow κ (-2)) tm now (A ++ [askS (ow κ) κ (tm κ) now]) :=
  ⟨h.fx.leave hκ ho, fun hh hb => (h.sn hh hb).leave h.fx hκ ho⟩

theorem Told.release (hb : b.Ok q) (hs : SuFi G) (h : Told G b.D ow tm now A) {κ : Nat} (hκ : κ < 6) (ho : ow κ = -2) (hok : En.Ok ⟨3, now, 0, ka κ, kb κ⟩) :
    (b.putE ⟨3, now, 0, ka κ, kb κ⟩ = 0 → Told (b.putG ⟨3, now, 0, ka κ, kb κ⟩ G) (b.put ⟨3, now, 0, ka κ, kb κ⟩).D (upd ow κ (-1)) (upd tm κ now) now A) ∧
    (b.putE ⟨3, now, 0, ka κ, kb κ⟩ ≠ 0 → Told (b.putG ⟨3, now, 0, ka κ, kb κ⟩ G) (b.put ⟨3, now, 0, ka κ, kb κ⟩).D ow tm now A) := by
  obtain ⟨e, he⟩ : ∃ e : En, e = ⟨3, now, 0, ka κ, kb κ⟩ := ⟨_, rfl⟩
  rw [← he] at hok ⊢
  have hk : e.kind = 3 := by rw [he]
  have ha : e.addr = ka κ := by rw [he]
  have hbl : e.block = kb κ := by rw [he]
  have ht : e.time = now := by rw [he]
  obtain ⟨p1, p2⟩ := h.pay hb hs
  have hsp := (payG_grew hb hs).sf
  unfold Bm.putG Bm.put Bm.putE
  by_cases hck : checkE e ≠ 0
  · rw [if_pos hck, if_pos hck, if_pos hck]
    exact ⟨fun hz => absurd hz hck, fun _ => h⟩
  · rw [if_neg hck, if_neg hck, if_neg hck]
    have hmay : e.May := checkE_zero (by simpa using hck)
    by_cases hpy : b.payE ≠ 0
    · rw [if_pos hpy, if_pos hpy, if_pos hpy]
      exact ⟨fun hz => absurd hz hpy, fun _ => p2 hpy⟩
    · rw [if_neg hpy, if_neg hpy, if_neg hpy]
      have hp := p1 (by simpa using hpy)
      have hDn : b.pay.D = [] := hb.pay.2.2 (by simpa using hpy)
      have hfe : Fine [e] := .one hmay hok
      have hWD : (b.pay.wrote e).D = [] := by
        show (if wrtE b.pay.s b.pay.t [e] ≠ 0 ∧ e.kind = 2 ∧ wrtE b.pay.s b.pay.t [e] ≠ 6 then b.pay.D ++ [relE e] else b.pay.D) = []
        rw [if_neg (fun hh => by have := hh.2.1; omega), hDn]
      rw [hWD]
      refine ⟨fun hz => ⟨hp.fx.released hκ ho, fun hh hbw => ?_⟩, fun hz => ⟨hp.fx, fun hh hbw => ?_⟩⟩
      · obtain ⟨h1, l2, b1, b2, _, b4, _⟩ := wrt_found hsp hfe hbw
        rw [b2, b4 hz, spans_snoc]
        exact ((hp.sn h1 b1).released hp.fx hκ ho hk ha hbl ht).2
      · obtain ⟨h1, l2, b1, b2, b3, _, _⟩ := wrt_found hsp hfe hbw
        rcases sub_one b3 with rfl | rfl
        · rw [b2, List.append_nil]
          exact hp.sn h1 b1
        · rw [b2, spans_snoc]
          exact ((hp.sn h1 b1).released hp.fx hκ ho hk ha hbl ht).1

/-- What is still held is asked for up to the end. -/
def lastA (ow tm : Nat → Int) (now : Int) (k : Nat) : List Sp := (List.range k).flatMap fun κ => if 0 < ow κ then [askS (ow κ) κ (tm κ) now] else []

theorem lastA_succ (ow tm : Nat → Int) (now : Int) (k : Nat) : lastA ow tm now (k + 1) = lastA ow tm now k ++ (if 0 < ow k then [askS (ow k) k (tm k) now] else []) := by
  unfold lastA
  rw [List.range_succ, List.flatMap_append, List.flatMap_cons, List.flatMap_nil, List.append_nil]

theorem lastA_len (ow tm : Nat → Int) (now : Int) (k : Nat) : (lastA ow tm now k).length ≤ k := by
  induction k with
  | zero => simp [lastA]
  | succ k ih =>
    rw [lastA_succ, List.length_append]
    split <;> simp <;> omega

/-- An ask's numbers. -/
structure AskN (now : Int) (q : Sp) : Prop where
  a : 0 ≤ q.addr ∧ q.addr < 4294967296
  k : 0 ≤ q.block ∧ q.block ≤ 10
  s : 0 ≤ q.sub ∧ q.sub ≤ 3
  f : 0 ≤ q.frm
  ft : q.frm ≤ q.til
  t : q.til ≤ now

theorem Told.last {D : List En} (h : Told G D ow tm now A) {hh : List (List Int)} (hb : Btw hh G) {now2 : Int} (hn : now ≤ now2) {R : List En} (hR : R.Sublist (moreE (foundE hh) now2)) : ∀ q ∈ A ++ lastA ow tm now 6, AskOK (spans (foundE hh ++ R)) q ∧ AskN now q := by
  have hS := h.sn hh hb
  intro q hq
  have hmain : AskOK (spans (foundE hh)) q ∧ q.til ≤ now ∧ ∃ κ, κ < 6 ∧ q.addr = ka κ ∧ q.block = kb κ ∧ 0 ≤ q.frm ∧ 0 ≤ q.sub ∧ q.sub ≤ 3 := by
    rcases List.mem_append.1 hq with hq | hq
    · obtain ⟨κ, a1, a2, a3, _, _, a6, a7, a8, a9⟩ := h.fx.ask q hq
      exact ⟨hS.asks q hq, a7, κ, a1, a2, a3, a6, a8, a9⟩
    · obtain ⟨κ, hκ, hq⟩ := List.mem_flatMap.1 hq
      have hκ6 := List.mem_range.1 hκ
      split at hq
      · rename_i ho
        rw [List.mem_singleton.1 hq]
        have := h.fx.tm0 κ hκ6
        have := h.fx.ow3 κ hκ6
        exact ⟨hS.asked h.fx hκ6 ho, Int.le_refl _, κ, hκ6, rfl, rfl, by show 0 ≤ tm κ; omega, by show 0 ≤ ow κ; omega, by show ow κ ≤ 3; omega⟩
      · cases hq
  obtain ⟨h1, h2, κ, h3, h4, h5, h6, h7, h8⟩ := hmain
  refine ⟨h1.opened (by omega) hR, ?_, ?_, ⟨h7, h8⟩, h6, h1.le, h2⟩
  · rw [h4]; unfold ka; omega
  · rw [h5]; unfold kb; omega

end

/-- At the start: nothing is held. -/
theorem told_new (n : Nat) : Told (wrtG (St.new n) ⟨0, 0, []⟩ [bootE 0] []) [] (fun _ => 0) (fun _ => 0) 0 [] := by
  refine ⟨⟨Int.le_refl _, fun κ _ => ⟨Int.le_refl _, Int.le_refl _⟩, fun κ _ => ⟨by omega, by omega⟩, (fun q hq => by cases hq), (fun e he => by cases he), Nat.zero_le _⟩, fun hh hb => ?_⟩
  have hf : Fine [bootE 0] := .one (goodT_boot.1 (by decide)) (boot_okE (Int.le_refl _) (by omega))
  obtain ⟨h1, l2, b1, b2, b3, _, _⟩ := wrt_found (fun x hx => by cases hx) hf hb
  cases b1
  have hs : spans (foundE hh) = [] := by
    rw [b2]
    rcases sub_one b3 with rfl | rfl
    · rfl
    · show spans ([] ++ [bootE 0]) = []
      rw [spans_boot]; rfl
  rw [hs]
  exact ⟨uniq_nil, (fun s hs => by cases hs), fun κ _ => ⟨(fun _ s hs => by cases hs), fun ho => absurd ho (by decide), fun ho => absurd ho (by decide)⟩, fun q hq => by cases hq⟩

end Go.Proofs.YtafkkehcacdodaaGreat

namespace Go.Proofs.YtafkkehcacdodaaGreat
open Go.ChangeShapes Go.WideShapes Go.ChangeAt Go.RowKit Go.Shelf

/-- Outcomes, with a book on the disk. -/
theorem boutcomes_ok (w : World) (tag : Nat → Nat) (base o D B : Nat) (b : Bm) (h : BK w tag base o D B b) (hbase : base ≤ w.heap.size) (v : Value) (l : List Int) (hv : Bts w v l) (hout : b.s.outs.length + l.length ≤ 1000000) :
    Calls Tryz.prog 11 #[.pointer (some ⟨D, 0, none⟩), v] w fun e w' => e = .returned (.tuple #[]) ∧ ∃ tag', StepR tag tag' base o o w w' ∧ BK w' tag' base o D B ⟨b.s.add l, b.t, b.L, b.D⟩ := by
  obtain ⟨p, q, kv, dv, h0, h1, h2, h3⟩ := h
  refine (outcomes_okD w tag base o b.s p h1 hbase v l hv hout D h0).mono ?_
  rintro e w' ⟨rfl, p', tag', k0, k1, k2⟩
  have hS := k2.range (Nat.le_refl o) (Nat.le_refl o)
  exact ⟨rfl, tag', hS, p', q, kv, dv, k0, k1, h2.otherR hS (by omega), h3.otherR hS (by omega)⟩

/-- Are two entries one? -/
def sameE (a b : En) : Bool := a.kind == b.kind && (a.time == b.time && (a.sub == b.sub && (a.addr == b.addr && a.block == b.block)))

theorem sameE_iff (a b : En) : sameE a b = true ↔ a = b := by
  obtain ⟨a0, a1, a2, a3, a4⟩ := a
  obtain ⟨b0, b1, b2, b3, b4⟩ := b
  simp [sameE]

theorem eqE5 (a b : En) (w : World) : (binOp .eql 73 (enV a) (enV b)).run Tryz.prog w = .ok (.bool (sameE a b)) w := by
  have hS : Tryz.prog.underlying 73 = some (.struct (Tryz.prog.fieldsOf 73)) := by kernel_rfl
  have hp : Tryz.prog.stoodInHeld 73 = false := by kernel_rfl
  have u3 := Tryz.underlying3
  have a3 := Tryz.isAgg3
  have z3 := Tryz.sizeOf3
  have u2 := Tryz.underlying2
  have a2 := Tryz.isAgg2
  have z2 := Tryz.sizeOf2
  have uU := Tryz.underlying38
  have aU := Tryz.isAgg38
  have zU := Tryz.sizeOf38
  rw [run_eql_struct, show (10000 : Nat) = 9999 + 1 from rfl, run_equalIn_agg w 9999 73 _ _ hS hp]
  simp only [Program.fieldsOf, Tryz.underlying73]
  go_simp
  unfold sameE
  by_cases h0 : a.kind = b.kind
  · by_cases h1 : a.time = b.time
    · by_cases h2 : a.sub = b.sub
      · by_cases h3 : a.addr = b.addr
        · by_cases h4 : a.block = b.block
          · simp [h0, h1, h2, h3, h4]
          · simp [h0, h1, h2, h3, h4]
        · simp [h0, h1, h2, h3]
      · simp [h0, h1, h2]
    · simp [h0, h1]
  · simp [h0]

theorem guardE5 (op : BinOp) (x y : Operand) (xs ys : Array Value) (w : World) : (eqGuard op 73 x y (.agg xs) (.agg ys)).run Tryz.prog w = .ok () w :=
  run_eqGuard_agg w op 73 x y xs ys (by kernel_rfl)

/-- A deed in numbers, with its slice. -/
structure Dd : Type where
  dO : Int
  tm : Int
  sub : Int
  addr : Int
  blk : Int
  vb : Value
  b : List Int

def ddC (d : Dd) : List Value := [.int .i64 d.dO, .int .i64 d.tm, .int .u32 d.sub, .int .u32 d.addr, .int .i64 d.blk, d.vb]

structure Dd.Ok (w : World) (d : Dd) : Prop where
  bt : Bts w d.vb d.b
  o1 : -9223372036854775808 ≤ d.dO ∧ d.dO < 9223372036854775808
  t1 : -9223372036854775808 ≤ d.tm ∧ d.tm < 9223372036854775808
  s1 : 0 ≤ d.sub ∧ d.sub < 4294967296
  a1 : 0 ≤ d.addr ∧ d.addr < 4294967296
  b1 : -9223372036854775808 ≤ d.blk ∧ d.blk < 9223372036854775808

/-- A slice of deeds. -/
def Dds (w : World) (v : Value) (B O : Nat) (l : List Dd) : Prop :=
  ∃ (a : Option Addr) (cap : Nat), v = .slice a l.length cap ∧ l.length ≤ cap ∧ cap ≤ maxLen ∧ (a = some ⟨B, O, none⟩ ∨ l = []) ∧ ∀ i (h : i < l.length), l[i].Ok w ∧ w.rangeAt B (O + i * 6) (ddC l[i])

def IsDds (w : World) (v : Value) : Prop := ∃ B O l, Dds w v B O l

theorem bts_read11 {H : Type} {enc : TypeId × Value → H} {P : Program} {w : World} {base : Nat} {held : Bool} {t e : TypeId} {fuel : Nat} {v : Value} {x : DataW H × List MemPlace}
    (ht : P.underlying t = some (.slice e)) (he : P.underlying e = some (.int .u8)) (hc : P.cellsOf e = 1)
    (h : DataW.trod enc P w base (fun _ => true) held fuel t [v] = some x) : ∃ l, Bts w v l := by
  rcases open_ints ht he hc h with ⟨hcs, _⟩ | ⟨a, len, cap, zs, hcs, _, hl, hm, hz, hx, hcell, hwz⟩
  · simp only [List.cons.injEq, and_true] at hcs
    subst hcs
    exact ⟨[], bts_nil w⟩
  · simp only [List.cons.injEq, and_true] at hcs
    subst hcs
    simp only [if_true] at hz
    have hlen : (zs.take len).length = len := by simp; omega
    refine ⟨zs.take len, ⟨some a, cap, a.block, a.off, by rw [hlen], by omega, hm, ?_, ?_, ?_⟩⟩
    · intro z hz'; exact byte_of_wf (hwz z (List.mem_of_mem_take hz'))
    · by_cases h0 : len = 0
      · right; subst h0; simp
      · left
        obtain ⟨b, off, spot⟩ := a
        have hs : spot = none := by simpa [Addr.add] using World.cell?_spot (hcell 0 (by omega))
        subst hs; rfl
    · intro i hi
      rw [hlen] at hi
      obtain ⟨b, off, spot⟩ := a
      have hs : spot = none := by simpa [Addr.add] using World.cell?_spot (hcell 0 (by omega))
      subst hs
      have hc := hcell i (by omega)
      rw [add_at] at hc
      rw [getD_take _ _ _ hi]
      exact hc

theorem u32_wf11 {x : Int} (h : (Lit.int .u32 x).wf = true) : 0 ≤ x ∧ x < 4294967296 := by
  simp [Lit.wf, IntKind.min, IntKind.max, IntKind.signed, IntKind.bits] at h
  omega

theorem cells38b : Tryz.prog.cellsOf 3 = 1 := by kernel_rfl

theorem cells2b : Tryz.prog.cellsOf 2 = 1 := by kernel_rfl

theorem cellsU32 : Tryz.prog.cellsOf 38 = 1 := by kernel_rfl

theorem cellsBs : Tryz.prog.cellsOf 39 = 1 := by kernel_rfl

theorem cells5b : Tryz.prog.cellsOf 5 = 1 := by kernel_rfl

theorem cellsDd : Tryz.prog.cellsOf 41 = 6 := by kernel_rfl

theorem list6b {α : Type} {l : List α} (h : l.length = 6) : ∃ a b c d e f, l = [a, b, c, d, e, f] := by
  match l, h with
  | [a, b, c, d, e, f], _ => exact ⟨a, b, c, d, e, f, rfl⟩

section
variable {H : Type} {enc : TypeId × Value → H} {w : World} {base b0' : Nat} {held : Bool} {r : Reach} {v : Value} {d : DataW H} {ps : List MemPlace}

set_option maxRecDepth 100000 in
theorem dd_of {n : Nat} {cs : List Value} {x : DataW H × List MemPlace} (hf : DataW.trod enc Tryz.prog w base (fun _ => true) held n 41 cs = some x) : ∃ q : Dd, cs = ddC q ∧ q.Ok w := by
  obtain ⟨xs, m, _, hx, hl, hlen, hfield⟩ := DataW.trod_struct Tryz.underlying41 hf
  rw [cellsDd] at hl
  obtain ⟨c0, c1, c2, c3, c4, c5, rfl⟩ := list6b hl
  obtain ⟨y0, y1, y2, y3, y4, y5, rfl⟩ := list6b hlen
  have t0 : DataW.trod enc Tryz.prog w base (fun _ => true) held m 3 [c0] = some y0 := by
    have := hfield 0 _ rfl
    simpa [cells38b] using this
  have t1 : DataW.trod enc Tryz.prog w base (fun _ => true) held m 2 [c1] = some y1 := by
    have := hfield 1 _ rfl
    simpa [cells38b, cells2b] using this
  have t2 : DataW.trod enc Tryz.prog w base (fun _ => true) held m 38 [c2] = some y2 := by
    have := hfield 2 _ rfl
    simpa [cells38b, cells2b, cellsU32] using this
  have t3 : DataW.trod enc Tryz.prog w base (fun _ => true) held m 38 [c3] = some y3 := by
    have := hfield 3 _ rfl
    simpa [cells38b, cells2b, cellsU32] using this
  have t4 : DataW.trod enc Tryz.prog w base (fun _ => true) held m 3 [c4] = some y4 := by
    have := hfield 4 _ rfl
    simpa [cells38b, cells2b, cellsU32] using this
  have t5 : DataW.trod enc Tryz.prog w base (fun _ => true) held m 39 [c5] = some y5 := by
    have := hfield 5 _ rfl
    simpa [cells38b, cells2b, cellsU32, cellsBs] using this
  obtain ⟨z0, e0, _, w0⟩ := DataW.trod_int Tryz.underlying3 t0
  obtain ⟨z1, e1, _, w1⟩ := DataW.trod_int Tryz.underlying2 t1
  obtain ⟨z2, e2, _, w2⟩ := DataW.trod_int Tryz.underlying38 t2
  obtain ⟨z3, e3, _, w3⟩ := DataW.trod_int Tryz.underlying38 t3
  obtain ⟨z4, e4, _, w4⟩ := DataW.trod_int Tryz.underlying3 t4
  obtain ⟨l, hb⟩ := bts_read11 Tryz.underlying39 Tryz.underlying5 cells5b t5
  simp at e0 e1 e2 e3 e4
  subst e0 e1 e2 e3 e4
  exact ⟨⟨z0, z1, z2, z3, z4, c5, l⟩, rfl, hb, i64_of_wf w0, i64_of_wf w1, u32_wf11 w2, u32_wf11 w3, i64_of_wf w4⟩

theorem viewDd (hv : Value.okWide Tryz.prog w r b0' 22 v) (h : DataW.Trod enc Tryz.prog w base (fun _ => true) held 22 v d ps) (_ : ∀ n ∈ d.weights Tryz.prog 22, n ≤ reachBytes) : IsDds w v := by
  obtain ⟨a0, len0, cap0, rfl⟩ := okWide_slice Tryz.underlying22 hv
  obtain ⟨fuel, hf⟩ := h
  rcases Go.Deep.open_slice Tryz.underlying22 hf with ⟨hcs, _⟩ | ⟨a, len, cap, m, n, D, Pl, hcs, _, hl, hm, hmm, _, hrow⟩
  · simp [Value.cells] at hcs
    obtain ⟨rfl, rfl, rfl⟩ := hcs
    exact ⟨0, 0, [], none, 0, rfl, by simp, by decide, .inr rfl, fun i hi => by simp at hi⟩
  · simp [Value.cells] at hcs
    obtain ⟨rfl, rfl, rfl⟩ := hcs
    simp only [if_true] at hmm
    subst hmm
    rw [cellsDd] at hrow
    obtain ⟨b, off, spot⟩ := a
    have hq : ∀ i, i < len0 → ∃ q : Dd, q.Ok w ∧ ∀ j, j < 6 → w.cell? (((⟨b, off, spot⟩ : Addr).add (i * 6)).add j) = (ddC q)[j]? := by
      intro i hi
      obtain ⟨cs', h1, h2⟩ := hrow i (by omega)
      obtain ⟨q, rfl, hq⟩ := dd_of h2
      unfold World.cells? at h1
      split at h1
      case isFalse => cases h1
      exact ⟨q, hq, fun j hj => mapM_some_get h1 j j (by simp [hj])⟩
    have hspot : 0 < len0 → spot = none := fun h0 => by
      obtain ⟨q, _, hget⟩ := hq 0 h0
      have h0' := hget 0 (by omega)
      have h00 : (ddC q)[0]? = some (.int .i64 q.dO) := rfl
      rw [h00] at h0'
      simpa [Addr.add] using World.cell?_spot h0'
    haveI : Inhabited Dd := ⟨⟨0, 0, 0, 0, 0, .slice none 0 0, []⟩⟩
    obtain ⟨f, hf'⟩ := Go.Deep.choose_lt (α := Dd) (n := len0) (p := fun i q => q.Ok w ∧ ∀ j, j < 6 → w.cell? (((⟨b, off, spot⟩ : Addr).add (i * 6)).add j) = (ddC q)[j]?) hq
    refine ⟨b, off, (List.range len0).map f, _, _, by simp; rfl, by simpa using hl, hm, ?_, ?_⟩
    · by_cases h0 : len0 = 0
      · right; subst h0; simp
      · left; rw [hspot (by omega)]
    · intro i hi
      simp at hi
      obtain ⟨h1, h2⟩ := hf' i hi
      have hs := hspot (by omega)
      subst hs
      simp only [List.getElem_map, List.getElem_range]
      refine ⟨h1, fun j u hu => ?_⟩
      have hj : j < 6 := by
        have := (List.getElem?_eq_some_iff.1 hu).1
        simpa [ddC] using this
      have := h2 j hj
      rw [Go.Deep.add_add, add_at, ← Nat.add_assoc] at this
      rw [this]; exact hu
end

theorem Dd.Ok.later {w w' : World} {d : Dd} (h : d.Ok w) (hb : Below w.heap.size w w') : d.Ok w' := ⟨h.bt.later hb, h.o1, h.t1, h.s1, h.a1, h.b1⟩

theorem Dds.later {w w' : World} {v : Value} {B O : Nat} {l : List Dd} (h : Dds w v B O l) (hb : Below w.heap.size w w') : Dds w' v B O l := by
  obtain ⟨a, cap, h1, h2, h3, h4, hd⟩ := h
  exact ⟨a, cap, h1, h2, h3, h4, fun i hi => ⟨(hd i hi).1.later hb, fun j u hu => cell_later hb ((hd i hi).2 j u hu)⟩⟩

theorem Dds.cell {w : World} {v : Value} {B O : Nat} {l : List Dd} (h : Dds w v B O l) (i : Nat) (hi : i < l.length) :
    w.cell? ⟨B, O + i * 6, none⟩ = some (.int .i64 l[i].dO) ∧ w.cell? ⟨B, O + i * 6 + 1, none⟩ = some (.int .i64 l[i].tm) ∧ w.cell? ⟨B, O + i * 6 + 2, none⟩ = some (.int .u32 l[i].sub) ∧ w.cell? ⟨B, O + i * 6 + 3, none⟩ = some (.int .u32 l[i].addr) ∧ w.cell? ⟨B, O + i * 6 + 4, none⟩ = some (.int .i64 l[i].blk) ∧ w.cell? ⟨B, O + i * 6 + 5, none⟩ = some l[i].vb := by
  obtain ⟨a, cap, _, _, _, _, hd⟩ := h
  have := (hd i hi).2
  exact ⟨by have := this 0 _ rfl; rwa [Nat.add_zero] at this, this 1 _ rfl, this 2 _ rfl, this 3 _ rfl, this 4 _ rfl, this 5 _ rfl⟩

theorem Dds.ok {w : World} {v : Value} {B O : Nat} {l : List Dd} (h : Dds w v B O l) (i : Nat) (hi : i < l.length) : l[i].Ok w := by
  obtain ⟨a, cap, _, _, _, _, hd⟩ := h
  exact (hd i hi).1

def roomK (l : List Dd) : Bool := decide (l.length ≤ 150 ∧ ∀ d ∈ l, d.b.length ≤ 500)

theorem roomK_few {l : List Dd} (h : roomK l = true) : l.length ≤ 150 ∧ ∀ d ∈ l, d.b.length ≤ 500 := of_decide_eq_true h

set_option maxHeartbeats 1000000 in
theorem room11_ok (w : World) (v : Value) (B O : Nat) (l : List Dd) (h : Dds w v B O l) : Calls Tryz.prog 6 #[v] w fun e w' => e = .returned (.bool (roomK l)) ∧ w' = w := by
  have HD : Hid (Dds w v B O l) := h
  obtain ⟨a, cap, rfl, hl, hm, ha, _⟩ := h
  unfold maxLen at hm
  by_cases h300 : l.length ≤ 150
  · have h300I : ¬ (150 : Int) < (l.length : Int) := by omega
    go_enter Tryz.func6, Tryz.ntmps6
    go_wp2
    go_loopg [3] l.length (fun gk i wr => ∃ k : Nat, k + gk = l.length ∧ i = .int .i64 k ∧ (∀ d ∈ l.take k, d.b.length ≤ 500) ∧ w = wr)
    case atStart => exact ⟨0, by omega, rfl, by simp, rfl⟩
    case round =>
      obtain ⟨k, hk, rfl, hall, rfl⟩ := hrel
      by_cases hlt : k < l.length
      · have hltI : (k : Int) < (l.length : Int) := by omega
        rcases ha with rfl | hnil
        case inr => rw [hnil] at hlt; simp at hlt
        obtain ⟨_, _, _, _, _, c4⟩ := HD.out.cell k hlt
        obtain ⟨ba, bc, hvb, _, hbm, _⟩ := bts_src (HD.out.ok k hlt).bt
        rw [hvb] at c4
        unfold maxLen at hbm
        have HA : Hid (∀ d ∈ l.take k, d.b.length ≤ 500) := hall
        clear hall
        by_cases h1000 : l[k].b.length ≤ 500
        · have h1I : ¬ (500 : Int) < (l[k].b.length : Int) := by omega
          have HT : Hid (∀ d ∈ l.take (k + 1), d.b.length ≤ 500) := by
            intro d hd
            rw [List.take_succ_eq_append_getElem hlt, List.mem_append, List.mem_singleton] at hd
            rcases hd with hd | rfl
            · exact HA.out d hd
            · exact h1000
          clear hvb
          generalize l[k].b.length = q at *
          go_wp2
          go_roundg (l.length - (k + 1))
          case rel => exact ⟨k + 1, by omega, by go_num, HT.out, rfl⟩
          case measure => omega
        · have h1I : (500 : Int) < (l[k].b.length : Int) := by omega
          have HR : Hid (roomK l = false) := by
            show _ = _
            unfold roomK
            rw [decide_eq_false_iff_not]
            rintro ⟨_, h2⟩
            have := h2 l[k] (List.getElem_mem hlt)
            omega
          go_wp2
          go_ret
          exact ⟨ret_bool HR.out.symm, rfl⟩
      · have hke : k = l.length := by omega
        subst hke
        have hall' : ∀ d ∈ l, d.b.length ≤ 500 := by rwa [List.take_length] at hall
        have HR : Hid (roomK l = true) := by
          show _ = _
          unfold roomK
          exact decide_eq_true ⟨h300, hall'⟩
        clear hall
        go_wp2
        go_ret
        exact ⟨ret_bool HR.out.symm, rfl⟩
  · have h300I : (150 : Int) < (l.length : Int) := by omega
    have HR : Hid (roomK l = false) := by
      show _ = _
      unfold roomK
      rw [decide_eq_false_iff_not]
      rintro ⟨h1, _⟩
      omega
    go_enter Tryz.func6, Tryz.ntmps6
    go_wp2
    go_ret
    exact ⟨ret_bool HR.out.symm, rfl⟩

section
variable {H : Type} {enc : TypeId × Value → H} {w : World} {base b0' : Nat} {held : Bool} {r : Reach} {v : Value} {d : DataW H} {ps : List MemPlace}

set_option maxRecDepth 100000 in
theorem view2 (hv : Value.okWide Tryz.prog w r b0' 2 v) (h : DataW.Trod enc Tryz.prog w base (fun _ => true) held 2 v d ps) (_ : ∀ n ∈ d.weights Tryz.prog 2, n ≤ reachBytes) : IsI64 w v := by
  obtain ⟨x, rfl, rfl, rfl, wx⟩ := open_int Tryz.underlying2 hv h
  exact ⟨x, rfl, i64_of_wf wx⟩
end

end Go.Proofs.YtafkkehcacdodaaGreat

namespace Go.Proofs.YtafkkehcacdodaaGreat
open Go.RowKit Go.Shelf

theorem found_app (l m : List (List Int)) : foundE (l ++ m) = foundE l ++ foundE m := by
  unfold foundE
  rw [List.filter_append, List.map_append]

theorem bodK_len {s : St} (h : s.Ok) (k : Nat) (hk : k ≤ s.n) : (bodK s.now k).length ≤ k * 8 := by
  unfold bodK
  rw [List.length_map]
  exact (openK_ok s.now s.n h.nl h.nb k hk).2.2.2

/-- A row of entries behind the world w's own blocks. -/
def RowF (w wr : World) (r : Value) (L : List En) : Prop := Win wr 5 r L.length (L.flatMap eL5) ∧ ∀ g, r.ownBlock = some g → w.heap.size ≤ g

theorem RowF.later {w wr wr' : World} {r : Value} {L : List En} (h : RowF w wr r L) (hb : Below wr.heap.size wr wr') : RowF w wr' r L := ⟨h.1.later hb, h.2⟩

/-- One entry more behind a row that is seen. -/
theorem append_w (W : World) (v : Value) (L : List En) (e : En) (hv : Win W 5 v L.length (L.flatMap eL5)) (hlen : L.length ≤ 900000) :
    ∃ a c w', (Builtin.append_ #[63, 63] 63 #[v, .slice (some ⟨W.heap.size, 0, none⟩) 1 1]).run Tryz.prog (W.alloc (.cells #[.int .i64 e.kind, .int .i64 e.time, .int .u32 e.sub, .int .u32 e.addr, .int .i64 e.block] 73)) = .ok (.slice a (L.length + 1) c) w' ∧
      Win w' 5 (.slice a (L.length + 1) c) (L ++ [e]).length ((L ++ [e]).flatMap eL5) ∧ (∀ g, g < W.heap.size → v.ownBlock ≠ some g → w'.heap[g]? = W.heap[g]?) ∧ (∀ g, (Value.slice a (L.length + 1) c).ownBlock = some g → v.ownBlock = some g ∨ W.heap.size ≤ g) ∧
      (W.alloc (.cells #[.int .i64 e.kind, .int .i64 e.time, .int .u32 e.sub, .int .u32 e.addr, .int .i64 e.block] 73)).grownBy w' v.ownBlock := by
  obtain ⟨i0, hi, hz0, hz1, hz2⟩ := info_parts infoE5
  have hb := below_alloc W (.cells #[.int .i64 e.kind, .int .i64 e.time, .int .u32 e.sub, .int .u32 e.addr, .int .i64 e.block] 73)
  have h1 : ([e].flatMap eL5) = eL5 e := by rw [List.flatMap_cons, List.flatMap_nil, List.append_nil]
  obtain ⟨v', w', hr, hwin, hg, hat⟩ := win_append (P := Tryz.prog) (W.alloc (.cells #[.int .i64 e.kind, .int .i64 e.time, .int .u32 e.sub, .int .u32 e.addr, .int .i64 e.block] 73)) 63 63 73 i0 _ 5 32 Tryz.underlying63 hi hz0 hz1 hz2 rfl (by decide) v L.length _ (hv.later hb)
    (some ⟨W.heap.size, 0, none⟩) 1 1 (eL5 e) rfl (.inl ⟨_, rfl, fun j u hj => by rw [add_at, Nat.zero_add]; exact e5_news W e j u hj⟩) (by rw [← h1]; exact eL5_one [e]) (by unfold maxLen; omega) (by omega)
  obtain ⟨a, c, rfl, _⟩ := win_form hwin
  refine ⟨a, c, w', hr, ?_, fun g hlt hne => ?_, fun g hgv => ?_, hg⟩
  · rw [List.flatMap_append, List.length_append, h1]; exact hwin
  · exact (hg.block g (Nat.lt_of_lt_of_le hlt hb.size) (fun e => hne e.symm)).trans (hb.block g hlt)
  · rcases hat with e1 | e1
    · left; rw [← e1]; exact hgv
    · right; rw [e1] at hgv; simp at hgv; omega

theorem lst_at {w w' : World} {base : Nat} {v : Value} {vs : List Value} {ls : List (List Int)} (h : Lst w base v vs ls) (hk : ∀ g, base ≤ g → g < w.heap.size → w'.heap[g]? = w.heap[g]?) (hs : w.heap.size ≤ w'.heap.size) : Lst w' base v vs ls :=
  ⟨h.win.same (fun g hg => hk g (h.blk g hg) (h.win.lt g hg)), h.blk, fun i hi => bts_same (h.bts i hi) (fun g hg hlt => hk g (h.ent i hi g hg).1 hlt), fun i hi g hg => ⟨(h.ent i hi g hg).1, Nat.lt_of_lt_of_le (h.ent i hi g hg).2.1 hs, (h.ent i hi g hg).2.2⟩⟩

set_option maxHeartbeats 2000000 in
theorem read11_ok (w : World) (tag : Nat → Nat) (base o : Nat) (s : St) (p : PL) (h : PD w tag base o s p) (D : Nat) (hD : p.D = D) :
    Calls Tryz.prog 26 #[.pointer (some ⟨D, 0, none⟩)] w fun e w' => ∃ r, e = .returned r ∧ Win w' 5 r (foundE (bodK s.now s.n)).length ((foundE (bodK s.now s.n)).flatMap eL5) ∧ (∀ g, r.ownBlock = some g → w.heap.size ≤ g) ∧ Below w.heap.size w w' := by
  subst hD
  have HP : Hid (PD w tag base o s p) := h
  have hn2 := h.ok.n2
  have HOk : Hid s.Ok := h.ok
  have h0 : RowF w w (.slice none 0 0) (foundE (bodK s.now 0)) := ⟨win_nil _ _, fun g hg => by simp [Value.ownBlock] at hg⟩
  clear h
  go_enter Tryz.func26, Tryz.ntmps26
  go_wp2
  go_loopg [3, 4] s.n (fun gk rv i wr => ∃ (k : Nat) (r : Value), k + gk = s.n ∧ r = rv ∧ i = .int .i64 (k : Int) ∧ RowF w wr r (foundE (bodK s.now k)) ∧ Below w.heap.size w wr)
  case atStart => exact ⟨0, _, by omega, rfl, rfl, h0, Below.refl _ _⟩
  case round =>
    obtain ⟨wx, rfl⟩ : ∃ wx, wx = wr := ⟨wr, rfl⟩
    obtain ⟨k, r, hk, rfl, rfl, hrow, hB⟩ := hrel
    have HSz := size_ok wx tag base o s p (HP.out.later hB)
    have HRow : Hid (RowF w wx r (foundE (bodK s.now k))) := hrow
    clear hrow
    go_wp2_with fail
    refine HSz.mono ?_
    rintro e w' ⟨rfl, hx⟩
    rw [hx]
    clear hx HSz
    by_cases hlt : k < s.n
    case neg =>
      have hge : ¬ (k : Int) < (s.n : Int) := by omega
      have hke : k = s.n := by omega
      rw [hke] at HRow
      go_wp2
      go_ret
      exact ⟨_, rfl, HRow.out.1, HRow.out.2, hB⟩
    have hltI : (k : Int) < (s.n : Int) := by omega
    have HRd := read_okI wx tag base o s p (HP.out.later hB) k k rfl hlt _ rfl
    have hsl := sec_len HOk.out.nl hlt
    go_wp2_with fail
    refine HRd.mono ?_
    rintro e w2 ⟨v2, rfl, hb2, _, hB2⟩
    have hB02 := hB.trans (hB2.mono hB.size)
    have HSc := scan_ok w2 v2 (sec s.now k) hb2 (by omega)
    obtain ⟨a2, c2, rfl, _⟩ := bts_src hb2
    rw [hsl] at HSc
    clear HRd hb2
    go_wp2_with fail
    refine HSc.mono ?_
    rintro e w3 ⟨v3, vs3, rfl, hL3, hB3⟩
    have hB03 := hB02.trans (hB3.mono hB02.size)
    have HL : Hid (Lst w3 w2.heap.size v3 vs3 (scanB (sec s.now k))) := hL3
    have hll : (scanB (sec s.now k)).length ≤ 8 := by have := scanB_len 64 (sec s.now k) (by omega); omega
    obtain ⟨a3, c3, rfl, hc31, hc32⟩ := win_form hL3.win
    unfold maxLen at hc32
    have HR3 : Hid (RowF w w3 r (foundE (bodK s.now k ++ (scanB (sec s.now k)).take 0)) ∧ ∀ g, r.ownBlock = some g → g < w2.heap.size ∨ w3.heap.size ≤ g) := by
      rw [List.take_zero, List.append_nil]
      exact ⟨HRow.out.later (hB2.trans (hB3.mono hB2.size)), fun g hg => .inl (Nat.lt_of_lt_of_le (HRow.out.1.lt g hg) hB2.size)⟩
    have HBk : Hid ((bodK s.now k).length ≤ 32768) := by
      have := bodK_len HOk.out k (by omega)
      show _ ≤ _
      omega
    have HSu : Hid (bodK s.now (k + 1) = bodK s.now k ++ scanB (sec s.now k)) := bodK_succ s.now k
    have h32 := hB3.size
    clear HSc hL3 hB2 hB3 HRow hB02
    generalize scanB (sec s.now k) = ls at *
    go_wp2_with fail
    go_loopg [3, 8] ls.length (fun gk2 rv i wr2 => ∃ (j : Nat) (r : Value), j + gk2 = ls.length ∧ r = rv ∧ i = .int .i64 (j : Int) ∧ (RowF w wr2 r (foundE (bodK s.now k ++ ls.take j)) ∧ ∀ g, r.ownBlock = some g → g < w2.heap.size ∨ w3.heap.size ≤ g) ∧ Below w.heap.size w wr2 ∧ (∀ g, w2.heap.size ≤ g → g < w3.heap.size → wr2.heap[g]? = w3.heap[g]?) ∧ w3.heap.size ≤ wr2.heap.size)
    case atStart => exact ⟨0, _, by omega, rfl, rfl, HR3.out, hB03, fun _ _ _ => rfl, Nat.le_refl _⟩
    case round =>
      obtain ⟨wy, rfl⟩ : ∃ wy, wy = wr := ⟨wr, rfl⟩
      obtain ⟨j, r, hj, rfl, rfl, hrow, hB4, hkp, hs4⟩ := hrel
      have HRow : Hid (RowF w wy r (foundE (bodK s.now k ++ ls.take j)) ∧ ∀ g, r.ownBlock = some g → g < w2.heap.size ∨ w3.heap.size ≤ g) := hrow
      have HK : Hid (∀ g, w2.heap.size ≤ g → g < w3.heap.size → wy.heap[g]? = w3.heap[g]?) := hkp
      clear hrow hkp
      by_cases hlt2 : j < ls.length
      case neg =>
        have hge : ¬ (j : Int) < (ls.length : Int) := by omega
        have hje : ls.take j = ls := List.take_of_length_le (by omega)
        rw [hje, ← HSu.out] at HRow
        go_wp2
        go_roundg (s.n - (k + 1))
        case rel => exact ⟨k + 1, _, by omega, rfl, by go_num, HRow.out.1, hB4⟩
        case measure => omega
      have hltI2 : (j : Int) < (ls.length : Int) := by omega
      have hLy := lst_at HL.out HK.out hs4
      obtain ⟨LB, LO, lc, hvv, hlc, hlm, hcel⟩ := hLy.read (by omega)
      cases hvv
      have hc0 := hcel j hlt2
      have hbt := hLy.bts j hlt2
      have HS : Hid (foundE (bodK s.now k ++ ls.take (j + 1)) = foundE (bodK s.now k ++ ls.take j) ++ (if whyE (ls.getD j []) = 0 then [entE (ls.getD j [])] else [])) := by
        show _ = _
        rw [found_app, found_app, found_snoc ls j hlt2, List.append_assoc]
      have HLe : Hid ((foundE (bodK s.now k ++ ls.take j)).length ≤ 100000) := by
        have h1 := found_len (bodK s.now k ++ ls.take j)
        rw [List.length_append, List.length_take] at h1
        have h2 := HBk.out
        show _ ≤ _
        omega
      have hDc := decode_any (vs3.getD j undef) (ls.getD j []) wy hbt
      obtain ⟨ba, bc, hbv, _⟩ := bts_src hbt
      rw [hbv] at hc0 hDc
      have hbsz := hB4.size
      clear hbt hcel hbv hLy
      generalize foundE (bodK s.now k ++ ls.take j) = F at *
      generalize entE (ls.getD j []) = e at *
      generalize whyE (ls.getD j []) = y at *
      generalize (ls.getD j []).length = bn at *
      obtain ⟨k0, k1, k2, k3, k4⟩ := e
      go_wp2_with fail
      refine (by exact hDc : Calls _ _ _ _ _).mono ?_
      rintro e w5 ⟨rfl, hB5⟩
      have hB05 := hB4.trans (hB5.mono hbsz)
      have hB6 := hB5.trans ((below_alloc w5 (.cells #[.int .i64 k0, .int .i64 k1, .int .u32 k2, .int .u32 k3, .int .i64 k4] 73)).mono hB5.size)
      have hB06 := hB4.trans (hB6.mono hbsz)
      have hk6 : ∀ g, w2.heap.size ≤ g → g < w3.heap.size → (w5.alloc (.cells #[.int .i64 k0, .int .i64 k1, .int .u32 k2, .int .u32 k3, .int .i64 k4] 73)).heap[g]? = w3.heap[g]? := fun g h1 h2 => (hB6.block g (by omega)).trans (HK.out g h1 h2)
      have hr6 := HRow.out.1.later hB6
      have hs6 := Nat.le_trans hs4 hB6.size
      by_cases hy : y = 0
      · subst hy
        rw [if_pos rfl] at HS
        obtain ⟨a7, c7, w7, hr7, hwin7, hkp7, hown7, hg7⟩ := append_w (w5.alloc (.cells #[.int .i64 k0, .int .i64 k1, .int .u32 k2, .int .u32 k3, .int .i64 k4] 73)) r F ⟨k0, k1, k2, k3, k4⟩ hr6.1 (by have := HLe.out; omega)
        have hs7 := hg7.size
        have h66 := below_alloc (w5.alloc (.cells #[.int .i64 k0, .int .i64 k1, .int .u32 k2, .int .u32 k3, .int .i64 k4] 73)) (.cells #[.int .i64 k0, .int .i64 k1, .int .u32 k2, .int .u32 k3, .int .i64 k4] 73)
        have hs67 := Nat.le_trans h66.size hs7
        have HR7 : Hid ((RowF w w7 (.slice a7 (F.length + 1) c7) (F ++ [(⟨k0, k1, k2, k3, k4⟩ : En)]) ∧ ∀ g, (Value.slice a7 (F.length + 1) c7).ownBlock = some g → g < w2.heap.size ∨ w3.heap.size ≤ g) ∧ Below w.heap.size w w7 ∧ (∀ g, w2.heap.size ≤ g → g < w3.heap.size → w7.heap[g]? = w3.heap[g]?) ∧ w3.heap.size ≤ w7.heap.size) := by
          refine ⟨⟨⟨hwin7, fun g hg => ?_⟩, fun g hg => ?_⟩, ?_, fun g h1 h2 => ?_, Nat.le_trans hs6 hs67⟩
          · rcases hown7 g hg with e1 | e1
            · exact HRow.out.1.2 g e1
            · exact Nat.le_trans hB06.size e1
          · rcases hown7 g hg with e1 | e1
            · exact HRow.out.2 g e1
            · exact .inr (Nat.le_trans hs6 e1)
          · exact (hB06.trans (h66.mono hB06.size)).grown hg7 (Nat.le_trans hB06.size h66.size) (fun g hg => HRow.out.1.2 g hg)
          · rw [hkp7 g (by omega) (fun e1 => by have := HRow.out.2 g e1; omega)]
            exact hk6 g h1 h2
        obtain ⟨ra, rc, rfl, _⟩ := win_form HRow.out.1.1
        simp only [World.size_alloc] at hr7
        clear hwin7 hkp7 hown7 hg7 hs7 h66 hs67 hr6 hk6 hB6 hB05 hB06 hDc
        go_wp2_with (at_builtin; refine wpl_append_run rfl _ _ 63 rfl _ _ rfl rfl hr7 ?_)
        go_roundg (ls.length - (j + 1))
        case rel => exact ⟨j + 1, _, by omega, rfl, by go_num, by rw [HS.out]; exact HR7.out.1, HR7.out.2⟩
        case measure => omega
      · rw [if_neg hy, List.append_nil] at HS
        have HR6 : Hid ((RowF w (w5.alloc (.cells #[.int .i64 k0, .int .i64 k1, .int .u32 k2, .int .u32 k3, .int .i64 k4] 73)) r F ∧ ∀ g, r.ownBlock = some g → g < w2.heap.size ∨ w3.heap.size ≤ g) ∧ Below w.heap.size w (w5.alloc (.cells #[.int .i64 k0, .int .i64 k1, .int .u32 k2, .int .u32 k3, .int .i64 k4] 73)) ∧ (∀ g, w2.heap.size ≤ g → g < w3.heap.size → (w5.alloc (.cells #[.int .i64 k0, .int .i64 k1, .int .u32 k2, .int .u32 k3, .int .i64 k4] 73)).heap[g]? = w3.heap[g]?) ∧ w3.heap.size ≤ (w5.alloc (.cells #[.int .i64 k0, .int .i64 k1, .int .u32 k2, .int .u32 k3, .int .i64 k4] 73)).heap.size) :=
          ⟨⟨hr6, HRow.out.2⟩, hB06, hk6, hs6⟩
        have hy' : (y == 0) = false := by simpa using hy
        clear hr6 hk6 hB6 hB05 hB06 hDc hs6
        go_wp2
        go_roundg (ls.length - (j + 1))
        case rel => exact ⟨j + 1, _, by omega, rfl, by go_num, by rw [HS.out]; exact HR6.out.1, HR6.out.2⟩
        case measure => omega

end Go.Proofs.YtafkkehcacdodaaGreat

namespace Go.Proofs.YtafkkehcacdodaaGreat
open Go.RowKit Go.Shelf

/-- Between two deeds. -/
structure Run (w : World) (N D B k : Nat) (m : Bm) (G : List Tr) (wr : World) (tag : Nat → Nat) : Prop where
  bk : BK wr tag w.heap.size 1 D B m
  ok : m.Ok (2 + 4 * k)
  sv : SvF 0 m.s m.t G
  sf : SuFi G
  n : m.s.n = N
  outs : m.s.outs.length ≤ 500 * k
  recs : m.t.recs.length ≤ 1 + 2 * k
  L : m.L.length ≤ 1 + 2 * k
  G : G.length ≤ 1 + 2 * k
  z : ∀ j, j < w.heap.size → tag j = 0
  below : Below w.heap.size w wr

section
variable {w : World} {N D B k : Nat} {m : Bm} {G : List Tr} {wr wr' : World} {tag tag' : Nat → Nat}

theorem Run.new (h : Run w N D B k m G wr tag) (hb : Below wr.heap.size wr wr') : Run w N D B k m G wr' (clip tag wr.heap.size) :=
  ⟨h.bk.new hb, h.ok, h.sv, h.sf, h.n, h.outs, h.recs, h.L, h.G, fun j hj => by rw [clip_lt _ _ _ (Nat.lt_of_lt_of_le hj h.below.size)]; exact h.z j hj, h.below.trans (hb.mono h.below.size)⟩

theorem Run.next (h : Run w N D B k m G wr tag) : Run w N D B (k + 1) m G wr tag :=
  ⟨h.bk, h.ok.mono (by omega), h.sv, h.sf, h.n, by have := h.outs; omega, by have := h.recs; omega, by have := h.L; omega, by have := h.G; omega, h.z, h.below⟩

theorem Run.put (h : Run w N D B k m G wr tag) {e : En} (he : e.Ok) (hS : StepR tag tag' w.heap.size 1 3 wr wr') (hK : BK wr' tag' w.heap.size 1 D B (m.put e)) : Run w N D B (k + 1) (m.put e) (m.putG e G) wr' tag' := by
  obtain ⟨o1, o2⟩ := h.ok.put he
  obtain ⟨g1, _⟩ := putG_grew h.ok h.sf e
  exact ⟨hK, o1.mono (by omega), h.sv.bput h.ok e, g1.sf, o2.sn.trans h.n, by have := o2.outs; have := h.outs; omega, by have := o2.recs; have := h.recs; omega, by have := o2.L; have := h.L; omega, by have := g1.len; have := h.G; omega,
    fun j hj => by rw [hS.tags j (Nat.lt_of_lt_of_le hj h.below.size)]; exact h.z j hj, h.below.trans hS.below⟩

theorem Run.add (h : Run w N D B k m G wr tag) {l : List Int} (hl : isBytes l) (h5 : l.length ≤ 500) (hS : StepR tag tag' w.heap.size 1 1 wr wr') (hK : BK wr' tag' w.heap.size 1 D B ⟨m.s.add l, m.t, m.L, m.D⟩) : Run w N D B (k + 1) ⟨m.s.add l, m.t, m.L, m.D⟩ G wr' tag' := by
  have ho := h.outs
  exact ⟨hK, ⟨⟨h.ok.nb.ok.add hl, h.ok.nb.tk, Nat.le_trans h.ok.nb.ops (by omega), Nat.le_trans h.ok.nb.sin (by omega)⟩, h.ok.fL, h.ok.fD, h.ok.d1⟩, h.sv.add l, h.sf, h.n, by show (m.s.outs ++ l).length ≤ _; rw [List.length_append]; omega, by have := h.recs; show m.t.recs.length ≤ _; omega, by have := h.L; show m.L.length ≤ _; omega, by have := h.G; omega,
    fun j hj => by rw [hS.tags j (Nat.lt_of_lt_of_le hj h.below.size)]; exact h.z j hj, h.below.trans hS.below⟩

theorem run_grant (h : Run w N D B k m G wr tag) (hk : k ≤ 150) (now sub addr block : Int) (hok : En.Ok ⟨2, now, sub, addr, block⟩) :
    Calls Tryz.prog 15 #[.pointer (some ⟨B, 0, none⟩), .int .i64 now, .int .u32 sub, .int .u32 addr, .int .i64 block] wr fun r w' => r = .returned (.int .i64 (m.putE ⟨2, now, sub, addr, block⟩)) ∧ ∃ tag', StepR tag tag' w.heap.size 1 3 wr w' ∧ Run w N D B (k + 1) (m.put ⟨2, now, sub, addr, block⟩) (m.putG ⟨2, now, sub, addr, block⟩ G) w' tag' := by
  have h1 := h.outs
  have h2 := h.recs
  have h3 := h.L
  refine (bgrant_ok wr tag w.heap.size 1 D B (Nat.le_refl _) m h.bk h.below.size now sub addr block hok (2 + 4 * k) h.ok (by omega) (by omega) (by omega) (by omega)).mono ?_
  rintro r w' ⟨rfl, tag', hS, hK⟩
  exact ⟨rfl, tag', hS, h.put hok hS hK⟩

theorem run_release (h : Run w N D B k m G wr tag) (hk : k ≤ 150) (now addr block : Int) (hok : En.Ok ⟨3, now, 0, addr, block⟩) :
    Calls Tryz.prog 17 #[.pointer (some ⟨B, 0, none⟩), .int .i64 now, .int .u32 addr, .int .i64 block] wr fun r w' => r = .returned (.int .i64 (m.putE ⟨3, now, 0, addr, block⟩)) ∧ ∃ tag', StepR tag tag' w.heap.size 1 3 wr w' ∧ Run w N D B (k + 1) (m.put ⟨3, now, 0, addr, block⟩) (m.putG ⟨3, now, 0, addr, block⟩ G) w' tag' := by
  have h1 := h.outs
  have h2 := h.recs
  have h3 := h.L
  refine (brelease_ok wr tag w.heap.size 1 D B (Nat.le_refl _) m h.bk h.below.size now addr block hok (2 + 4 * k) h.ok (by omega) (by omega) (by omega) (by omega)).mono ?_
  rintro r w' ⟨rfl, tag', hS, hK⟩
  exact ⟨rfl, tag', hS, h.put hok hS hK⟩

theorem run_outcomes (h : Run w N D B k m G wr tag) (hk : k ≤ 150) (v : Value) (l : List Int) (hv : Bts wr v l) (h5 : l.length ≤ 500) :
    Calls Tryz.prog 11 #[.pointer (some ⟨D, 0, none⟩), v] wr fun e w' => e = .returned (.tuple #[]) ∧ ∃ tag', StepR tag tag' w.heap.size 1 1 wr w' ∧ Run w N D B (k + 1) ⟨m.s.add l, m.t, m.L, m.D⟩ G w' tag' := by
  have h1 := h.outs
  have hb : isBytes l := by obtain ⟨_, _, _, _, _, _, _, hb, _⟩ := hv; exact hb
  refine (boutcomes_ok wr tag w.heap.size 1 D B m h.bk h.below.size v l hv (by omega)).mono ?_
  rintro e w' ⟨rfl, tag', hS, hK⟩
  exact ⟨rfl, tag', hS, h.add hb h5 hS hK⟩

/-- The first book. -/
theorem run_fresh (wr : World) (hb : Below w.heap.size w wr) (n : Nat) (N' : Int) (hN : N' = n) (h1 : 1 ≤ n) (h2 : n ≤ 4096) :
    Calls Tryz.prog 22 #[.int .i64 N', .int .i64 0] wr fun e w' => ∃ D B tag', e = .returned (.tuple #[.pointer (some ⟨D, 0, none⟩), .pointer (some ⟨B, 0, none⟩)]) ∧ Run w n D B 0 (newB n 0) (wrtG (St.new n) ⟨0, 0, []⟩ [bootE 0] []) w' tag' := by
  refine (fresh_ok11 wr (fun _ => 0) w.heap.size 1 (Nat.le_refl _) hb.size n N' hN h1 h2 0 rfl).mono ?_
  rintro e w' ⟨D, B, tag', rfl, hK, hT, hB⟩
  obtain ⟨n1, n2, n3, n4, n5⟩ := newB_ok n h1 h2 0 rfl
  have hg := (wrtG_grew [bootE 0] (St.new n) ⟨0, 0, []⟩ (G := []) (fun x hx => by cases hx)).1
  exact ⟨D, B, tag', rfl, ⟨hK, n1, (new_sv n h1 h2 0).1, hg.sf, n2, by omega, by omega, by rw [n5]; simp, hg.len, fun j hj => hT j (Nat.lt_of_lt_of_le hj hb.size), hb.trans hB⟩⟩

/-- A crash, and what its disk shows. -/
theorem run_crash (h : Run w N D B k m G wr tag) (hk : k ≤ 150) (o : Nat) (v : Value) (ch : List Int) (hv : Bts wr v ch) :
    Calls Tryz.prog 13 #[.pointer (some ⟨D, 0, none⟩), v] wr fun e w' => ∃ p2 tag', e = .returned (.pointer (some ⟨p2.D, 0, none⟩)) ∧ PD w' tag' w.heap.size o (m.s.crash ch) p2 ∧ (∀ k, k < wr.heap.size → tag' k = tag k) ∧ Below wr.heap.size wr w' := by
  obtain ⟨p, q, kv, dv, k0, k1, k2, k3⟩ := h.bk
  exact crash_okD wr tag w.heap.size 1 o m.s p k1 h.below.size (by have := h.ok.nb.sin; omega) v ch hv D k0

theorem Run.found (h : Run w N D B k m G wr tag) (ch : List Int) : ∃ hh, bodK (m.s.crash ch).now (m.s.crash ch).n = hh ∧ Btw hh G := by
  obtain ⟨hh, e1, e2⟩ := Poss.found h.sv (Nat.zero_le _) (h.sv.possC h.ok.nb.ok ch)
  refine ⟨hh, ?_, e2⟩
  show bodK (m.s.crash ch).now m.s.n = hh
  rw [e1]
  rfl

theorem Run.foundN (h : Run w N D B k m G wr tag) : ∃ hh, bodK m.s.now m.s.n = hh ∧ Btw hh G := by
  obtain ⟨hh, e1, e2⟩ := Poss.found h.sv (Nat.zero_le _) h.sv.possN
  refine ⟨hh, ?_, e2⟩
  rw [e1]
  rfl

end

end Go.Proofs.YtafkkehcacdodaaGreat

namespace Go.Proofs.YtafkkehcacdodaaGreat
open Go.RowKit Go.Shelf

theorem spC_one (s : Sp) : ∀ u ∈ spC s, u.oneCell' = true := by
  intro u hu
  unfold spC at hu
  simp at hu
  rcases hu with rfl | rfl | rfl | rfl | rfl | rfl <;> rfl

theorem sp_news (w : World) (s : Sp) (j : Nat) (u : Value) (h : (spC s)[j]? = some u) : (w.alloc (.cells #[.int .u32 s.sub, .int .u32 s.addr, .int .i64 s.block, .int .i64 s.frm, .int .i64 s.til, .bool s.opn] 59)).cell? ⟨w.heap.size, j, none⟩ = some u := by
  rw [(blk_new w #[.int .u32 s.sub, .int .u32 s.addr, .int .i64 s.block, .int .i64 s.frm, .int .i64 s.til, .bool s.opn] _).cell]; exact h

/-- The row of asks: its tag is nobody's. -/
def AskR (w : World) (tag : Nat → Nat) (base : Nat) (v : Value) (L : List Sp) : Prop := Win w 6 v L.length (L.flatMap spC) ∧ ∀ g, v.ownBlock = some g → tag g = 641 ∧ base ≤ g

section
variable {w wr : World} {tag tag' : Nat → Nat} {base : Nat} {v : Value} {L : List Sp}

theorem AskR.step {lo hi : Nat} (h : AskR w tag base v L) (hS : StepR tag tag' base lo hi w wr) (hh : hi < 40 ∨ 40 < lo) : AskR wr tag' base v L :=
  ⟨h.1.same (fun g hg => hS.kept g (h.1.lt g hg) (by rw [(h.2 g hg).1]; omega)), fun g hg => by rw [hS.tags g (h.1.lt g hg)]; exact h.2 g hg⟩

theorem win_sps {w : World} {v : Value} {l : List Sp} (h : Win w 6 v l.length (l.flatMap spC)) : ∃ B O, Sps w v B O l := by
  rcases h.2 with ⟨h1, h2⟩ | ⟨g, o, cap, cs, h1, hb, h2, h3, h4, h5⟩
  · have hl : l = [] := List.eq_nil_of_length_eq_zero h2
    subst hl
    exact ⟨0, 0, none, 0, by rw [h1]; rfl, by simp, by decide, .inr rfl, fun i e he => by simp at he⟩
  · refine ⟨g, o, _, cap, h1, h2, h3, .inl rfl, fun i e he => ?_⟩
    have hlt := (List.getElem?_eq_some_iff.1 he).1
    have hr := hb.range o (l.length * 6)
    rw [h5] at hr
    have hg : ∀ j, j < 6 → (l.flatMap spC)[i * 6 + j]? = (spC e)[j]? := fun j hj => flat_get (f := spC) (fun s => show (spC s).length = 6 from rfl) he hj
    refine ⟨?_, ?_, ?_, ?_, ?_, ?_⟩
    · have := hr (i * 6 + 0) (.int .u32 e.sub) (by rw [hg 0 (by omega)]; rfl); simpa using this
    · have := hr (i * 6 + 1) (.int .u32 e.addr) (by rw [hg 1 (by omega)]; rfl); rwa [← Nat.add_assoc] at this
    · have := hr (i * 6 + 2) (.int .i64 e.block) (by rw [hg 2 (by omega)]; rfl); rwa [← Nat.add_assoc] at this
    · have := hr (i * 6 + 3) (.int .i64 e.frm) (by rw [hg 3 (by omega)]; rfl); rwa [← Nat.add_assoc] at this
    · have := hr (i * 6 + 4) (.int .i64 e.til) (by rw [hg 4 (by omega)]; rfl); rwa [← Nat.add_assoc] at this
    · have := hr (i * 6 + 5) (.bool e.opn) (by rw [hg 5 (by omega)]; rfl); rwa [← Nat.add_assoc] at this

/-- One more is asked for. -/
theorem AskR.push (h : AskR w tag base v L) (hbase : base ≤ w.heap.size) (hl : L.length ≤ 900000) (s : Sp) :
    ∃ a c a5 c5 w5 tag5, v = .slice a L.length c ∧ (Builtin.append_ #[57, 57] 57 #[.slice a L.length c, .slice (some ⟨w.heap.size, 0, none⟩) 1 1]).run Tryz.prog (w.alloc (.cells #[.int .u32 s.sub, .int .u32 s.addr, .int .i64 s.block, .int .i64 s.frm, .int .i64 s.til, .bool s.opn] 59)) = .ok (.slice a5 (L.length + 1) c5) w5 ∧
      AskR w5 tag5 base (.slice a5 (L.length + 1) c5) (L ++ [s]) ∧ StepR tag tag5 base 40 40 w w5 := by
  obtain ⟨a, c, hv, _, _⟩ := win_form h.1
  obtain ⟨i0, hi, hz0, hz1, hz2⟩ := info_parts infoSp
  have hB := below_alloc w (.cells #[.int .u32 s.sub, .int .u32 s.addr, .int .i64 s.block, .int .i64 s.frm, .int .i64 s.til, .bool s.opn] 59)
  have h1 : ([s].flatMap spC) = spC s := by rw [List.flatMap_cons, List.flatMap_nil, List.append_nil]
  obtain ⟨v', w5, hr, hwin, hg, hat⟩ := win_append (P := Tryz.prog) (w.alloc (.cells #[.int .u32 s.sub, .int .u32 s.addr, .int .i64 s.block, .int .i64 s.frm, .int .i64 s.til, .bool s.opn] 59)) 57 57 59 i0 _ 6 40 Tryz.underlying57 hi hz0 hz1 hz2 rfl (by decide) v L.length _ (h.1.later hB)
    (some ⟨w.heap.size, 0, none⟩) 1 1 (spC s) rfl (.inl ⟨_, rfl, fun j u hj => by rw [add_at, Nat.zero_add]; exact sp_news w s j u hj⟩) (spC_one s) (by unfold maxLen; omega) (by omega)
  obtain ⟨a5, c5, rfl, _⟩ := win_form hwin
  have hown : ∀ g, (Value.slice a5 (L.length + 1) c5).ownBlock = some g → v.ownBlock = some g ∨ w.heap.size ≤ g := fun g hgv => by
    rcases hat with e1 | e1
    · left; rw [← e1]; exact hgv
    · right; rw [e1] at hgv; simp at hgv; omega
  have hkp : ∀ g, g < w.heap.size → v.ownBlock ≠ some g → w5.heap[g]? = w.heap[g]? := fun g hlt hne =>
    (hg.block g (Nat.lt_of_lt_of_le hlt hB.size) (fun e => hne e.symm)).trans (hB.block g hlt)
  obtain ⟨tag5, ht5⟩ : ∃ t, t = retag (clip tag w.heap.size) (.slice a5 (L.length + 1) c5) 641 := ⟨_, rfl⟩
  have hown5 : ∀ g, (Value.slice a5 (L.length + 1) c5).ownBlock = some g → tag5 g = 641 := fun g hg => by rw [ht5]; simp [retag, hg]
  have hts : ∀ k, k < w.heap.size → tag5 k = tag k := fun k hk => by
    by_cases e : (Value.slice a5 (L.length + 1) c5).ownBlock = some k
    · rw [hown5 k e]
      rcases hown k e with e1 | e1
      · exact ((h.2 k e1).1).symm
      · omega
    · rw [ht5]
      unfold retag
      rw [if_neg e, clip_lt _ _ _ hk]
  refine ⟨a, c, a5, c5, w5, tag5, hv, by rw [← hv]; exact hr, ⟨?_, fun g hgv => ?_⟩, ⟨(hB.mono hbase).grown hg (Nat.le_trans hbase hB.size) (fun k hk => (h.2 k hk).2), hts, fun k hk hne => hkp k hk (fun e => by have := (h.2 k e).1; omega)⟩⟩
  · rw [List.flatMap_append, List.length_append, h1]; exact hwin
  · rcases hown g hgv with e1 | e1
    · exact ⟨hown5 g hgv, (h.2 g e1).2⟩
    · exact ⟨hown5 g hgv, by omega⟩

end

/-! ### Six numbers -/
def six (f : Nat → Int) : List Value := [.int .i64 (f 0), .int .i64 (f 1), .int .i64 (f 2), .int .i64 (f 3), .int .i64 (f 4), .int .i64 (f 5)]

theorem six_at (f : Nat → Int) {κ : Nat} (h : κ < 6) : (six f)[κ]? = some (.int .i64 (f κ)) := by
  match κ, h with
  | 0, _ => rfl
  | 1, _ => rfl
  | 2, _ => rfl
  | 3, _ => rfl
  | 4, _ => rfl
  | 5, _ => rfl

theorem six_set (f : Nat → Int) {κ : Nat} (h : κ < 6) (v : Int) : (six f).set κ (.int .i64 v) = six (upd f κ v) := by
  match κ, h with
  | 0, _ => rfl
  | 1, _ => rfl
  | 2, _ => rfl
  | 3, _ => rfl
  | 4, _ => rfl
  | 5, _ => rfl

/-- A row of six numbers, of a tag. -/
def Arr (w : World) (tag : Nat → Nat) (base ob T : Nat) (f : Nat → Int) : Prop := Blk w ob (six f) ∧ tag ob = T ∧ base ≤ ob

section
variable {w wr : World} {tag tag' : Nat → Nat} {base ob T : Nat} {f : Nat → Int}

theorem Arr.step {lo hi : Nat} (h : Arr w tag base ob T f) (hS : StepR tag tag' base lo hi w wr) (hh : hi < T / 16 ∨ T / 16 < lo) : Arr wr tag' base ob T f :=
  ⟨h.1.same (hS.kept ob h.1.lt (by rw [h.2.1]; omega)), by rw [hS.tags ob h.1.lt]; exact h.2.1, h.2.2⟩

theorem Arr.cell (h : Arr w tag base ob T f) {κ : Nat} (hκ : κ < 6) : w.cell? ⟨ob, κ, none⟩ = some (.int .i64 (f κ)) := by rw [h.1.cell κ]; exact six_at f hκ

theorem Arr.frozen (h : Arr w tag base ob T f) (κ : Nat) : w.frozen? ⟨ob, κ, none⟩ = false := h.1.frozen κ

theorem Arr.set (h : Arr w tag base ob T f) {κ : Nat} (hκ : κ < 6) (v : Int) : Arr (w.setCell ⟨ob, κ, none⟩ (.int .i64 v)) tag base ob T (upd f κ v) ∧ StepR tag tag base (T / 16) (T / 16) w (w.setCell ⟨ob, κ, none⟩ (.int .i64 v)) :=
  ⟨⟨by rw [← six_set f hκ]; exact h.1.set κ _, h.2.1, h.2.2⟩, (step_set tag base (T / 16) w h.2.2 (by rw [h.2.1]) κ _).range (Nat.le_refl _) (Nat.le_refl _)⟩

end

theorem Run.side {w : World} {N D B k : Nat} {m : Bm} {G : List Tr} {wr wr' : World} {tag tag' : Nat → Nat} {lo hi : Nat} (h : Run w N D B k m G wr tag) (hS : StepR tag tag' w.heap.size lo hi wr wr') (hl : 4 ≤ lo) : Run w N D B k m G wr' tag' :=
  ⟨h.bk.otherR hS (by omega), h.ok, h.sv, h.sf, h.n, h.outs, h.recs, h.L, h.G, fun j hj => by rw [hS.tags j (Nat.lt_of_lt_of_le hj h.below.size)]; exact h.z j hj, h.below.trans hS.below⟩

/-- Between two deeds. -/
structure TI (w : World) (D B ob tb k : Nat) (m : Bm) (G : List Tr) (ow tm : Nat → Int) (now : Int) (A : List Sp) (vq : Value) (wr : World) (tag : Nat → Nat) : Prop where
  run : Run w 400 D B k m G wr tag
  told : Told G m.D ow tm now A
  a1 : Arr wr tag w.heap.size ob 656 ow
  a2 : Arr wr tag w.heap.size tb 672 tm
  row : AskR wr tag w.heap.size vq A

section
variable {w : World} {D B ob tb k : Nat} {m : Bm} {G : List Tr} {ow tm : Nat → Int} {now : Int} {A : List Sp} {vq : Value} {wr wr' : World} {tag tag' : Nat → Nat}

theorem TI.next (h : TI w D B ob tb k m G ow tm now A vq wr tag) : TI w D B ob tb (k + 1) m G ow tm now A vq wr tag := ⟨h.run.next, h.told, h.a1, h.a2, h.row⟩
theorem TI.now' (h : TI w D B ob tb k m G ow tm now A vq wr tag) {now' : Int} (hn : now ≤ now') : TI w D B ob tb k m G ow tm now' A vq wr tag := ⟨h.run, h.told.now' hn, h.a1, h.a2, h.row⟩

theorem TI.put1 {ow' : Nat → Int} (h : Run w 400 D B k m G wr tag) (a1 : Arr wr tag w.heap.size ob 656 ow) (a2 : Arr wr tag w.heap.size tb 672 tm) (row : AskR wr tag w.heap.size vq A) {κ : Nat} (hκ : κ < 6) (v : Int) (ho : ow' = upd ow κ v) :
    Run w 400 D B k m G (wr.setCell ⟨ob, κ, none⟩ (.int .i64 v)) tag ∧ Arr (wr.setCell ⟨ob, κ, none⟩ (.int .i64 v)) tag w.heap.size ob 656 ow' ∧ Arr (wr.setCell ⟨ob, κ, none⟩ (.int .i64 v)) tag w.heap.size tb 672 tm ∧ AskR (wr.setCell ⟨ob, κ, none⟩ (.int .i64 v)) tag w.heap.size vq A := by
  obtain ⟨s1, s2⟩ := a1.set hκ v
  subst ho
  exact ⟨h.side s2 (by decide), s1, a2.step s2 (by decide), row.step s2 (by decide)⟩

theorem TI.put2 (h : Run w 400 D B k m G wr tag) (a1 : Arr wr tag w.heap.size ob 656 ow) (a2 : Arr wr tag w.heap.size tb 672 tm) (row : AskR wr tag w.heap.size vq A) {κ : Nat} (hκ : κ < 6) (v : Int) :
    Run w 400 D B k m G (wr.setCell ⟨tb, κ, none⟩ (.int .i64 v)) tag ∧ Arr (wr.setCell ⟨tb, κ, none⟩ (.int .i64 v)) tag w.heap.size ob 656 ow ∧ Arr (wr.setCell ⟨tb, κ, none⟩ (.int .i64 v)) tag w.heap.size tb 672 (upd tm κ v) ∧ AskR (wr.setCell ⟨tb, κ, none⟩ (.int .i64 v)) tag w.heap.size vq A := by
  obtain ⟨s1, s2⟩ := a2.set hκ v
  exact ⟨h.side s2 (by decide), a1.step s2 (by decide), s1, row.step s2 (by decide)⟩

end

end Go.Proofs.YtafkkehcacdodaaGreat

namespace Go.Proofs.YtafkkehcacdodaaGreat
open Go.RowKit Go.Shelf

/-- The lowest bits of any whole number. -/
theorem low_bits (x : Int) (i : Nat) (hi : i ≤ 62) : 0 ≤ bits .and .i64 x (2 ^ i - 1) ∧ bits .and .i64 x (2 ^ i - 1) < 2 ^ i := by
  obtain ⟨a, ha⟩ : ∃ a, (BitVec.ofInt 64 x).toNat = a := ⟨_, rfl⟩
  have hp : 2 ^ i ≤ 2 ^ 62 := Nat.pow_le_pow_right (by omega) hi
  have hp0 : 0 < 2 ^ i := Nat.pow_pos (by omega)
  have e0 : ((2 : Int) ^ i - 1) = ((2 ^ i - 1 : Nat) : Int) := by
    rw [Int.ofNat_sub (by omega)]
    simp
  have e2 : (BitVec.ofInt 64 ((2 ^ i - 1 : Nat) : Int)).toNat = 2 ^ i - 1 := by
    rw [BitVec.ofInt_natCast, BitVec.toNat_ofNat]; exact Nat.mod_eq_of_lt (by omega)
  have e : bits .and .i64 x (2 ^ i - 1) = ((a % 2 ^ i : Nat) : Int) := by
    rw [e0]
    show IntKind.i64.wrap ((BitVec.ofInt 64 x &&& BitVec.ofInt 64 ((2 ^ i - 1 : Nat) : Int)).toNat : Int) = _
    rw [BitVec.toNat_and, ha, e2, Nat.and_two_pow_sub_one_eq_mod]
    have := Nat.mod_lt a hp0
    exact i64_id _ (by omega) (by omega)
  have hm := Nat.mod_lt a hp0
  rw [e]
  refine ⟨by omega, ?_⟩
  have e3 : ((2 : Int) ^ i) = ((2 ^ i : Nat) : Int) := by simp
  rw [e3]
  omega

theorem and_three (x : Int) : 0 ≤ bits .and .i64 x 3 ∧ bits .and .i64 x 3 ≤ 3 := by
  have h := low_bits x 2 (by omega)
  have e : ((2 : Int) ^ 2 - 1) = 3 := by decide
  have e4 : ((2 : Int) ^ 2) = 4 := by decide
  rw [e, e4] at h
  omega

theorem and_k (x : Int) : 0 ≤ bits .and .i64 x 1023 ∧ bits .and .i64 x 1023 ≤ 1023 := by
  have h := low_bits x 10 (by omega)
  have e : ((2 : Int) ^ 10 - 1) = 1023 := by decide
  have e4 : ((2 : Int) ^ 10) = 1024 := by decide
  rw [e, e4] at h
  omega

theorem upd_upd (f : Nat → Int) (κ : Nat) (u v : Int) : upd (upd f κ u) κ v = upd f κ v := by
  funext i
  unfold upd
  split <;> rfl

theorem ka_in (κ : Nat) : 0 ≤ ka κ ∧ ka κ ≤ 1 := by unfold ka; omega

theorem kb_in {κ : Nat} (h : κ < 6) : 0 ≤ kb κ ∧ kb κ ≤ 2 := by unfold kb; omega

section
variable {w : World} {D B ob tb k : Nat} {m : Bm} {G : List Tr} {ow tm : Nat → Int} {now : Int} {A : List Sp} {vq : Value} {wr wr' : World} {tag tag' : Nat → Nat}

theorem TI.fresh (h : TI w D B ob tb k m G ow tm now A vq wr tag) (hb : Below wr.heap.size wr wr') : TI w D B ob tb k m G ow tm now A vq wr' tag := by
  have hS : StepR tag tag w.heap.size 50 50 wr wr' := stepR_new tag w.heap.size 50 50 h.run.below.size hb
  exact ⟨h.run.side hS (by decide), h.told, h.a1.step hS (by decide), h.a2.step hS (by decide), h.row.step hS (by decide)⟩

/-- The memory alone. -/
def P4 (w : World) (D B ob tb k : Nat) (m : Bm) (G : List Tr) (ow tm : Nat → Int) (A : List Sp) (vq : Value) (wr : World) (tag : Nat → Nat) : Prop :=
  Run w 400 D B k m G wr tag ∧ Arr wr tag w.heap.size ob 656 ow ∧ Arr wr tag w.heap.size tb 672 tm ∧ AskR wr tag w.heap.size vq A

theorem TI.p4 (h : TI w D B ob tb k m G ow tm now A vq wr tag) : P4 w D B ob tb k m G ow tm A vq wr tag := ⟨h.run, h.a1, h.a2, h.row⟩

theorem P4.step {lo hi : Nat} (h : P4 w D B ob tb k m G ow tm A vq wr tag) (hS : StepR tag tag' w.heap.size lo hi wr wr') (h1 : 4 ≤ lo) (h2 : hi < 40 ∨ 42 < lo) : P4 w D B ob tb k m G ow tm A vq wr' tag' :=
  ⟨h.1.side hS h1, h.2.1.step hS (by omega), h.2.2.1.step hS (by omega), h.2.2.2.step hS (by omega)⟩

theorem P4.fresh (h : P4 w D B ob tb k m G ow tm A vq wr tag) (hb : Below wr.heap.size wr wr') : P4 w D B ob tb k m G ow tm A vq wr' tag :=
  h.step (stepR_new tag w.heap.size 50 50 h.1.below.size hb) (by decide) (by decide)

/-- One more is asked for, in a region that draws its order. -/
theorem P4.push (h : P4 w D B ob tb k m G ow tm A vq wr tag) (hl : A.length ≤ 900000) (s : Sp) :
    ∃ a c a5 c5 w5 tag5, vq = .slice a A.length c ∧ (Builtin.append_ #[57, 57] 57 #[.slice a A.length c, .slice (some ⟨wr.heap.size, 0, none⟩) 1 1]).run Tryz.prog (wr.alloc (.cells #[.int .u32 s.sub, .int .u32 s.addr, .int .i64 s.block, .int .i64 s.frm, .int .i64 s.til, .bool s.opn] 59)) = .ok (.slice a5 (A.length + 1) c5) w5 ∧
      P4 w D B ob tb k m G ow tm (A ++ [s]) (.slice a5 (A.length + 1) c5) w5 tag5 := by
  obtain ⟨a, c, a5, c5, w5, tag5, e1, e2, e3, hS⟩ := h.2.2.2.push h.1.below.size hl s
  exact ⟨a, c, a5, c5, w5, tag5, e1, e2, h.1.side hS (by decide), h.2.1.step hS (by decide), h.2.2.1.step hS (by decide), e3⟩

end

end Go.Proofs.YtafkkehcacdodaaGreat
