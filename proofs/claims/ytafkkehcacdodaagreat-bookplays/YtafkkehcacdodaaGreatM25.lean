/- ready, release, Grant, Release. -/
import Derived.Test.YtafkkehcacdodaaGreatM23
import Derived.Test.YtafkkehcacdodaaGreatM24
import Derived.Test.YtafkkehcacdodaaGreatM17
import Derived.Test.YtafkkehcacdodaaGreatM8
import Derived.Test.YtafkkehcacdodaaGreatM11
import Derived.Test.YtafkkehcacdodaaGreatTraSame
import Derived.Deep.LoopGhost
import Derived.Deep.CutRange
import Derived.Deep.CutBlock
import Derived.KernelRfl
import Derived.Test.YtafkkehcacdodaaGreatM9
import Derived.Deep.Slices
set_option maxRecDepth 100000
namespace Go.Proofs.YtafkkehcacdodaaGreat
open Go.RowKit

/-- The steps of ready. -/
def fsR : Nat → Nat
  | 0 => 83
  | _ => 84

/-- What ready answers. -/
def Bm.readyE (b : Bm) (e : En) : Int := if checkE e ≠ 0 then checkE e else b.payE
def Bm.ready (b : Bm) (e : En) : Bm := if checkE e ≠ 0 then b else b.pay

/-- Between two steps. -/
structure IR (tag : Nat → Nat) (base o D B : Nat) (b : Bm) (lv : Value) (e : En) (W0 : World) (j : Nat) (W : World) (tag' : Nat → Nat) : Prop where
  step : StepR tag tag' base o (o + 2) W0 W
  bk : BK W tag' base o D B (if j ≤ 1 then b else b.pay)
  win : j = 0 → Win W 5 lv 1 (eL5 e)
  e1 : 1 ≤ j → checkE e = 0
  e2 : 2 ≤ j → b.payE = 0

def ER (tag : Nat → Nat) (base o D B : Nat) (b : Bm) (e : En) (W0 : World) (x : Int) (W : World) : Prop :=
  ∃ tag', StepR tag tag' base o (o + 2) W0 W ∧ BK W tag' base o D B (b.ready e) ∧ x = b.readyE e

theorem steps_r (tag : Nat → Nat) (base o D B : Nat) (ho : 1 ≤ o) (b : Bm) (lv : Value) (e : En) (W0 : World) (hbase : base ≤ W0.heap.size) (SB EB : Nat) (hSB : SB < W0.heap.size) (hEB : EB < W0.heap.size) (htS : tag SB / 16 < o) (htE : tag EB / 16 < o)
    (hcS : ∀ j, j < 2 → W0.cell? ⟨SB, j, none⟩ = some (.func (.func (fsR j)) #[.pointer (some ⟨B, 0, none⟩)] #[])) (hcE : W0.cell? ⟨EB, 0, none⟩ = some (.int .i64 0)) (hfE : W0.frozen? ⟨EB, 0, none⟩ = false)
    (q : Nat) (hb : b.Ok q) (hq : q ≤ 800000) (hout : b.s.outs.length ≤ 900000) (hrec : b.t.recs.length ≤ 800000) (hL : b.L.length ≤ 800000) :
    Steps9 2 fsR (.pointer (some ⟨B, 0, none⟩)) lv EB SB (fun j W => ∃ tag', IR tag base o D B b lv e W0 j W tag') (ER tag base o D B b e W0) := by
  refine ⟨?_, ?_, ?_, ?_, ?_⟩
  · rintro j hj W ⟨tag', hI⟩
    rw [(stepR_cell hI.step hSB htS j).1]; exact hcS j hj
  · intro j hj
    match j with
    | 0 => exact enters_may
    | j + 1 => exact enters_settle
  · rintro j hj W ⟨tag', hI⟩
    have hbW : base ≤ W.heap.size := Nat.le_trans hbase hI.step.below.size
    match j with
    | 0 =>
      refine (bmay_ok W _ lv e (hI.win rfl)).mono ?_
      rintro r w' ⟨h1, rfl⟩
      have hst : StepR tag' tag' base o (o + 2) W w' := stepR_new tag' base o (o + 2) hbW h1
      have hbk : BK w' tag' base o D B b := by
        obtain ⟨p, q', kv, dv, k0, k1, k2, k3⟩ := hI.bk
        exact ⟨p, q', kv, dv, k0, k1.later h1, k2.later h1, k3.later h1⟩
      by_cases hE : checkE e = 0
      · left
        exact ⟨by rw [hE]; rfl, tag', hI.step.trans hst, hbk, fun h => absurd h (by omega), fun _ => hE, fun h => absurd h (by omega)⟩
      · right
        refine ⟨checkE e, stepEnd_no hE, hE, tag', hI.step.trans hst, ?_, ?_⟩
        · unfold Bm.ready; rw [if_pos hE]; exact hbk
        · unfold Bm.readyE; rw [if_pos hE]
    | 1 =>
      have hc := hI.e1 (by omega)
      refine (bsettle_ok W tag' base o D B ho b hI.bk hbW lv q hb hq hout hrec hL).mono ?_
      rintro r w' ⟨tag2, h1, h2, rfl⟩
      by_cases hE : b.payE = 0
      · left
        exact ⟨by rw [hE]; rfl, tag2, hI.step.trans h1, h2, fun h => absurd h (by omega), fun _ => hc, fun _ => hE⟩
      · right
        refine ⟨b.payE, stepEnd_no hE, hE, tag2, hI.step.trans h1, ?_, ?_⟩
        · unfold Bm.ready; rw [if_neg (by simpa using hc)]; exact h2
        · unfold Bm.readyE; rw [if_neg (by simpa using hc)]
    | j + 2 => omega
  · rintro j hj W ⟨tag', hI⟩
    have := stepR_cell hI.step hEB htE 0
    exact ⟨by rw [this.1]; exact hcE, by rw [this.2]; exact hfE⟩
  · rintro x W ⟨tag', h1, _⟩
    have := stepR_cell h1 hEB htE 0
    exact ⟨by rw [this.1]; exact hcE, by rw [this.2]; exact hfE⟩

theorem win_one (w : World) (C : Array Value) (t : TypeId) (h5 : C.size = 5) : Win (w.alloc (.cells C t)) 5 (.slice (some ⟨w.heap.size, 0, none⟩) 1 1) 1 C.toList := by
  refine ⟨by simp [h5], .inr ⟨w.heap.size, 0, 1, C.toList, rfl, ⟨t, ?_⟩, Nat.le_refl _, by decide, by simp [h5], ?_⟩⟩
  · rw [World.alloc_heap_new]
  · rw [List.drop_zero]; exact List.take_of_length_le (by simp [h5])

set_option maxHeartbeats 2000000 in
theorem bready_ok (w : World) (tag : Nat → Nat) (base o D B : Nat) (ho : 1 ≤ o) (b : Bm) (h : BK w tag base o D B b) (hbase : base ≤ w.heap.size) (e : En) (q : Nat) (hb : b.Ok q)
    (hq : q ≤ 800000) (hout : b.s.outs.length ≤ 900000) (hrec : b.t.recs.length ≤ 800000) (hL : b.L.length ≤ 800000) :
    Calls Tryz.prog 45 #[.pointer (some ⟨B, 0, none⟩), enV e] w fun r w' => r = .returned (.int .i64 (b.readyE e)) ∧ ∃ tag', StepR tag tag' base o (o + 2) w w' ∧ BK w' tag' base o D B (b.ready e) := by
  have hmf : ∀ (fn : Fn) (first cap : Array Value) (w : World), (Instr.makeFunc fn first cap).run Tryz.prog w = .ok (.func fn first cap) w := fun _ _ _ _ => rfl
  obtain ⟨wa, hwa⟩ : ∃ wa, wa = w.alloc (.cells (enC e) 73) := ⟨_, rfl⟩
  obtain ⟨wb, hwb⟩ : ∃ wb, wb = wa.alloc (.cells (enC e) 73) := ⟨_, rfl⟩
  obtain ⟨w1, hw1⟩ : ∃ w1, w1 = wb.alloc (.cells #[.func (.func 83) #[.pointer (some ⟨B, 0, none⟩)] #[], .func (.func 84) #[.pointer (some ⟨B, 0, none⟩)] #[]] 150) := ⟨_, rfl⟩
  obtain ⟨W0, hW0⟩ : ∃ W0, W0 = w1.alloc (.cells #[.int .i64 0] 26) := ⟨_, rfl⟩
  have hsa : wa.heap.size = w.heap.size + 1 := by rw [hwa]; simp
  have hsb : wb.heap.size = w.heap.size + 2 := by rw [hwb]; simp [hsa]
  have hs1 : w1.heap.size = w.heap.size + 3 := by rw [hw1]; simp [hsb]
  have hs0 : W0.heap.size = w.heap.size + 4 := by rw [hW0]; simp [hs1]
  have hBa : Below w.heap.size w wa := by rw [hwa]; exact below_alloc _ _
  have hBb : Below w.heap.size w wb := by rw [hwb]; exact hBa.trans ((below_alloc wa _).mono (by omega))
  have hB1 : Below w.heap.size w w1 := by rw [hw1]; exact hBb.trans ((below_alloc wb _).mono (by omega))
  have hB0 : Below w.heap.size w W0 := by rw [hW0]; exact hB1.trans ((below_alloc w1 _).mono (by omega))
  have hcl : ∀ g, w.heap.size ≤ g → clip tag w.heap.size g / 16 < o := fun g hg => by simp [clip, Nat.not_lt.2 hg]; omega
  have hcE : W0.cell? ⟨w.heap.size + 3, 0, none⟩ = some (.int .i64 0) := by rw [hW0, ← hs1]; simp
  have hfE : W0.frozen? ⟨w.heap.size + 3, 0, none⟩ = false := by rw [hW0, ← hs1]; simp
  have hcS : ∀ j, j < 2 → W0.cell? ⟨w.heap.size + 2, j, none⟩ = some (.func (.func (fsR j)) #[.pointer (some ⟨B, 0, none⟩)] #[]) := by
    intro j hj
    have : w1.cell? ⟨w.heap.size + 2, j, none⟩ = some (.func (.func (fsR j)) #[.pointer (some ⟨B, 0, none⟩)] #[]) := by
      rw [hw1, ← hsb]
      match j, hj with
      | 0, _ => simp; rfl
      | 1, _ => simp; rfl
    rw [hW0]; exact cell_later (below_alloc w1 _) this
  have hwinb : Win wb 5 (.slice (some ⟨w.heap.size + 1, 0, none⟩) 1 1) 1 (eL5 e) := by
    have := win_one wa (enC e) 73 rfl
    rw [← hwb, hsa] at this
    exact this
  have hwin0 : Win W0 5 (.slice (some ⟨w.heap.size + 1, 0, none⟩) 1 1) 1 (eL5 e) := by
    have k1 : Win w1 5 (.slice (some ⟨w.heap.size + 1, 0, none⟩) 1 1) 1 (eL5 e) := by rw [hw1]; exact hwinb.later (below_alloc _ _)
    rw [hW0]; exact k1.later (below_alloc _ _)
  have hSt := steps_r (clip tag w.heap.size) base o D B ho b (.slice (some ⟨w.heap.size + 1, 0, none⟩) 1 1) e W0 (by omega) (w.heap.size + 2) (w.heap.size + 3) (by omega) (by omega) (hcl _ (by omega)) (hcl _ (by omega)) hcS hcE hfE q hb hq hout hrec hL
  have hI0 : IR (clip tag w.heap.size) base o D B b (.slice (some ⟨w.heap.size + 1, 0, none⟩) 1 1) e W0 0 W0 (clip tag w.heap.size) := ⟨StepR.refl _ _ _ _ _, h.new hB0, fun _ => hwin0, fun h => absurd h (by omega), fun h => absurd h (by omega)⟩
  rw [← hs1] at hSt
  have HT := btake_any 2 2 (Nat.le_refl _) (by decide) fsR (.pointer (some ⟨B, 0, none⟩)) (.slice (some ⟨w.heap.size + 1, 0, none⟩) 1 1) (w.heap.size + 2) w1 _ _ hSt ⟨_, by rw [← hW0]; exact hI0⟩
  have HFin : Hid (∀ x W, ((x = 0 ∧ ∃ tag', IR (clip tag w.heap.size) base o D B b (.slice (some ⟨w.heap.size + 1, 0, none⟩) 1 1) e W0 2 W tag') ∨ (x ≠ 0 ∧ ER (clip tag w.heap.size) base o D B b e W0 x W)) → x = b.readyE e ∧ ∃ tag', StepR tag tag' base o (o + 2) w (W.setCell ⟨w.heap.size + 3, 0, none⟩ (.int .i64 x)) ∧
      BK (W.setCell ⟨w.heap.size + 3, 0, none⟩ (.int .i64 x)) tag' base o D B (b.ready e)) := by
    rintro x W (⟨rfl, tag', hI⟩ | ⟨hx, tag', h1, h2, rfl⟩)
    · have hz := hI.e1 (by omega)
      have hz2 := hI.e2 (by omega)
      obtain ⟨k1, k2⟩ := bk_last ho hbase hB0 hI.step hI.bk (g := w.heap.size + 3) (by omega) (by omega) (.int .i64 0)
      refine ⟨?_, tag', k1, ?_⟩
      · unfold Bm.readyE; rw [if_neg (by simpa using hz), hz2]
      · unfold Bm.ready; rw [if_neg (by simpa using hz)]; exact k2
    · obtain ⟨k1, k2⟩ := bk_last ho hbase hB0 h1 h2 (g := w.heap.size + 3) (by omega) (by omega) (.int .i64 (b.readyE e))
      exact ⟨rfl, tag', k1, k2⟩
  have HM := bmade_ok wa (clip tag w.heap.size) base o D B b (h.new hBa)
  clear h hSt hI0 hcS hcE hfE hB0 hB1 hcl hb hwin0 hwinb hBa hBb
  generalize b.readyE e = X at *
  generalize b.ready e = B2 at *
  rw [hw1, hwb, hwa] at HT
  rw [hwa] at HM
  obtain ⟨k0, k1, k2, k3, k4⟩ := e
  go_enter Tryz.func45, Tryz.ntmps45
  go_wp2_with fail
  refine (by exact HM : Calls _ _ _ _ _).mono ?_
  rintro r w' ⟨rfl, hx⟩
  rw [hx]
  clear hx HM
  go_wp2_with fail
  refine (by exact HT : Calls _ _ _ _ _).mono ?_
  rintro r w' ⟨x, W, rfl, rfl, hx⟩
  have hfin := HFin.out x W hx
  rw [← hwa, ← hwb, ← hw1, hs1]
  clear hx HT HFin
  obtain ⟨rfl, hfin⟩ := hfin
  go_wp2
  go_ret
  exact ⟨rfl, hfin⟩

end Go.Proofs.YtafkkehcacdodaaGreat

namespace Go.Proofs.YtafkkehcacdodaaGreat
open Go.RowKit Go.Shelf

theorem put_ready (b : Bm) (e : En) : (b.readyE e ≠ 0 ∧ b.putE e = b.readyE e ∧ b.put e = b.ready e) ∨ (b.readyE e = 0 ∧ checkE e = 0 ∧ b.payE = 0 ∧ b.ready e = b.pay ∧ b.putE e = wrtE b.pay.s b.pay.t [e] ∧ b.put e = b.pay.wrote e) := by
  unfold Bm.readyE Bm.ready Bm.putE Bm.put
  by_cases hc : checkE e = 0
  · have hc' : ¬ checkE e ≠ 0 := by simpa using hc
    rw [if_neg hc', if_neg hc', if_neg hc', if_neg hc']
    by_cases hp : b.payE = 0
    · have hp' : ¬ b.payE ≠ 0 := by simpa using hp
      rw [if_neg hp', if_neg hp']
      exact .inr ⟨hp, hc, hp, rfl, rfl, rfl⟩
    · rw [if_pos hp, if_pos hp]
      exact .inl ⟨hp, rfl, rfl⟩
  · rw [if_pos hc, if_pos hc, if_pos hc, if_pos hc]
    exact .inl ⟨hc, rfl, rfl⟩

set_option maxHeartbeats 400000 in
theorem brel_ok (w : World) (now addr block : Int) : Calls Tryz.prog 46 #[.int .i64 now, .int .u32 addr, .int .i64 block] w fun r w' => r = .returned (enV ⟨3, now, 0, addr, block⟩) ∧ Below w.heap.size w w' := by
  go_enter Tryz.func46, Tryz.ntmps46
  go_wp2
  simp [bodyPost, results, Tryz.results46, go_sem]
  exact below_alloc _ _

theorem enters_rel : ∀ (args : Array Value) (w : World), (callFunc 46 args).run Tryz.prog w = .ok (.enter 46 args) w := enters_of Tryz.func46 (by kernel_rfl) rfl

theorem wrote_same {b : Bm} {e : En} (h : ¬ (wrtE b.s b.t [e] ≠ 0 ∧ e.kind = 2 ∧ wrtE b.s b.t [e] ≠ 6)) : b.wrote e = wrB b [e] := by
  unfold Bm.wrote wrB
  rw [if_neg h]

theorem wrote_owe {b : Bm} {e : En} (h : wrtE b.s b.t [e] ≠ 0 ∧ e.kind = 2 ∧ wrtE b.s b.t [e] ≠ 6) : b.wrote e = ⟨(wrB b [e]).s, (wrB b [e]).t, (wrB b [e]).L, (wrB b [e]).D ++ [relE e]⟩ := by
  unfold Bm.wrote wrB
  rw [if_pos h]

/-- A slice of one entry that was just made. -/
theorem far_one {w : World} {tag : Nat → Nat} {base o D B : Nat} {b : Bm} (h : BK w tag base o D B b) (ho : 1 ≤ o) (hbase : base ≤ w.heap.size) (e : En) :
    BK (w.alloc (.cells (enC e) 73)) (clip tag w.heap.size) base o D B b ∧ Far (w.alloc (.cells (enC e) 73)) (clip tag w.heap.size) o (o + 1) (.slice (some ⟨w.heap.size, 0, none⟩) 1 1) [e] ∧
    StepR tag (clip tag w.heap.size) base o (o + 2) w (w.alloc (.cells (enC e) 73)) ∧ base ≤ (w.alloc (.cells (enC e) 73)).heap.size := by
  have hB := below_alloc w (.cells (enC e) 73)
  refine ⟨h.new hB, ⟨?_, fun g hg => ?_⟩, stepR_clip tag base o (o + 2) hbase hB, Nat.le_trans hbase hB.size⟩
  · have := win_one w (enC e) 73 rfl
    rw [List.flatMap_cons, List.flatMap_nil, List.append_nil]
    exact this
  · simp [Value.ownBlock] at hg
    subst hg
    simp [clip]; omega

set_option maxHeartbeats 1000000 in
theorem brelease_ok (w : World) (tag : Nat → Nat) (base o D B : Nat) (ho : 1 ≤ o) (b : Bm) (h : BK w tag base o D B b) (hbase : base ≤ w.heap.size) (now addr block : Int) (hok : En.Ok ⟨3, now, 0, addr, block⟩) (q : Nat) (hb : b.Ok q)
    (hq : q ≤ 700000) (hout : b.s.outs.length ≤ 900000) (hrec : b.t.recs.length ≤ 700000) (hL : b.L.length ≤ 700000) :
    Calls Tryz.prog 17 #[.pointer (some ⟨B, 0, none⟩), .int .i64 now, .int .u32 addr, .int .i64 block] w fun r w' => r = .returned (.int .i64 (b.putE ⟨3, now, 0, addr, block⟩)) ∧ ∃ tag', StepR tag tag' base o (o + 2) w w' ∧ BK w' tag' base o D B (b.put ⟨3, now, 0, addr, block⟩) := by
  have HRel := fun w1 => brel_ok w1 now addr block
  obtain ⟨e, he⟩ : ∃ e : En, e = ⟨3, now, 0, addr, block⟩ := ⟨_, rfl⟩
  rw [← he] at HRel hok ⊢
  have HK : Hid (e.kind = 3) := by show _ = _; rw [he]
  have HH : Hid (BK w tag base o D B b) := h
  have HPR : Hid ((b.readyE e ≠ 0 ∧ b.putE e = b.readyE e ∧ b.put e = b.ready e) ∨ (b.readyE e = 0 ∧ checkE e = 0 ∧ b.payE = 0 ∧ b.ready e = b.pay ∧ b.putE e = wrtE b.pay.s b.pay.t [e] ∧ b.put e = b.pay.wrote e)) := put_ready b e
  have HReady : ∀ w1 tag1, Hid (StepR tag tag1 base o (o + 2) w w1 → BK w1 tag1 base o D B b → Calls Tryz.prog 45 #[.pointer (some ⟨B, 0, none⟩), enV e] w1 fun r w' => r = .returned (.int .i64 (b.readyE e)) ∧ ∃ tag', StepR tag1 tag' base o (o + 2) w1 w' ∧ BK w' tag' base o D B (b.ready e)) :=
    fun w1 tag1 hs hbk => bready_ok w1 tag1 base o D B ho b hbk (Nat.le_trans hbase hs.below.size) e q hb (by omega) hout (by omega) (by omega)
  clear h he
  obtain ⟨k0, k1, k2, k3, k4⟩ := e
  go_enter Tryz.func17, Tryz.ntmps17
  go_wp2_with fail
  refine (by exact HRel _ : Calls _ _ _ _ _).mono ?_
  rintro r wr ⟨rfl, hBr⟩
  obtain ⟨W, hW⟩ : ∃ W, W = wr.alloc (.cells #[.int .i64 k0, .int .i64 k1, .int .u32 k2, .int .u32 k3, .int .i64 k4] 73) := ⟨_, rfl⟩
  have hBW : Below w.heap.size w W := by rw [hW]; exact hBr.trans ((below_alloc _ _).mono hBr.size)
  have hbW := HH.out.new hBW
  have hR := (HReady W _).out (stepR_clip tag base o (o + 2) hbase hBW) hbW
  have c0 : W.cell? ⟨wr.heap.size, 0, none⟩ = some (.int .i64 k0) := by rw [hW]; simp
  have c1 : W.cell? ⟨wr.heap.size, 1, none⟩ = some (.int .i64 k1) := by rw [hW]; simp
  have c2 : W.cell? ⟨wr.heap.size, 2, none⟩ = some (.int .u32 k2) := by rw [hW]; simp
  have c3 : W.cell? ⟨wr.heap.size, 3, none⟩ = some (.int .u32 k3) := by rw [hW]; simp
  have c4 : W.cell? ⟨wr.heap.size, 4, none⟩ = some (.int .i64 k4) := by rw [hW]; simp
  have hWs : W.heap.size = wr.heap.size + 1 := by rw [hW]; simp
  have hwr := hBr.size
  have htw : clip tag w.heap.size wr.heap.size / 16 < o := by simp [clip, Nat.not_lt.2 hwr]; omega
  have HS0 : Hid (StepR tag (clip tag w.heap.size) base o (o + 2) w W) := stepR_clip tag base o (o + 2) hbase hBW
  have HC : Hid (∀ w2 tag2, StepR (clip tag w.heap.size) tag2 base o (o + 2) W w2 → w2.cell? ⟨wr.heap.size, 0, none⟩ = some (.int .i64 k0) ∧ w2.cell? ⟨wr.heap.size, 1, none⟩ = some (.int .i64 k1) ∧ w2.cell? ⟨wr.heap.size, 2, none⟩ = some (.int .u32 k2) ∧ w2.cell? ⟨wr.heap.size, 3, none⟩ = some (.int .u32 k3) ∧ w2.cell? ⟨wr.heap.size, 4, none⟩ = some (.int .i64 k4)) := fun w2 tag2 h2 =>
    ⟨((stepR_cell h2 (by omega) htw 0).1).trans c0, ((stepR_cell h2 (by omega) htw 1).1).trans c1, ((stepR_cell h2 (by omega) htw 2).1).trans c2, ((stepR_cell h2 (by omega) htw 3).1).trans c3, ((stepR_cell h2 (by omega) htw 4).1).trans c4⟩
  rw [hW] at hR
  go_wp2_with fail
  refine (by exact hR : Calls _ _ _ _ _).mono ?_
  rintro r w2 ⟨rfl, tag2, hS2, hB2⟩
  rw [← hW] at hS2
  obtain ⟨c0, c1, c2, c3, c4⟩ := HC.out w2 tag2 hS2
  have HS2 : Hid (StepR tag tag2 base o (o + 2) w w2) := HS0.out.trans hS2
  have hbw2 : base ≤ w2.heap.size := Nat.le_trans hbase HS2.out.below.size
  clear hR HC HReady hBW hbW hS2 hWs htw
  rcases HPR.out with ⟨p1, p2, p3⟩ | ⟨p1, p2, p3, p4, p5, p6⟩
  · have HB2 : Hid (BK w2 tag2 base o D B (b.put ⟨k0, k1, k2, k3, k4⟩)) := by rw [p3]; exact hB2
    have HP2 : Hid (b.putE ⟨k0, k1, k2, k3, k4⟩ = b.readyE ⟨k0, k1, k2, k3, k4⟩) := p2
    clear hB2 p2 p3
    generalize b.readyE ⟨k0, k1, k2, k3, k4⟩ = X at *
    go_wp2
    go_ret
    exact ⟨by rw [HP2.out]; rfl, tag2, HS2.out, HB2.out⟩
  · rw [p1]
    have HP5 : Hid (b.putE ⟨k0, k1, k2, k3, k4⟩ = wrtE b.pay.s b.pay.t [⟨k0, k1, k2, k3, k4⟩]) := p5
    have HP6 : Hid (b.put ⟨k0, k1, k2, k3, k4⟩ = b.pay.wrote ⟨k0, k1, k2, k3, k4⟩) := p6
    rw [p4] at hB2
    obtain ⟨f1, f2, f3, f4⟩ := far_one hB2 ho hbw2 ⟨k0, k1, k2, k3, k4⟩
    obtain ⟨hpo, hgr, hpd⟩ := hb.pay
    have hgn := hgr.sn
    have hgo := hgr.outs
    have hgr1 := hgr.recs
    have hgl := hgr.L
    have HWr := bwrite_ok _ _ base o D B ho b.pay f1 f4 (.slice (some ⟨w2.heap.size, 0, none⟩) 1 1) [⟨k0, k1, k2, k3, k4⟩] f2 (.one (checkE_zero p2) hok) (q + 2) hpo.nb (by simp; omega) (by omega) (by simp; omega) (by simp; omega)
    have HF : Hid (b.pay.wrote ⟨k0, k1, k2, k3, k4⟩ = wrB b.pay [⟨k0, k1, k2, k3, k4⟩]) := wrote_same (fun h => by have h2 : k0 = 2 := h.2.1; have h3 : k0 = 3 := HK.out; omega)
    have HSt : Hid (StepR tag2 (clip tag2 w2.heap.size) base o (o + 2) w2 (w2.alloc (.cells (enC ⟨k0, k1, k2, k3, k4⟩) 73))) := f3
    clear f1 f2 f3 f4 hB2 hb hpo hgr p1 p2 p3 p4 p5 p6
    go_wp2_with fail
    refine (by exact HWr : Calls _ _ _ _ _).mono ?_
    rintro r w3 ⟨rfl, tag3, hS3, hB3⟩
    have HB3 : Hid (BK w3 tag3 base o D B (wrB b.pay [⟨k0, k1, k2, k3, k4⟩])) := hB3
    have HS3 : Hid (StepR tag tag3 base o (o + 2) w w3) := (HS2.out.trans HSt.out).trans hS3
    clear hB3 hS3 HWr
    go_wp2
    go_ret
    exact ⟨by rw [HP5.out]; rfl, tag3, HS3.out, by rw [HP6.out, HF.out]; exact HB3.out⟩

/-- A debt more. -/
theorem owe_row (w3 : World) (tag3 : Nat → Nat) (base o D B : Nat) (b : Bm) (h : BK w3 tag3 base o D B b) (hbase : base ≤ w3.heap.size) (hD : b.D.length ≤ 1000) (r : En) :
    ∃ a c, w3.cell? ⟨B, 2, none⟩ = some (.slice a b.D.length c) ∧ ∀ w4, Below w3.heap.size w3 w4 → ∃ a5 c5 w5, (Builtin.append_ #[63, 63] 63 #[.slice a b.D.length c, .slice (some ⟨w4.heap.size, 0, none⟩) 1 1]).run Tryz.prog (w4.alloc (.cells (enC r) 73)) = .ok (.slice a5 (b.D.length + 1) c5) w5 ∧
      w5.cell? ⟨B, 2, none⟩ = some (.slice a b.D.length c) ∧ w5.frozen? ⟨B, 2, none⟩ = false ∧ ∃ tag', StepR tag3 tag' base o (o + 2) w3 (w5.setCell ⟨B, 2, none⟩ (.slice a5 (b.D.length + 1) c5)) ∧ BK (w5.setCell ⟨B, 2, none⟩ (.slice a5 (b.D.length + 1) c5)) tag' base o D B ⟨b.s, b.t, b.L, b.D ++ [r]⟩ := by
  obtain ⟨p, q', kv, dv, hDD, hP, hPo, hPb⟩ := h
  obtain ⟨a, c, rfl, hc1, hc2⟩ := win_form hPb.wD
  refine ⟨a, c, hPb.s2, fun w4 hB4 => ?_⟩
  obtain ⟨W4, hW4⟩ : ∃ W4, W4 = w4.alloc (.cells (enC r) 73) := ⟨_, rfl⟩
  have hBW : Below w3.heap.size w3 W4 := by rw [hW4]; exact hB4.trans ((below_alloc _ _).mono hB4.size)
  have hP4 : PD W4 (clip tag3 w3.heap.size) base o b.s p := hP.clip hBW
  have hPo4 : PO W4 (clip tag3 w3.heap.size) base (o + 1) D b.t q' := hPo.clip hBW
  have hPb4 : PB W4 (clip tag3 w3.heap.size) base (o + 2) q'.S b.L b.D B kv (.slice a b.D.length c) := hPb.keep (fun k hk _ => hBW.block k hk) (fun k hk => clip_lt _ _ _ hk)
  have hS4 : StepR tag3 (clip tag3 w3.heap.size) base o (o + 2) w3 W4 := stepR_clip tag3 base o (o + 2) hbase hBW
  have hwin : Win W4 5 (.slice (some ⟨w4.heap.size, 0, none⟩) 1 1) [r].length ([r].flatMap eL5) := by
    rw [List.flatMap_cons, List.flatMap_nil, List.append_nil, hW4]
    exact win_one w4 (enC r) 73 rfl
  obtain ⟨v', w5, tag5, hr, hwin5, hst, htag, hkp⟩ := append_own9 hPb4.wD hPb4.tD (o := o + 2) (by omega) (Nat.le_trans hbase hBW.size) _ [r] hwin (by simp; omega)
  obtain ⟨a5, c5, rfl, _⟩ := win_form hwin5
  have hl5 : (b.D ++ [r]).length = b.D.length + 1 := by simp
  rw [hl5] at hr htag
  rw [hW4] at hr
  have hBl := hPb4.bB.lt
  have hBd : (Value.slice a b.D.length c).ownBlock ≠ some B := fun e => by have := (hPb4.tD B e).1; have := hPb4.tB.1; omega
  have hb5 : Blk w5 B [.pointer (some ⟨q'.S, 0, none⟩), kv, .slice a b.D.length c] := hPb4.bB.same (hkp B hBl hBd)
  have htB : tag5 B = 16 * (o + 2) + 1 := by rw [hst.tags B hBl]; exact hPb4.tB.1
  have hvB : (Value.slice a5 (b.D.length + 1) c5).ownBlock ≠ some B := fun e => by have := (htag B e).1; omega
  have hst2 : Step (clip tag3 w3.heap.size) tag5 base (o + 2) W4 (w5.setCell ⟨B, 2, none⟩ (.slice a5 (b.D.length + 1) c5)) := hst.set hPb4.tB.2 (by omega) 2 _
  have hsR : StepR (clip tag3 w3.heap.size) tag5 base (o + 2) (o + 2) W4 (w5.setCell ⟨B, 2, none⟩ (.slice a5 (b.D.length + 1) c5)) := hst2.range (Nat.le_refl _) (Nat.le_refl _)
  refine ⟨a5, c5, w5, hr, hb5.cell 2, hb5.frozen 2, tag5, hS4.trans (hsR.wide (by omega) (Nat.le_refl _)), ⟨p, q', kv, _, hDD, hP4.otherR hsR (by omega), hPo4.otherR hsR (by omega), ⟨?_, ?_, ?_, ⟨htB, hPb4.tB.2⟩, ?_, htag⟩⟩⟩
  · simpa using hb5.set 2 (.slice a5 (b.D.length + 1) c5)
  · refine hPb4.wK.same (fun g hg => ?_)
    have ht := (hPb4.tK g hg).1
    rw [heap_setCell_other _ _ g _ (fun e => by have : g = B := e; rw [this] at ht; have := hPb4.tB.1; omega)]
    exact hkp g (hPb4.wK.lt g hg) (fun e => by have := (hPb4.tD g e).1; omega)
  · rw [hl5] at hwin5 ⊢
    exact hwin5.same (fun g hg => heap_setCell_other _ _ g _ (fun e => hvB (by rw [hg, show g = B from e])))
  · exact fun g hg => ⟨by rw [hst.tags g (hPb4.wK.lt g hg)]; exact (hPb4.tK g hg).1, (hPb4.tK g hg).2⟩

/-- append, as one step of a region that draws its order. -/
theorem step_app_run {P : Program} {ops : Array Oper} {o : Oper} {a : Act} {w : World} {K : Act → World → Prop} {Q : Exit → Act → World → Prop} {E : Prop} (hgd : o.guard = none) (s x : Operand) (t : TypeId)
    (ho : o.op = .call { callee := .builtin .append, args := #[s, x], argTypes := #[t, t] }) (v u : Value) (hs : a.eval s = v) (hx : a.eval x = u) {v' : Value} {w' : World}
    (hr : (Builtin.append_ #[t, t] o.type #[v, u]).run P w = .ok v' w') (h : K (a.put o.dst v') w') : if Region.wanted o (yielded ops a.tmps) = true then Oper.wp P o a w K Q else E := by
  have hw : Region.wanted o (yielded ops a.tmps) = true := by simp [Region.wanted, hgd]
  rw [if_pos hw]
  unfold Oper.wp execOp
  simp only [ho, resolve, invoke, builtin, Sem.run_bind, Sem.run_pure, Result.andThen_ok, List.map_toArray, List.map_cons, List.map_nil, hs, hx, hr]
  exact h

set_option maxHeartbeats 2000000 in
theorem bgrant_ok (w : World) (tag : Nat → Nat) (base o D B : Nat) (ho : 1 ≤ o) (b : Bm) (h : BK w tag base o D B b) (hbase : base ≤ w.heap.size) (now sub addr block : Int) (hok : En.Ok ⟨2, now, sub, addr, block⟩) (q : Nat) (hb : b.Ok q)
    (hq : q ≤ 700000) (hout : b.s.outs.length ≤ 900000) (hrec : b.t.recs.length ≤ 700000) (hL : b.L.length ≤ 700000) :
    Calls Tryz.prog 15 #[.pointer (some ⟨B, 0, none⟩), .int .i64 now, .int .u32 sub, .int .u32 addr, .int .i64 block] w fun r w' => r = .returned (.int .i64 (b.putE ⟨2, now, sub, addr, block⟩)) ∧ ∃ tag', StepR tag tag' base o (o + 2) w w' ∧ BK w' tag' base o D B (b.put ⟨2, now, sub, addr, block⟩) := by
  have HRel := fun w1 => brel_ok w1 now addr block
  have HH : Hid (BK w tag base o D B b) := h
  have HPR : Hid (_ ∨ _) := put_ready b ⟨2, now, sub, addr, block⟩
  have HReady : ∀ w1 tag1, Hid (StepR tag tag1 base o (o + 2) w w1 → BK w1 tag1 base o D B b → Calls Tryz.prog 45 #[.pointer (some ⟨B, 0, none⟩), enV ⟨2, now, sub, addr, block⟩] w1 fun r w' => r = .returned (.int .i64 (b.readyE ⟨2, now, sub, addr, block⟩)) ∧ ∃ tag', StepR tag1 tag' base o (o + 2) w1 w' ∧ BK w' tag' base o D B (b.ready ⟨2, now, sub, addr, block⟩)) :=
    fun w1 tag1 hs hbk => bready_ok w1 tag1 base o D B ho b hbk (Nat.le_trans hbase hs.below.size) ⟨2, now, sub, addr, block⟩ q hb (by omega) hout (by omega) (by omega)
  clear h
  obtain ⟨W, hW⟩ : ∃ W, W = w.alloc (.cells #[.int .i64 2, .int .i64 now, .int .u32 sub, .int .u32 addr, .int .i64 block] 73) := ⟨_, rfl⟩
  have hBW : Below w.heap.size w W := by rw [hW]; exact below_alloc _ _
  have hbW := HH.out.new hBW
  have hR := (HReady W _).out (stepR_clip tag base o (o + 2) hbase hBW) hbW
  have c0 : W.cell? ⟨w.heap.size, 0, none⟩ = some (.int .i64 2) := by rw [hW]; simp
  have c1 : W.cell? ⟨w.heap.size, 1, none⟩ = some (.int .i64 now) := by rw [hW]; simp
  have c2 : W.cell? ⟨w.heap.size, 2, none⟩ = some (.int .u32 sub) := by rw [hW]; simp
  have c3 : W.cell? ⟨w.heap.size, 3, none⟩ = some (.int .u32 addr) := by rw [hW]; simp
  have c4 : W.cell? ⟨w.heap.size, 4, none⟩ = some (.int .i64 block) := by rw [hW]; simp
  have hWs : W.heap.size = w.heap.size + 1 := by rw [hW]; simp
  have htw : clip tag w.heap.size w.heap.size / 16 < o := by simp [clip]; omega
  have HS0 : Hid (StepR tag (clip tag w.heap.size) base o (o + 2) w W) := stepR_clip tag base o (o + 2) hbase hBW
  have HC : Hid (∀ w2 tag2, StepR (clip tag w.heap.size) tag2 base o (o + 2) W w2 → w2.cell? ⟨w.heap.size, 0, none⟩ = some (.int .i64 2) ∧ w2.cell? ⟨w.heap.size, 1, none⟩ = some (.int .i64 now) ∧ w2.cell? ⟨w.heap.size, 2, none⟩ = some (.int .u32 sub) ∧ w2.cell? ⟨w.heap.size, 3, none⟩ = some (.int .u32 addr) ∧ w2.cell? ⟨w.heap.size, 4, none⟩ = some (.int .i64 block)) := fun w2 tag2 h2 =>
    ⟨((stepR_cell h2 (by omega) htw 0).1).trans c0, ((stepR_cell h2 (by omega) htw 1).1).trans c1, ((stepR_cell h2 (by omega) htw 2).1).trans c2, ((stepR_cell h2 (by omega) htw 3).1).trans c3, ((stepR_cell h2 (by omega) htw 4).1).trans c4⟩
  clear c0 c1 c2 c3 c4
  rw [hW] at hR
  go_enter Tryz.func15, Tryz.ntmps15
  go_wp2_with fail
  refine (by exact hR : Calls _ _ _ _ _).mono ?_
  rintro r w2 ⟨rfl, tag2, hS2, hB2⟩
  rw [← hW] at hS2
  obtain ⟨c0, c1, c2, c3, c4⟩ := HC.out w2 tag2 hS2
  have HS2 : Hid (StepR tag tag2 base o (o + 2) w w2) := HS0.out.trans hS2
  have hbw2 : base ≤ w2.heap.size := Nat.le_trans hbase HS2.out.below.size
  clear hR HC HReady hBW hbW hS2 hWs htw HS0
  rcases HPR.out with ⟨p1, p2, p3⟩ | ⟨p1, p2, p3, p4, p5, p6⟩
  · have HB2 : Hid (BK w2 tag2 base o D B (b.put ⟨2, now, sub, addr, block⟩)) := by rw [p3]; exact hB2
    have HP2 : Hid (b.putE ⟨2, now, sub, addr, block⟩ = b.readyE ⟨2, now, sub, addr, block⟩) := p2
    clear hB2 p2 p3
    generalize b.readyE ⟨2, now, sub, addr, block⟩ = X at *
    go_wp2
    go_ret
    exact ⟨by rw [HP2.out]; rfl, tag2, HS2.out, HB2.out⟩
  · rw [p1]
    have HP5 : Hid (b.putE ⟨2, now, sub, addr, block⟩ = wrtE b.pay.s b.pay.t [⟨2, now, sub, addr, block⟩]) := p5
    have HP6 : Hid (b.put ⟨2, now, sub, addr, block⟩ = b.pay.wrote ⟨2, now, sub, addr, block⟩) := p6
    rw [p4] at hB2
    obtain ⟨f1, f2, f3, f4⟩ := far_one hB2 ho hbw2 ⟨2, now, sub, addr, block⟩
    obtain ⟨hpo, hgr, hpd⟩ := hb.pay
    have hgn := hgr.sn
    have hgo := hgr.outs
    have hgr1 := hgr.recs
    have hgl := hgr.L
    have hpD : b.pay.D = [] := hpd p3
    have HWr := bwrite_ok _ _ base o D B ho b.pay f1 f4 (.slice (some ⟨w2.heap.size, 0, none⟩) 1 1) [⟨2, now, sub, addr, block⟩] f2 (.one (checkE_zero p2) hok) (q + 2) hpo.nb (by simp; omega) (by omega) (by simp; omega) (by simp; omega)
    have HF1 : Hid (¬ (wrtE b.pay.s b.pay.t [⟨2, now, sub, addr, block⟩] ≠ 0 ∧ wrtE b.pay.s b.pay.t [⟨2, now, sub, addr, block⟩] ≠ 6) → b.pay.wrote ⟨2, now, sub, addr, block⟩ = wrB b.pay [⟨2, now, sub, addr, block⟩]) := fun hn => wrote_same (fun h => hn ⟨h.1, h.2.2⟩)
    have HF2 : Hid (wrtE b.pay.s b.pay.t [⟨2, now, sub, addr, block⟩] ≠ 0 ∧ wrtE b.pay.s b.pay.t [⟨2, now, sub, addr, block⟩] ≠ 6 → b.pay.wrote ⟨2, now, sub, addr, block⟩ = ⟨(wrB b.pay [⟨2, now, sub, addr, block⟩]).s, (wrB b.pay [⟨2, now, sub, addr, block⟩]).t, (wrB b.pay [⟨2, now, sub, addr, block⟩]).L, (wrB b.pay [⟨2, now, sub, addr, block⟩]).D ++ [⟨3, now, 0, addr, block⟩]⟩) := fun hn => wrote_owe ⟨hn.1, rfl, hn.2⟩
    have HSt : Hid (StepR tag2 (clip tag2 w2.heap.size) base o (o + 2) w2 (w2.alloc (.cells (enC ⟨2, now, sub, addr, block⟩) 73))) := f3
    have hwD : (wrB b.pay [⟨2, now, sub, addr, block⟩]).D.length ≤ 1000 := by show b.pay.D.length ≤ _; rw [hpD]; simp
    clear f1 f2 f3 f4 hB2 hb hpo hgr p1 p2 p3 p4 p5 p6
    generalize wrtE b.pay.s b.pay.t [⟨2, now, sub, addr, block⟩] = X at *
    generalize wrB b.pay [⟨2, now, sub, addr, block⟩] = b2 at *
    go_wp2_with fail
    refine (by exact HWr : Calls _ _ _ _ _).mono ?_
    rintro r w3 ⟨rfl, tag3, hS3, hB3⟩
    have HS3 : Hid (StepR tag tag3 base o (o + 2) w w3) := (HS2.out.trans HSt.out).trans hS3
    have HB3 : Hid (BK w3 tag3 base o D B b2) := hB3
    by_cases hX : X ≠ 0 ∧ X ≠ 6
    · obtain ⟨x1, x2⟩ := hX
      have b1 : (X != 0) = true := by simpa using x1
      have b6 : (X != 6) = true := by simpa using x2
      have hF2 := HF2.out ⟨x1, x2⟩
      have HFF : Hid (b.put ⟨2, now, sub, addr, block⟩ = ⟨b2.s, b2.t, b2.L, b2.D ++ [⟨3, now, 0, addr, block⟩]⟩) := HP6.out.trans hF2
      obtain ⟨da, dc, g2, hAp⟩ := owe_row w3 tag3 base o D B b2 hB3 (Nat.le_trans hbase HS3.out.below.size) hwD ⟨3, now, 0, addr, block⟩
      have hbd : ∀ w4, Below w3.drew.heap.size w3.drew w4 → Below w3.heap.size w3 w4 := fun w4 h4 => (Below.refl _ w3).drew.trans h4
      have HAp : Hid (∀ w4, Below w3.drew.heap.size w3.drew w4 → _) := fun w4 h4 => hAp w4 (hbd w4 h4)
      have KC : Hid (∀ wx, Below w3.drew.heap.size w3.drew wx → wx.cell? ⟨B, 2, none⟩ = some (.slice da b2.D.length dc)) := fun wx hx => cell_later (hbd wx hx) g2
      have hBlt : B < w3.drew.heap.size := by obtain ⟨_, _, _, _, _, _, _, hPb⟩ := HB3.out; exact hPb.bB.lt
      clear hbd
      clear hB3 hS3 HWr hF2 hAp c0 c1 c2 c3 c4 HSt x1 x2
      go_wp2_with fail
      clear HP6 HF1 HF2 HPR HH HS2
      go_region_law (first
        | (refine step_calls rfl 46 #[.tmp 40, .tmp 41, .tmp 42] #[2, 38, 3] rfl #[.int .i64 now, .int .u32 addr, .int .i64 block] (by go_simp) enters_rel (by with_reducible exact HRel _) ?_; rintro e w4 ⟨rfl, hB4⟩; refine ⟨_, rfl, ?_⟩; have g4 := KC.out w4 hB4; have hsz4 : B < w4.heap.size := Nat.lt_of_lt_of_le hBlt hB4.size; obtain ⟨a5, c5, w5, hr5, h5a, h5b, tag5, hS5, hB5⟩ := HAp.out w4 hB4)
        | (refine step_app_run rfl (.tmp 39) (.tmp 44) 63 rfl _ _ (by rfl) (by rfl) (by exact hr5) ?_))
      all_goals
        go_wp2
        go_ret
        exact ⟨by rw [HP5.out]; rfl, tag5, HS3.out.trans hS5, by rw [HFF.out]; exact hB5⟩
    · have HFF : Hid (b.put ⟨2, now, sub, addr, block⟩ = b2) := HP6.out.trans (HF1.out hX)
      have hX' : X = 0 ∨ X = 6 := by omega
      clear hB3 hS3 HWr hX
      rcases hX' with rfl | rfl
      all_goals
        go_wp2
        go_ret
        exact ⟨by rw [HP5.out]; rfl, tag3, HS3.out, by rw [HFF.out]; exact HB3.out⟩

end Go.Proofs.YtafkkehcacdodaaGreat

namespace Go.Proofs.YtafkkehcacdodaaGreat
open Go.RowKit Go.Shelf

theorem MS.otherR {w w' : World} {tag tag' : Nat → Nat} {base lo hi b M n pos used : Nat} {bs : List (List Int)} {cs : List Int} {q : TL} (h : MS w tag base b M n pos used bs cs q) (hb : StepR tag tag' base lo hi w w') (ho : b < lo ∨ hi < b) : MS w' tag' base b M n pos used bs cs q :=
  h.keep (fun k hk ht => hb.kept k hk (by rw [ht]; exact ho)) hb.tags hb.below.size

/-- A book of the document with its strand and its disk, of the owners o, o + 1, o + 2. -/
def RK (w : World) (tag : Nat → Nat) (base o M B : Nat) (b : Bm) : Prop :=
  ∃ p q kv dv, p.M = M ∧ MD w tag base o b.s p ∧ MSt w tag base (o + 1) M b.s.n b.t q ∧ PB w tag base (o + 2) q.T b.L b.D B kv dv

section
variable {w w' : World} {tag tag' : Nat → Nat} {base o M B : Nat} {b : Bm}

theorem RK.otherR {lo hi : Nat} (h : RK w tag base o M B b) (hb : StepR tag tag' base lo hi w w') (ho : o + 2 < lo ∨ hi < o) : RK w' tag' base o M B b := by
  obtain ⟨p, q, kv, dv, h0, h1, h2, h3⟩ := h
  exact ⟨p, q, kv, dv, h0, h1.otherR hb (by omega), h2.otherR hb (by omega), h3.otherR hb (by omega)⟩

theorem RK.new (h : RK w tag base o M B b) (hb : Below w.heap.size w w') : RK w' (clip tag w.heap.size) base o M B b := by
  obtain ⟨p, q, kv, dv, h0, h1, h2, h3⟩ := h
  exact ⟨p, q, kv, dv, h0, h1.keep (fun k hk _ => hb.block k hk) (fun k hk => clip_lt _ _ _ hk), h2.keep (fun k hk _ => hb.block k hk) (fun k hk => clip_lt _ _ _ hk) hb.size, h3.keep (fun k hk _ => hb.block k hk) (fun k hk => clip_lt _ _ _ hk)⟩

theorem RK.later (h : RK w tag base o M B b) (hb : Below w.heap.size w w') : RK w' tag base o M B b := by
  obtain ⟨p, q, kv, dv, h0, h1, h2, h3⟩ := h
  exact ⟨p, q, kv, dv, h0, h1.later hb, h2.later hb, h3.later hb⟩

end

/-- One entry more among a book's own: its row is another one. -/
theorem pb_known {w : World} {tag : Nat → Nat} {base o S B : Nat} {L D : List En} {kv dv : Value} (h : PB w tag base o S L D B kv dv) (hbase : base ≤ w.heap.size) (hl : L.length ≤ 900000) (r : En) :
    ∃ a c, kv = .slice a L.length c ∧ ∃ a5 c5 w5, (Builtin.append_ #[63, 63] 63 #[.slice a L.length c, .slice (some ⟨w.heap.size, 0, none⟩) 1 1]).run Tryz.prog (w.alloc (.cells (enC r) 73)) = .ok (.slice a5 (L.length + 1) c5) w5 ∧
      w5.cell? ⟨B, 1, none⟩ = some (.slice a L.length c) ∧ w5.frozen? ⟨B, 1, none⟩ = false ∧ ∃ tag', StepR tag tag' base o o w (w5.setCell ⟨B, 1, none⟩ (.slice a5 (L.length + 1) c5)) ∧ PB (w5.setCell ⟨B, 1, none⟩ (.slice a5 (L.length + 1) c5)) tag' base o S (L ++ [r]) D B (.slice a5 (L.length + 1) c5) dv := by
  obtain ⟨a, c, rfl, hc1, hc2⟩ := win_form h.wK
  refine ⟨a, c, rfl, ?_⟩
  have hBW := below_alloc w (.cells (enC r) 73)
  have h4 : PB (w.alloc (.cells (enC r) 73)) (clip tag w.heap.size) base o S L D B (.slice a L.length c) dv := h.keep (fun k hk _ => hBW.block k hk) (fun k hk => clip_lt _ _ _ hk)
  have hwin : Win (w.alloc (.cells (enC r) 73)) 5 (.slice (some ⟨w.heap.size, 0, none⟩) 1 1) [r].length ([r].flatMap eL5) := by
    rw [List.flatMap_cons, List.flatMap_nil, List.append_nil]
    exact win_one w (enC r) 73 rfl
  obtain ⟨v', w5, tag5, hr, hwin5, hst, htag, hkp⟩ := append_own9 h4.wK h4.tK (o := o) (by omega) (Nat.le_trans hbase hBW.size) _ [r] hwin (by simp; omega)
  obtain ⟨a5, c5, rfl, _⟩ := win_form hwin5
  have hl5 : (L ++ [r]).length = L.length + 1 := by simp
  rw [hl5] at hr htag
  have hBl := h4.bB.lt
  have hBd : (Value.slice a L.length c).ownBlock ≠ some B := fun e => by have := (h4.tK B e).1; have := h4.tB.1; omega
  have hb5 : Blk w5 B [.pointer (some ⟨S, 0, none⟩), .slice a L.length c, dv] := h4.bB.same (hkp B hBl hBd)
  have htB : tag5 B = 16 * o + 1 := by rw [hst.tags B hBl]; exact h4.tB.1
  have hvB : (Value.slice a5 (L.length + 1) c5).ownBlock ≠ some B := fun e => by have := (htag B e).1; omega
  have hst2 : Step (clip tag w.heap.size) tag5 base o (w.alloc (.cells (enC r) 73)) (w5.setCell ⟨B, 1, none⟩ (.slice a5 (L.length + 1) c5)) := hst.set h4.tB.2 (by omega) 1 _
  have hsR := hst2.range (lo := o) (hi := o) (Nat.le_refl _) (Nat.le_refl _)
  refine ⟨a5, c5, w5, hr, hb5.cell 1, hb5.frozen 1, tag5, (stepR_clip tag base o o hbase hBW).trans hsR, ⟨?_, ?_, ?_, ⟨htB, h4.tB.2⟩, htag, ?_⟩⟩
  · simpa using hb5.set 1 (.slice a5 (L.length + 1) c5)
  · rw [hl5] at hwin5 ⊢
    exact hwin5.same (fun g hg => heap_setCell_other _ _ g _ (fun e => hvB (by rw [hg, show g = B from e])))
  · refine h4.wD.same (fun g hg => ?_)
    have ht := (h4.tD g hg).1
    rw [heap_setCell_other _ _ g _ (fun e => by have : g = B := e; rw [this] at ht; have := h4.tB.1; omega)]
    exact hkp g (h4.wD.lt g hg) (fun e => by have := (h4.tK g e).1; omega)
  · exact fun g hg => ⟨by rw [hst.tags g (h4.wD.lt g hg)]; exact (h4.tD g hg).1, (h4.tD g hg).2⟩

/-- One debt more: the row of debts is another one. -/
theorem pb_owe {w : World} {tag : Nat → Nat} {base o S B : Nat} {L D : List En} {kv dv : Value} (h : PB w tag base o S L D B kv dv) (hbase : base ≤ w.heap.size) (hl : D.length ≤ 900000) (r : En) :
    ∃ a c, dv = .slice a D.length c ∧ ∃ a5 c5 w5, (Builtin.append_ #[63, 63] 63 #[.slice a D.length c, .slice (some ⟨w.heap.size, 0, none⟩) 1 1]).run Tryz.prog (w.alloc (.cells (enC r) 73)) = .ok (.slice a5 (D.length + 1) c5) w5 ∧
      w5.cell? ⟨B, 2, none⟩ = some (.slice a D.length c) ∧ w5.frozen? ⟨B, 2, none⟩ = false ∧ ∃ tag', StepR tag tag' base o o w (w5.setCell ⟨B, 2, none⟩ (.slice a5 (D.length + 1) c5)) ∧ PB (w5.setCell ⟨B, 2, none⟩ (.slice a5 (D.length + 1) c5)) tag' base o S L (D ++ [r]) B kv (.slice a5 (D.length + 1) c5) := by
  obtain ⟨a, c, rfl, hc1, hc2⟩ := win_form h.wD
  refine ⟨a, c, rfl, ?_⟩
  have hBW := below_alloc w (.cells (enC r) 73)
  have h4 : PB (w.alloc (.cells (enC r) 73)) (clip tag w.heap.size) base o S L D B kv (.slice a D.length c) := h.keep (fun k hk _ => hBW.block k hk) (fun k hk => clip_lt _ _ _ hk)
  have hwin : Win (w.alloc (.cells (enC r) 73)) 5 (.slice (some ⟨w.heap.size, 0, none⟩) 1 1) [r].length ([r].flatMap eL5) := by
    rw [List.flatMap_cons, List.flatMap_nil, List.append_nil]
    exact win_one w (enC r) 73 rfl
  obtain ⟨v', w5, tag5, hr, hwin5, hst, htag, hkp⟩ := append_own9 h4.wD h4.tD (o := o) (by omega) (Nat.le_trans hbase hBW.size) _ [r] hwin (by simp; omega)
  obtain ⟨a5, c5, rfl, _⟩ := win_form hwin5
  have hl5 : (D ++ [r]).length = D.length + 1 := by simp
  rw [hl5] at hr htag
  have hBl := h4.bB.lt
  have hBd : (Value.slice a D.length c).ownBlock ≠ some B := fun e => by have := (h4.tD B e).1; have := h4.tB.1; omega
  have hb5 : Blk w5 B [.pointer (some ⟨S, 0, none⟩), kv, .slice a D.length c] := h4.bB.same (hkp B hBl hBd)
  have htB : tag5 B = 16 * o + 1 := by rw [hst.tags B hBl]; exact h4.tB.1
  have hvB : (Value.slice a5 (D.length + 1) c5).ownBlock ≠ some B := fun e => by have := (htag B e).1; omega
  have hst2 : Step (clip tag w.heap.size) tag5 base o (w.alloc (.cells (enC r) 73)) (w5.setCell ⟨B, 2, none⟩ (.slice a5 (D.length + 1) c5)) := hst.set h4.tB.2 (by omega) 2 _
  have hsR := hst2.range (lo := o) (hi := o) (Nat.le_refl _) (Nat.le_refl _)
  refine ⟨a5, c5, w5, hr, hb5.cell 2, hb5.frozen 2, tag5, (stepR_clip tag base o o hbase hBW).trans hsR, ⟨?_, ?_, ?_, ⟨htB, h4.tB.2⟩, ?_, htag⟩⟩
  · simpa using hb5.set 2 (.slice a5 (D.length + 1) c5)
  · refine h4.wK.same (fun g hg => ?_)
    have ht := (h4.tK g hg).1
    rw [heap_setCell_other _ _ g _ (fun e => by have : g = B := e; rw [this] at ht; have := h4.tB.1; omega)]
    exact hkp g (h4.wK.lt g hg) (fun e => by have := (h4.tD g e).1; omega)
  · rw [hl5] at hwin5 ⊢
    exact hwin5.same (fun g hg => heap_setCell_other _ _ g _ (fun e => hvB (by rw [hg, show g = B from e])))
  · exact fun g hg => ⟨by rw [hst.tags g (h4.wK.lt g hg)]; exact (h4.tK g hg).1, (h4.tK g hg).2⟩

set_option maxHeartbeats 1000000 in
theorem rapp_ok (w : World) (tag : Nat → Nat) (base o M B : Nat) (ho : 1 ≤ o) (b : Bm) (h : RK w tag base o M B b) (hbase : base ≤ w.heap.size) (e : En) (hm : e.May) (hok : e.Ok) (q : Nat) (hn : Nb b.s b.t q)
    (hq : q ≤ 900000) (hout : b.s.outs.length ≤ 900000) (hrec : b.t.recs.length ≤ 900000) :
    Calls Tryz.prog 39 #[.pointer (some ⟨B, 0, none⟩), enV e] w fun r w' => r = .returned (.int .i64 (appE b.s b.t (bytesE e))) ∧ ∃ tag', StepR tag tag' base o (o + 1) w w' ∧ RK w' tag' base o M B ⟨appS b.s b.t (bytesE e), appT b.s b.t (bytesE e), b.L, b.D⟩ := by
  have hba := below_alloc w (.cells (enC e) 73)
  have HE := rencode_ok e (w.alloc (.cells (enC e) 73)) hm hok
  have HK : Hid (RK w tag base o M B b) := h
  have HF : Hid (frameE (bytesE e) = 0) := frameE_bytes hm
  have HBY : Hid (isBytes (bytesE e)) := bytesE_bytes e
  have hn1 := (appS_ok hn.ok hn.tk (bytesE e) (bytesE_bytes e)).2
  have hops := hn.ops
  have hsin := hn.sin
  have htk := hn.tk
  clear h hm hok
  generalize bytesE e = bs at *
  obtain ⟨k0, k1, k2, k3, k4⟩ := e
  go_enter Tryz.func39, Tryz.ntmps39
  go_wp2_with fail
  refine (by exact HE : Calls _ _ _ _ _).mono ?_
  rintro r w2 ⟨v, rfl, hO, hB2⟩
  have hB02 : Below w.heap.size w w2 := hba.trans (hB2.mono hba.size)
  obtain ⟨p, q', kv, dv, hD, hP, hPo, hPb⟩ := HK.out.new hB02
  have hHd : Held w2 (clip tag w.heap.size) v bs := (hO.low hba.size).held HBY.out
  have g0 := hPb.s0
  have hbw2 : base ≤ w2.heap.size := Nat.le_trans hbase hB02.size
  have HA := rappend_ok8 w2 (clip tag w.heap.size) base o (o + 1) (by omega) ho (by omega) b.s p hP b.t q' (by rw [hD]; exact hPo) hbw2 htk v bs hHd HF.out (by omega) (by omega) (by omega) (by omega)
  have HP2 : Hid (StepR tag (clip tag w.heap.size) base o (o + 1) w w2 ∧ PB w2 (clip tag w.heap.size) base (o + 2) q'.T b.L b.D B kv dv) := ⟨stepR_clip tag base o (o + 1) hbase hB02, hPb⟩
  obtain ⟨va, vc, hvv, _⟩ := bts_src hHd.1
  subst hvv
  clear HE hO hB2 hB02 hP hPo hPb hHd hba
  go_wp2_with fail
  refine HA.mono ?_
  rintro r w3 ⟨rfl, p3, q3, tag3, hD3, hS3, hP3, hQ3, hSt3⟩
  have hS := hSt3.range (lo := o) (hi := o + 1) (Nat.le_refl o) (Nat.le_succ o) (Nat.le_succ o) (Nat.le_refl _)
  have HR : Hid (StepR tag tag3 base o (o + 1) w w3 ∧ RK w3 tag3 base o M B ⟨appS b.s b.t bs, appT b.s b.t bs, b.L, b.D⟩) := ⟨HP2.out.1.trans hS, p3, q3, kv, dv, by rw [hD3, hD], hP3, by rw [← hD]; show MSt w3 tag3 base (o + 1) p.M (appS b.s b.t bs).n _ q3; rw [hn1]; exact hQ3, by rw [hS3]; exact HP2.out.2.otherR hS (by omega)⟩
  clear HA hP3 hQ3 hSt3 hS
  go_wp2
  go_ret
  exact ⟨rfl, tag3, HR.out.1, HR.out.2⟩

end Go.Proofs.YtafkkehcacdodaaGreat

namespace Go.Proofs.YtafkkehcacdodaaGreat
open Go.RowKit Go.Shelf

/-- Entries in a row of the call's own. -/
abbrev ERow (w : World) (base : Nat) (v : Value) (l : List En) : Prop := w.ownsRow base 73 5 v l.length (l.flatMap eL5)

theorem append_e5 (W : World) (base : Nat) (v : Value) (l : List En) (e : En) (hv : ERow W base v l) (hbase : base ≤ W.heap.size) (hlen : l.length ≤ 1000000) :
    ∃ v' w', (Builtin.append_ #[63, 63] 63 #[v, .slice (some ⟨W.heap.size, 0, none⟩) 1 1]).run Tryz.prog (W.alloc (.cells #[.int .i64 e.kind, .int .i64 e.time, .int .u32 e.sub, .int .u32 e.addr, .int .i64 e.block] 73)) = .ok v' w' ∧
      ERow w' base v' (l ++ [e]) ∧ Below base W w' := by
  obtain ⟨i0, hi, hz0, hz1, hz2⟩ := info_parts infoE5
  have hown2 := World.ownsRow.alloc hv (.cells (enC e) 73)
  obtain ⟨v', w', hr, ho, hg, -⟩ := run_append_own (P := Tryz.prog) (W.alloc (.cells (enC e) 73)) base 63 63 73 i0 _ 5 32 Tryz.underlying63 hi hz0 hz1 hz2 rfl (by decide) v l.length (l.flatMap eL5) hown2
    ⟨W.heap.size, 0, none⟩ 1 1 (eL5 e) rfl (by
      intro j u hj
      rw [add_at, Nat.zero_add, (blk_new W _ _).cell]
      exact hj) (by
      intro u hu
      exact eL5_one [e] u (by rw [List.flatMap_cons, List.flatMap_nil, List.append_nil]; exact hu)) (by unfold maxLen; omega) (by omega) (by simp; omega)
  refine ⟨v', w', hr, ?_, ((Below.refl _ _).alloc hbase _).grown hg (by simp; omega) (fun k hk => (hv.lt k hk).1)⟩
  show w'.ownsRow base _ 5 v' (l ++ [e]).length ((l ++ [e]).flatMap eL5)
  rw [List.flatMap_append, List.length_append]
  have e1 : List.flatMap eL5 [e] = eL5 e := by rw [List.flatMap_cons, List.flatMap_nil, List.append_nil]
  rw [e1]
  exact ho

theorem run_equalIn_e5 (d : Nat) (w : World) (a : Option Addr) (l c : Nat) : (Op.equalIn (d + 1) 63 (.slice a l c) (.slice none 0 0)).run Tryz.prog w = .ok a.isNone w := by
  cases a <;> simp [Op.equalIn, run_underlying Tryz.underlying63]

theorem run_equal_e5 (w : World) (a : Option Addr) (l c : Nat) : (Op.equal 63 (.slice a l c) (.slice none 0 0)).run Tryz.prog w = .ok a.isNone w := run_equalIn_e5 9999 w a l c

theorem run_eql_e5 (w : World) (a : Option Addr) (l c : Nat) : (binOp .eql 63 (.slice a l c) (.slice none 0 0)).run Tryz.prog w = .ok (.bool a.isNone) w := by
  simp only [binOp]
  simp [run_equal_e5 w a l c]

set_option maxHeartbeats 1000000 in
theorem eclone_ok (w : World) (v : Value) (l : List En) (h : Win w 5 v l.length (l.flatMap eL5)) (hbig : l.length ≤ 1000000) :
    Calls Tryz.prog 66 #[v] w fun e w' => ∃ v', e = .returned v' ∧ Win w' 5 v' l.length (l.flatMap eL5) ∧ Below w.heap.size w w' ∧ ∀ g, v'.ownBlock = some g → w.heap.size ≤ g := by
  obtain ⟨i0, hi, hz0, hz1, hz2⟩ := info_parts infoE5
  have heq := run_eql_e5
  rcases h.2 with ⟨rfl, h0⟩ | ⟨g, oo, c, cs, rfl, hb, h2, h3, h4, h5⟩
  · have hl : l = [] := List.eq_nil_of_length_eq_zero h0
    subst hl
    have HW : Hid (Win w 5 (.slice none 0 0) ([] : List En).length (([] : List En).flatMap eL5)) := win_nil w 5
    clear h
    go_enter Tryz.func66, Tryz.ntmps66
    go_wp2
    go_ret
    exact ⟨_, rfl, HW.out, Below.refl _ _, fun g hg => by simp [Value.ownBlock] at hg⟩
  have hB : Below w.heap.size w (w.alloc (.cells #[] 73)) := below_alloc _ _
  have hown : (w.alloc (.cells #[] 73)).ownsRow w.heap.size 73 5 (.slice (some ⟨w.heap.size, 0, none⟩) 0 0) 0 [] := World.ownsRow_made w #[] 0 (Nat.le_refl _) (by decide) rfl
  have hsrc : ∀ j u, (l.flatMap eL5)[j]? = some u → (w.alloc (.cells #[] 73)).cell? ((⟨g, oo, none⟩ : Addr).add j) = some u := by
    intro j u hu
    have hr := hb.range oo (l.length * 5)
    rw [h5] at hr
    rw [add_at]
    exact cell_later hB (hr j u hu)
  obtain ⟨v', w1, hrun, ho, hg, _⟩ := run_append_own (P := Tryz.prog) (w.alloc (.cells #[] 73)) w.heap.size 63 63 73 i0 _ 5 32 Tryz.underlying63 hi hz0 hz1 hz2 rfl (by decide) (.slice (some ⟨w.heap.size, 0, none⟩) 0 0) 0 [] hown ⟨g, oo, none⟩ l.length c (l.flatMap eL5) h.1 hsrc (eL5_one l) (by unfold maxLen; omega) (by omega) (by simp)
  rw [Nat.zero_add, List.nil_append] at ho
  have HO : Hid (Win w1 5 v' l.length (l.flatMap eL5) ∧ ∀ g, v'.ownBlock = some g → w.heap.size ≤ g) := ⟨win_of_owns ho, fun g hg => (ho.lt g hg).1⟩
  have HB : Hid (Below w.heap.size w w1) := hB.grown hg (by simp) (fun k hk => by simp [Value.ownBlock] at hk; omega)
  unfold maxLen at h3
  clear ho hg hB hown hsrc h hi hz0 hz1 hz2 hb h4 h5
  go_enter Tryz.func66, Tryz.ntmps66
  go_wp2_with (at_builtin; refine wpl_append_run rfl _ _ 63 rfl _ _ rfl rfl hrun ?_)
  go_ret
  exact ⟨_, rfl, HO.out.1, HB.out, HO.out.2⟩

set_option maxHeartbeats 1000000 in
theorem bdebts_ok (w : World) (tag : Nat → Nat) (base o D B : Nat) (b : Bm) (h : BK w tag base o D B b) (hl : b.D.length ≤ 1000000) :
    Calls Tryz.prog 55 #[.pointer (some ⟨B, 0, none⟩)] w fun e w' => ∃ v', e = .returned v' ∧ Win w' 5 v' b.D.length (b.D.flatMap eL5) ∧ Below w.heap.size w w' ∧ ∀ g, v'.ownBlock = some g → w.heap.size ≤ g := by
  have HM := bmade_ok w tag base o D B b h
  obtain ⟨p, q', kv, dv, _, _, _, hPb⟩ := h
  have g2 := hPb.s2
  have HC := eclone_ok w dv b.D hPb.wD hl
  obtain ⟨a, c, rfl, _⟩ := win_form hPb.wD
  clear hPb
  go_enter Tryz.func55, Tryz.ntmps55
  go_wp2_with fail
  refine HM.mono ?_
  rintro e w' ⟨rfl, hx⟩
  rw [hx]
  clear hx
  go_wp2_with fail
  refine HC.mono ?_
  rintro e w' ⟨v', rfl, h1, h2⟩
  go_wp2
  go_ret
  exact ⟨_, rfl, h1, h2⟩

set_option maxHeartbeats 1000000 in
theorem bentries_ok (w : World) (tag : Nat → Nat) (base o D B : Nat) (b : Bm) (h : BK w tag base o D B b) (hl : b.L.length ≤ 1000000) :
    Calls Tryz.prog 27 #[.pointer (some ⟨B, 0, none⟩)] w fun e w' => ∃ v', e = .returned v' ∧ Win w' 5 v' b.L.length (b.L.flatMap eL5) ∧ Below w.heap.size w w' ∧ ∀ g, v'.ownBlock = some g → w.heap.size ≤ g := by
  have HM := bmade_ok w tag base o D B b h
  obtain ⟨p, q', kv, dv, _, _, _, hPb⟩ := h
  have g1 := hPb.s1
  have HC := eclone_ok w kv b.L hPb.wK hl
  obtain ⟨a, c, rfl, _⟩ := win_form hPb.wK
  clear hPb
  go_enter Tryz.func27, Tryz.ntmps27
  go_wp2_with fail
  refine HM.mono ?_
  rintro e w' ⟨rfl, hx⟩
  rw [hx]
  clear hx
  go_wp2_with fail
  refine HC.mono ?_
  rintro e w' ⟨v', rfl, h1, h2⟩
  go_wp2
  go_ret
  exact ⟨_, rfl, h1, h2⟩

set_option maxHeartbeats 1000000 in
theorem bspans_ok (w : World) (tag : Nat → Nat) (base o D B : Nat) (b : Bm) (h : BK w tag base o D B b) (hf : Fine b.L) (hl : b.L.length ≤ 1000) :
    Calls Tryz.prog 24 #[.pointer (some ⟨B, 0, none⟩)] w fun e w' => ∃ v', e = .returned v' ∧ SpRow w' (w.heap.size + 1) v' (spans b.L) ∧ Below w.heap.size w w' := by
  have HM := bmade_ok w tag base o D B b h
  obtain ⟨p, q', kv, dv, _, _, _, hPb⟩ := h
  have g1 := hPb.s1
  obtain ⟨EB, EO, hE, _⟩ := win_ens hPb.wK
  have HC := spans_ok kv EB EO b.L w hE hf.ok hl
  obtain ⟨a, c, rfl, _⟩ := win_form hPb.wK
  clear hPb hE
  go_enter Tryz.func24, Tryz.ntmps24
  go_wp2_with fail
  refine HM.mono ?_
  rintro e w' ⟨rfl, hx⟩
  rw [hx]
  clear hx
  go_wp2_with fail
  refine HC.mono ?_
  rintro e w' ⟨v', rfl, h1, h2⟩
  go_wp2
  go_ret
  exact ⟨_, rfl, h1, h2⟩

end Go.Proofs.YtafkkehcacdodaaGreat

namespace Go.Proofs.YtafkkehcacdodaaGreat
open Go.RowKit Go.Shelf

theorem found_snoc (l : List (List Int)) (k : Nat) (h : k < l.length) : foundE (l.take (k + 1)) = foundE (l.take k) ++ (if whyE (l.getD k []) = 0 then [entE (l.getD k [])] else []) := by
  rw [List.take_succ_eq_append_getElem h]
  unfold foundE
  rw [List.filter_append, List.map_append]
  congr 1
  rw [List.getD_eq_getElem?_getD, List.getElem?_eq_getElem h]
  simp only [Option.getD_some]
  split
  · rename_i e
    simp [e]
  · rename_i e
    simp [e]

set_option maxHeartbeats 600000 in
theorem found_ok (w : World) (base0 : Nat) (v : Value) (vs : List Value) (ls : List (List Int)) (h : Lst w base0 v vs ls) (hl : ls.length ≤ 100000) :
    Calls Tryz.prog 31 #[v] w fun e w' => ∃ r, e = .returned r ∧ ERow w' w.heap.size r (foundE ls) ∧ Below w.heap.size w w' := by
  have HL : Hid (Lst w base0 v vs ls) := h
  obtain ⟨va, vc, rfl, hc1, hc2⟩ := win_form h.win
  unfold maxLen at hc2
  have h0 : ERow w w.heap.size (.slice none 0 0) (foundE (ls.take 0)) := World.ownsRow_nil _ _ _ _
  clear h
  go_enter Tryz.func31, Tryz.ntmps31
  go_wp2
  go_loopg [3, 10] ls.length (fun gk rv i wr => ∃ (k : Nat) (r : Value), k + gk = ls.length ∧ r = rv ∧ i = .int .i64 (k : Int) ∧ ERow wr w.heap.size r (foundE (ls.take k)) ∧ Below w.heap.size w wr)
  case atStart => exact ⟨0, _, by omega, rfl, rfl, h0, Below.refl _ _⟩
  case round =>
    obtain ⟨k, r, hk, rfl, rfl, hrow, hB⟩ := hrel
    by_cases hlt : k < ls.length
    case neg =>
      have hge : ¬ (k : Int) < (ls.length : Int) := by omega
      have hke : k = ls.length := by omega
      subst hke
      rw [List.take_length] at hrow
      have HR : Hid (ERow wr w.heap.size r (foundE ls)) := hrow
      clear hrow
      go_wp2
      go_ret
      exact ⟨_, rfl, HR.out, hB⟩
    have hltI : (k : Int) < (ls.length : Int) := by omega
    obtain ⟨LB, LO, lc, hvv, hlc, hlm, hcel⟩ := (HL.out.later hB).read (by omega)
    cases hvv
    have hc0 := hcel k hlt
    have hbt := (HL.out.later hB).bts k hlt
    have HS : Hid (foundE (ls.take (k + 1)) = foundE (ls.take k) ++ (if whyE (ls.getD k []) = 0 then [entE (ls.getD k [])] else [])) := found_snoc ls k hlt
    have HLe : Hid ((foundE (ls.take k)).length ≤ 100000) := by
      have := found_len (ls.take k)
      rw [List.length_take] at this
      show _ ≤ _
      omega
    have HRow : Hid (ERow wr w.heap.size r (foundE (ls.take k))) := hrow
    have hD := decode_any (vs.getD k undef) (ls.getD k []) wr hbt
    obtain ⟨ba, bc, hbv, _⟩ := bts_src hbt
    rw [hbv] at hc0 hD
    have hbsz := hB.size
    clear hbt hcel hrow hbv
    generalize foundE (ls.take k) = F at *
    generalize entE (ls.getD k []) = e at *
    generalize whyE (ls.getD k []) = y at *
    generalize (ls.getD k []).length = bn at *
    obtain ⟨k0, k1, k2, k3, k4⟩ := e
    go_wp2_with fail
    refine (by exact hD : Calls _ _ _ _ _).mono ?_
    rintro e w2 ⟨rfl, hB2⟩
    have hB02 := hB.trans (hB2.mono hbsz)
    have hB03 := hB02.trans ((below_alloc w2 (.cells #[.int .i64 k0, .int .i64 k1, .int .u32 k2, .int .u32 k3, .int .i64 k4] 73)).mono hB02.size)
    have hrow3 : ERow (w2.alloc (.cells #[.int .i64 k0, .int .i64 k1, .int .u32 k2, .int .u32 k3, .int .i64 k4] 73)) w.heap.size r F := World.ownsRow.alloc (ownsRow_later HRow.out hB2) _
    by_cases hy : y = 0
    · subst hy
      rw [if_pos rfl] at HS
      obtain ⟨v', w5, hr5, hrow5, hB5⟩ := append_e5 _ w.heap.size r F ⟨k0, k1, k2, k3, k4⟩ hrow3 hB03.size (by have := HLe.out; omega)
      obtain ⟨a5, c5, rfl, _⟩ := ownsRow_shape hrow5
      have hl1 : (F ++ [(⟨k0, k1, k2, k3, k4⟩ : En)]).length = F.length + 1 := by simp
      have HR5 : Hid (ERow w5 w.heap.size (.slice a5 (F.length + 1) c5) (F ++ [(⟨k0, k1, k2, k3, k4⟩ : En)])) := by rw [← hl1]; exact hrow5
      rw [hl1] at hr5
      have HB5 : Hid (Below w.heap.size w w5) := hB03.trans hB5
      obtain ⟨ra, rc, rfl, _⟩ := ownsRow_shape HRow.out
      simp only [World.size_alloc] at hr5
      clear hrow5 hB5 hrow3 hB2 hD
      go_wp2_with (at_builtin; refine wpl_append_run rfl _ _ 63 rfl _ _ rfl rfl hr5 ?_)
      go_roundg (ls.length - (k + 1))
      case rel => exact ⟨k + 1, _, by omega, rfl, by go_num, by rw [HS.out]; exact HR5.out, HB5.out⟩
      case measure => omega
    · rw [if_neg hy, List.append_nil] at HS
      have HB3 : Hid (Below w.heap.size w (w2.alloc (.cells #[.int .i64 k0, .int .i64 k1, .int .u32 k2, .int .u32 k3, .int .i64 k4] 73))) := hB03
      have HR3 : Hid (ERow (w2.alloc (.cells #[.int .i64 k0, .int .i64 k1, .int .u32 k2, .int .u32 k3, .int .i64 k4] 73)) w.heap.size r F) := hrow3
      have hy' : (y == 0) = false := by simpa using hy
      clear hrow3 hB03 hD
      go_wp2
      go_roundg (ls.length - (k + 1))
      case rel => exact ⟨k + 1, _, by omega, rfl, by go_num, by rw [HS.out]; exact HR3.out, HB3.out⟩
      case measure => omega

theorem ends_snoc (l : List Sp) (now : Int) (k : Nat) (s : Sp) (h : l[k]? = some s) : endsE (l.take (k + 1)) now = endsE (l.take k) now ++ (if s.opn then [⟨3, max now s.frm, 0, s.addr, s.block⟩] else []) := by
  rw [List.take_add_one, h]
  unfold endsE
  rw [List.filter_append, List.map_append]
  congr 1
  simp only [Option.toList_some]
  cases hs : s.opn with
  | true => rw [List.filter_cons_of_pos hs, List.filter_nil]; rfl
  | false => rw [List.filter_cons_of_neg (by rw [hs]; decide), List.filter_nil]; rfl

theorem ends_len2 (l : List Sp) (now : Int) : (endsE l now).length ≤ l.length := by
  unfold endsE
  rw [List.length_map]
  exact List.length_filter_le _ _

set_option maxHeartbeats 600000 in
theorem ends_ok (w : World) (v : Value) (B O : Nat) (l : List Sp) (now : Int) (h : Sps w v B O l) (hl : l.length ≤ 100000) :
    Calls Tryz.prog 34 #[v, .int .i64 now] w fun e w' => ∃ r, e = .returned r ∧ ERow w' w.heap.size r (endsE l now) ∧ Below w.heap.size w w' := by
  obtain ⟨ad, cap, rfl, h2, h3, h4, h5⟩ := h
  have H5 : Hid (∀ i s, l[i]? = some s → SpAt w B (O + i * 6) s) := h5
  unfold maxLen at h3
  have h0 : ERow w w.heap.size (.slice none 0 0) (endsE (l.take 0) now) := World.ownsRow_nil _ _ _ _
  clear h5
  go_enter Tryz.func34, Tryz.ntmps34
  go_wp2
  go_loopg [5, 10] l.length (fun gk rv i wr => ∃ (k : Nat) (r : Value), k + gk = l.length ∧ r = rv ∧ i = .int .i64 (k : Int) ∧ ERow wr w.heap.size r (endsE (l.take k) now) ∧ Below w.heap.size w wr)
  case atStart => exact ⟨0, _, by omega, rfl, rfl, h0, Below.refl _ _⟩
  case round =>
    obtain ⟨k, r, hk, rfl, rfl, hrow, hB⟩ := hrel
    by_cases hlt : k < l.length
    case neg =>
      have hge : ¬ (k : Int) < (l.length : Int) := by omega
      have hke : k = l.length := by omega
      subst hke
      rw [List.take_length] at hrow
      have HR : Hid (ERow wr w.heap.size r (endsE l now)) := hrow
      clear hrow
      go_wp2
      go_ret
      exact ⟨_, rfl, HR.out, hB⟩
    have hltI : (k : Int) < (l.length : Int) := by omega
    obtain ⟨s, hs⟩ : ∃ s, l[k]? = some s := ⟨_, List.getElem?_eq_getElem hlt⟩
    obtain rfl : ad = some ⟨B, O, none⟩ := by
      rcases h4 with h4 | h4
      · exact h4
      · subst h4; simp at hlt
    obtain ⟨c0, c1, c2, c3, c4, c5⟩ := spAt_later (H5.out k s hs) hB
    have HS : Hid (endsE (l.take (k + 1)) now = endsE (l.take k) now ++ (if s.opn then [⟨3, max now s.frm, 0, s.addr, s.block⟩] else [])) := ends_snoc l now k s hs
    have HLe : Hid ((endsE (l.take k) now).length ≤ 100000) := by
      have := ends_len2 (l.take k) now
      rw [List.length_take] at this
      show _ ≤ _
      omega
    have HRow : Hid (ERow wr w.heap.size r (endsE (l.take k) now)) := hrow
    have hbsz := hB.size
    clear hrow hs
    generalize endsE (l.take k) now = F at *
    obtain ⟨s0, s1, s2, s3, s4, s5⟩ := s
    simp only at c0 c1 c2 c3 c4 c5 HS
    obtain ⟨W, hW⟩ : ∃ W, W = wr.alloc (.cells #[.int .u32 s0, .int .u32 s1, .int .i64 s2, .int .i64 s3, .int .i64 s4, .bool s5] 59) := ⟨_, rfl⟩
    have hBW : Below wr.heap.size wr W := by rw [hW]; exact below_alloc _ _
    have hB0W := hB.trans (hBW.mono hbsz)
    cases s5 with
    | false =>
      simp only [Bool.false_eq_true, if_false, List.append_nil] at HS
      have HB3 : Hid (Below w.heap.size w W) := hB0W
      have HR3 : Hid (ERow W w.heap.size r F) := ownsRow_later HRow.out hBW
      rw [hW] at HB3 HR3
      clear hB0W hBW hW HRow
      go_wp2
      go_roundg (l.length - (k + 1))
      case rel => exact ⟨k + 1, _, by omega, rfl, by go_num, by rw [HS.out]; exact HR3.out, HB3.out⟩
      case measure => omega
    | true =>
      simp only [if_true] at HS
      have hRel := fun m => brel_ok W m s1 s2
      obtain ⟨ra, rc, rfl, _⟩ := ownsRow_shape HRow.out
      have HAp : Hid (∀ m, m = max now s3 → ∀ w4, Below W.heap.size W w4 → ∃ a5 c5 w5, (Builtin.append_ #[63, 63] 63 #[.slice ra F.length rc, .slice (some ⟨w4.heap.size, 0, none⟩) 1 1]).run Tryz.prog (w4.alloc (.cells #[.int .i64 3, .int .i64 m, .int .u32 0, .int .u32 s1, .int .i64 s2] 73)) = .ok (.slice a5 (F.length + 1) c5) w5 ∧
          ERow w5 w.heap.size (.slice a5 (F.length + 1) c5) (endsE (l.take (k + 1)) now) ∧ Below w.heap.size w w5) := by
        rintro m rfl w4 h4
        have hb4 := hB0W.trans (h4.mono hB0W.size)
        obtain ⟨v', w5, hr5, hrow5, hB5⟩ := append_e5 w4 w.heap.size _ F ⟨3, max now s3, 0, s1, s2⟩ (ownsRow_later (ownsRow_later HRow.out hBW) h4) hb4.size (by have := HLe.out; omega)
        obtain ⟨a5, c5, rfl, _⟩ := ownsRow_shape hrow5
        have hl1 : (F ++ [(⟨3, max now s3, 0, s1, s2⟩ : En)]).length = F.length + 1 := by simp
        rw [hl1] at hr5
        refine ⟨a5, c5, w5, hr5, ?_, hb4.trans hB5⟩
        rw [HS.out, ← hl1]
        exact hrow5
      rw [hW] at hRel
      clear hB0W hBW HRow
      go_wp2_with fail
      case inr =>
        refine (by exact hRel _ : Calls _ _ _ _ _).mono ?_
        rintro e w4 ⟨rfl, hB4⟩
        obtain ⟨a5, c5, w5, hr5, hrow5, hB5⟩ := HAp.out now (by omega) w4 (by rw [hW]; exact hB4)
        have HR5 : Hid (ERow w5 w.heap.size (.slice a5 (F.length + 1) c5) (endsE (l.take (k + 1)) now)) := hrow5
        clear hrow5 hRel
        go_wp2_with (at_builtin; refine wpl_append_run rfl _ _ 63 rfl _ _ rfl rfl hr5 ?_)
        go_roundg (l.length - (k + 1))
        case rel => exact ⟨k + 1, _, by omega, rfl, by go_num, HR5.out, hB5⟩
        case measure => omega
      case inl =>
        refine (by exact hRel _ : Calls _ _ _ _ _).mono ?_
        rintro e w4 ⟨rfl, hB4⟩
        obtain ⟨a5, c5, w5, hr5, hrow5, hB5⟩ := HAp.out s3 (by omega) w4 (by rw [hW]; exact hB4)
        have HR5 : Hid (ERow w5 w.heap.size (.slice a5 (F.length + 1) c5) (endsE (l.take (k + 1)) now)) := hrow5
        clear hrow5 hRel
        go_wp2_with (at_builtin; refine wpl_append_run rfl _ _ 63 rfl _ _ rfl rfl hr5 ?_)
        go_roundg (l.length - (k + 1))
        case rel => exact ⟨k + 1, _, by omega, rfl, by go_num, HR5.out, hB5⟩
        case measure => omega

end Go.Proofs.YtafkkehcacdodaaGreat

namespace Go.Proofs.YtafkkehcacdodaaGreat
open Go.RowKit Go.Shelf

/-- A book that was just made over a strand. -/
theorem bk_made {w6 w7 : World} {tag6 : Nat → Nat} {base o : Nat} {s : St} {p : PL} {t : Sd} {q : SL} (hP : PD w6 tag6 base o s p) (hQ : PO w6 tag6 base (o + 1) p.D t q) (hbase : base ≤ w6.heap.size) (hB : Below w6.heap.size w6 w7) (kv : Value) (L : List En) (hk : ERow w7 w6.heap.size kv L) (ty : TypeId) :
    ∃ tag', (∀ k, k < w6.heap.size → tag' k = tag6 k) ∧ BK (w7.alloc (.cells #[.pointer (some ⟨q.S, 0, none⟩), kv, .slice none 0 0] ty)) tag' base o p.D w7.heap.size ⟨s, t, L, []⟩ := by
  obtain ⟨W, hW⟩ : ∃ W, W = w7.alloc (.cells #[.pointer (some ⟨q.S, 0, none⟩), kv, .slice none 0 0] ty) := ⟨_, rfl⟩
  rw [← hW]
  have hs := hB.size
  have hBW : Below w6.heap.size w6 W := by rw [hW]; exact hB.trans ((below_alloc _ _).mono hs)
  obtain ⟨tag', htag⟩ : ∃ tag' : Nat → Nat, tag' = fun k => if k < w6.heap.size then tag6 k else if k = w7.heap.size then 16 * (o + 2) + 1 else 16 * (o + 2) + 2 := ⟨_, rfl⟩
  have t1 : ∀ k, k < w6.heap.size → tag' k = tag6 k := fun k hk => by rw [htag]; simp [hk]
  have t2 : tag' w7.heap.size = 16 * (o + 2) + 1 := by rw [htag]; simp [Nat.not_lt.2 hs]
  have t3 : ∀ k, w6.heap.size ≤ k → k < w7.heap.size → tag' k = 16 * (o + 2) + 2 := fun k h1 h2 => by
    rw [htag]
    simp only [if_neg (Nat.not_lt.2 h1), if_neg (Nat.ne_of_lt h2)]
  refine ⟨tag', t1, p, q, kv, .slice none 0 0, rfl, hP.keep (fun k hk _ => hBW.block k hk) t1, hQ.keep (fun k hk _ => hBW.block k hk) t1 hBW.size, ⟨?_, ?_, win_nil _ _, ⟨t2, by omega⟩, ?_, fun g hg => by simp [Value.ownBlock] at hg⟩⟩
  · rw [hW]; exact blk_new _ _ _
  · rw [hW]; exact (win_of_owns hk).later (below_alloc _ _)
  · intro g hg
    obtain ⟨h1, h2⟩ := hk.lt g hg
    exact ⟨t3 g h1 h2, by omega⟩

theorem enters_bspans : ∀ (args : Array Value) (w : World), (callFunc 24 args).run Tryz.prog w = .ok (.enter 24 args) w := enters_of Tryz.func24 (by kernel_rfl) rfl

theorem enters_ends : ∀ (args : Array Value) (w : World), (callFunc 34 args).run Tryz.prog w = .ok (.enter 34 args) w := enters_of Tryz.func34 (by kernel_rfl) rfl

theorem enters_bwrite : ∀ (args : Array Value) (w : World), (callFunc 33 args).run Tryz.prog w = .ok (.enter 33 args) w := enters_of Tryz.func33 (by kernel_rfl) rfl

/-- No disk, or no time. -/
theorem bopen_nil (w : World) (now : Int) : Calls Tryz.prog 9 #[.pointer none, .int .i64 now] w fun e w' => e = .returned (.tuple #[.pointer none, .int .i64 1]) ∧ Below w.heap.size w w' := by
  have hB := below_alloc w (.cells #[.int .i64 1, .int .i64 now, .int .u32 0, .int .u32 0, .int .i64 0] 73)
  go_enter Tryz.func9, Tryz.ntmps9
  go_wp2
  go_ret2
  exact ⟨rfl, hB⟩

theorem boot_check (now : Int) : checkE (bootE now) = if goodT now then 0 else 1 := by
  by_cases h : goodT now = true
  · rw [if_pos h, checkE_may (goodT_boot.1 h)]
  · rw [if_neg h]
    rcases check_cases (bootE now) with e | e
    · exact absurd (goodT_boot.2 (checkE_zero e)) h
    · exact e

theorem bopen_bad (w : World) (D : Nat) (now : Int) (h : goodT now = false) : Calls Tryz.prog 9 #[.pointer (some ⟨D, 0, none⟩), .int .i64 now] w fun e w' => e = .returned (.tuple #[.pointer none, .int .i64 1]) ∧ Below w.heap.size w w' := by
  have hB := below_alloc w (.cells #[.int .i64 1, .int .i64 now, .int .u32 0, .int .u32 0, .int .i64 0] 73)
  have hC := echeck_any (bootE now) (w.alloc (.cells #[.int .i64 1, .int .i64 now, .int .u32 0, .int .u32 0, .int .i64 0] 73))
  rw [boot_check, if_neg (by rw [h]; decide)] at hC
  clear h
  go_enter Tryz.func9, Tryz.ntmps9
  go_wp2_with fail
  refine (by exact hC : Calls _ _ _ _ _).mono ?_
  rintro e w1 ⟨rfl, hB1⟩
  go_wp2
  go_ret2
  exact ⟨rfl, hB.trans (hB1.mono hB.size)⟩

/-- The book that Open begins with. -/
def b0 (s : St) : Bm := ⟨s, openT s, startL s, []⟩

/-- What Open gives. -/
def bookV (x : Int) (B : Nat) : Value := if x = 0 then .pointer (some ⟨B, 0, none⟩) else .pointer none

theorem opn_wr (s : St) (now : Int) (h : opnE s now = 0) : wrB (b0 s) (moreE (startL s) now) = opnB s now := by
  unfold wrB
  rw [if_pos (by exact h)]
  rfl

theorem sps_row {w : World} {base : Nat} {v : Value} {l : List Sp} (h : SpRow w base v l) : ∃ B O, Sps w v B O l := by
  obtain ⟨a, cap, rfl, h2, h3, h4⟩ := ownsRow_shape h
  rcases h4 with h4 | ⟨g, rfl⟩
  · have hl : l = [] := List.eq_nil_of_length_eq_zero h4
    subst hl
    exact ⟨0, 0, a, cap, rfl, h2, h3, .inr rfl, fun i s hs => by simp at hs⟩
  · refine ⟨g, 0, _, cap, rfl, h2, h3, .inl rfl, fun i s hs => ?_⟩
    rw [Nat.zero_add]
    exact spRow_at h rfl hs

theorem sps_later {w w' : World} {v : Value} {B O : Nat} {l : List Sp} (h : Sps w v B O l) (hb : Below w.heap.size w w') : Sps w' v B O l := by
  obtain ⟨a, cap, h1, h2, h3, h4, h5⟩ := h
  exact ⟨a, cap, h1, h2, h3, h4, fun i s hs => spAt_later (h5 i s hs) hb⟩

/-- One entry behind a row of the call's own, from wherever it lies. -/
theorem append_eG (W : World) (base G : Nat) (v : Value) (l : List En) (e : En) (hv : ERow W base v l) (hbase : base ≤ W.heap.size) (hlen : l.length ≤ 1000000) (hc : ∀ j u, (eL5 e)[j]? = some u → W.cell? ⟨G, j, none⟩ = some u) :
    ∃ a5 c5 w', (Builtin.append_ #[63, 63] 63 #[v, .slice (some ⟨G, 0, none⟩) 1 1]).run Tryz.prog W = .ok (.slice a5 (l ++ [e]).length c5) w' ∧ ERow w' base (.slice a5 (l ++ [e]).length c5) (l ++ [e]) ∧ Below base W w' := by
  obtain ⟨i0, hi, hz0, hz1, hz2⟩ := info_parts infoE5
  obtain ⟨v', w', hr, ho, hg, -⟩ := run_append_own (P := Tryz.prog) W base 63 63 73 i0 _ 5 32 Tryz.underlying63 hi hz0 hz1 hz2 rfl (by decide) v l.length (l.flatMap eL5) hv
    ⟨G, 0, none⟩ 1 1 (eL5 e) rfl (fun j u hj => by rw [add_at, Nat.zero_add]; exact hc j u hj) (by
      intro u hu
      exact eL5_one [e] u (by rw [List.flatMap_cons, List.flatMap_nil, List.append_nil]; exact hu)) (by unfold maxLen; omega) (by omega) (by omega)
  have hE : ERow w' base v' (l ++ [e]) := by
    show w'.ownsRow base _ 5 v' (l ++ [e]).length ((l ++ [e]).flatMap eL5)
    rw [List.flatMap_append, List.length_append]
    have e1 : List.flatMap eL5 [e] = eL5 e := by rw [List.flatMap_cons, List.flatMap_nil, List.append_nil]
    rw [e1]
    exact ho
  obtain ⟨a5, c5, rfl, _⟩ := ownsRow_shape hE
  exact ⟨a5, c5, w', hr, hE, (Below.refl _ _).grown hg hbase (fun k hk => (hv.lt k hk).1)⟩

theorem e5_news (w : World) (e : En) (j : Nat) (u : Value) (h : (eL5 e)[j]? = some u) : (w.alloc (.cells (enC e) 73)).cell? ⟨w.heap.size, j, none⟩ = some u := by
  rw [(blk_new w (enC e) _).cell]; exact h

/-- Spans that a row of some call shows. -/
def SeeSp (w : World) (v : Value) (l : List Sp) : Prop := ∃ B O, Sps w v B O l

theorem SeeSp.form {w : World} {v : Value} {l : List Sp} (h : SeeSp w v l) : ∃ a c, v = .slice a l.length c := by
  obtain ⟨B, O, a, c, h1, _⟩ := h
  exact ⟨a, c, h1⟩

theorem SeeSp.later {w w' : World} {v : Value} {l : List Sp} (h : SeeSp w v l) (hb : Below w.heap.size w w') : SeeSp w' v l := by
  obtain ⟨B, O, h⟩ := h
  exact ⟨B, O, sps_later h hb⟩

set_option maxHeartbeats 4000000 in
theorem bopen_ok (w : World) (tag : Nat → Nat) (base o : Nat) (ho : 1 ≤ o) (s : St) (p : PL) (h : PD w tag base o s p) (hbase : base ≤ w.heap.size) (now : Int) (hg : goodT now = true)
    (hops : s.ops ≤ 700000) (hsin : s.since.length ≤ 700000) (hout : s.outs.length ≤ 700000) (hL : (startL s).length ≤ 1000) :
    Calls Tryz.prog 9 #[.pointer (some ⟨p.D, 0, none⟩), .int .i64 now] w fun e w' => ∃ tag', StepR tag tag' base o (o + 2) w w' ∧ ∃ B, BK w' tag' base o p.D B (wrB (b0 s) (moreE (startL s) now)) ∧ e = .returned (.tuple #[bookV (opnE s now) B, .int .i64 (opnE s now)]) := by
  obtain ⟨wa, hwa⟩ : ∃ wa, wa = w.alloc (.cells #[.int .i64 1, .int .i64 now, .int .u32 0, .int .u32 0, .int .i64 0] 73) := ⟨_, rfl⟩
  have hBa : Below w.heap.size w wa := by rw [hwa]; exact below_alloc _ _
  have hC := echeck_any (bootE now) wa
  rw [boot_check, if_pos hg] at hC
  have d0 : wa.cell? ⟨w.heap.size, 0, none⟩ = some (.int .i64 1) := by rw [hwa]; simp
  have d1 : wa.cell? ⟨w.heap.size, 1, none⟩ = some (.int .i64 now) := by rw [hwa]; simp
  have d2 : wa.cell? ⟨w.heap.size, 2, none⟩ = some (.int .u32 0) := by rw [hwa]; simp
  have d3 : wa.cell? ⟨w.heap.size, 3, none⟩ = some (.int .u32 0) := by rw [hwa]; simp
  have d4 : wa.cell? ⟨w.heap.size, 4, none⟩ = some (.int .i64 0) := by rw [hwa]; simp
  have HCl : Hid (∀ wx, Below wa.heap.size wa wx → wx.cell? ⟨w.heap.size, 0, none⟩ = some (.int .i64 1) ∧ wx.cell? ⟨w.heap.size, 1, none⟩ = some (.int .i64 now) ∧ wx.cell? ⟨w.heap.size, 2, none⟩ = some (.int .u32 0) ∧ wx.cell? ⟨w.heap.size, 3, none⟩ = some (.int .u32 0) ∧ wx.cell? ⟨w.heap.size, 4, none⟩ = some (.int .i64 0)) := fun wx hx =>
    ⟨cell_later hx d0, cell_later hx d1, cell_later hx d2, cell_later hx d3, cell_later hx d4⟩
  have HP : Hid (PD w tag base o s p) := h
  obtain ⟨hok1, hok2, hok3⟩ := openT_ok h.ok
  have hn2 := h.ok.n2
  have HOk : Hid (s.Ok) := h.ok
  clear h d0 d1 d2 d3 d4
  rw [hwa] at hC
  go_enter Tryz.func9, Tryz.ntmps9
  go_wp2_with fail
  refine (by exact hC : Calls _ _ _ _ _).mono ?_
  rintro e w1 ⟨rfl, hB1⟩
  rw [← hwa] at hB1
  have hB01 : Below w.heap.size w w1 := hBa.trans (hB1.mono hBa.size)
  have HO := open_ok w1 (clip tag w.heap.size) base o (o + 1) (by omega) s p (HP.out.clip hB01) (Nat.le_trans hbase hB01.size)
  go_wp2_with fail
  refine (by exact HO : Calls _ _ _ _ _).mono ?_
  rintro e w2 ⟨q, tag2, rfl, hQ, hT, hB2⟩
  have hB12 : Below wa.heap.size wa w2 := hB1.trans (hB2.mono hB1.size)
  have hB02 : Below w.heap.size w w2 := hB01.trans (hB2.mono hB01.size)
  have hPD2 : PD w2 tag2 base o s p := (HP.out.clip hB01).keep (fun k hk _ => hB2.block k hk) hT
  have HA := all_ok w2 tag2 base (o + 1) p.D (openT s) q hQ s.n hok1 (by omega)
  go_wp2_with fail
  refine (by exact HA : Calls _ _ _ _ _).mono ?_
  rintro e w3 ⟨v3, vs3, rfl, hL3, hB3⟩
  have HFo := found_ok w3 _ v3 vs3 (bodies (openT s)) hL3 (by rw [bodies_len]; omega)
  obtain ⟨a3, c3, rfl, _⟩ := win_form hL3.win
  go_wp2_with fail
  refine (by exact HFo : Calls _ _ _ _ _).mono ?_
  rintro e w4 ⟨kv, rfl, hK, hB4⟩
  have hB24 : Below w2.heap.size w2 w4 := hB3.trans (hB4.mono hB3.size)
  have hK : ERow w4 w3.heap.size kv (startL s) := hK
  obtain ⟨tag5, hT5, hBK⟩ := bk_made hPD2 hQ (Nat.le_trans hbase hB02.size) hB24 kv (startL s) (ownsRow_low hK hB3.size) 82
  obtain ⟨ka, kc, rfl, _⟩ := ownsRow_shape hK
  clear HO HA HFo hC hQ hPD2 hL3 hK
  obtain ⟨W, hW⟩ : ∃ W, W = w4.alloc (.cells #[.pointer (some ⟨q.S, 0, none⟩), .slice ka (startL s).length kc, .slice none 0 0] 82) := ⟨_, rfl⟩
  have hB2W : Below w2.heap.size w2 W := by rw [hW]; exact hB24.trans ((below_alloc _ _).mono hB24.size)
  have hBW : Below wa.heap.size wa W := hB12.trans (hB2W.mono hB12.size)
  have hB0W : Below w.heap.size w W := hBa.trans (hBW.mono hBa.size)
  have HSW : Hid (StepR tag tag5 base o (o + 2) w W) := ⟨hB0W.mono hbase, fun k hk => by
    have hk1 := Nat.lt_of_lt_of_le hk hB01.size
    rw [hT5 k (Nat.lt_of_lt_of_le hk hB02.size), hT k hk1]
    exact clip_lt _ _ _ hk, fun k hk _ => hB0W.block k hk⟩
  have hbW : base ≤ W.heap.size := Nat.le_trans hbase hB0W.size
  rw [← hW] at hBK
  have HBK : Hid (BK W tag5 base o p.D w4.heap.size (b0 s)) := hBK
  have HW : Hid (W = w4.alloc (.cells #[.pointer (some ⟨q.S, 0, none⟩), .slice ka (startL s).length kc, .slice none 0 0] 82)) := hW
  have hFin : Fine (startL s) := start_fine HOk.out
  have hgt : 0 ≤ now ∧ now ≤ 1099511627776 := of_decide_eq_true hg
  have hml := more_len (startL s) now
  have hel := ends_len (startL s) now
  have hslr : (startL s).length ≤ 32768 := by have := start_len HOk.out; omega
  have hbd : ∀ wx, Below W.drew.heap.size W.drew wx → Below W.heap.size W wx := fun wx h4 => (Below.refl _ W).drew.trans h4
  -- the calls of the region, in whatever world
  have HSp : ∀ wx, Hid (Below W.drew.heap.size W.drew wx → Calls Tryz.prog 24 #[.pointer (some ⟨w4.heap.size, 0, none⟩)] wx fun e w' => ∃ v', e = .returned v' ∧ SeeSp w' v' (spans (startL s)) ∧ Below wx.heap.size wx w') := fun wx hx => by
    refine (bspans_ok wx (clip tag5 W.heap.size) base o p.D w4.heap.size (b0 s) (HBK.out.new (hbd wx hx)) hFin hL).mono ?_
    rintro e w' ⟨v', rfl, h1, h2⟩
    exact ⟨v', rfl, sps_row h1, h2⟩
  have HEn : ∀ wx v, Hid (SeeSp wx v (spans (startL s)) → Calls Tryz.prog 34 #[v, .int .i64 now] wx fun e w' => ∃ r, e = .returned r ∧ ERow w' wx.heap.size r (endsE (spans (startL s)) now) ∧ Below wx.heap.size wx w') := fun wx v hx => by
    obtain ⟨B, O, hx⟩ := hx
    exact ends_ok wx v B O (spans (startL s)) now hx (by have := spans_length (startL s); omega)
  have HAp : ∀ wx r G, Hid (Below W.drew.heap.size W.drew wx → ERow wx W.heap.size r (endsE (spans (startL s)) now) → (∀ j u, (eL5 (bootE now))[j]? = some u → wx.cell? ⟨G, j, none⟩ = some u) →
      ∃ a5 c5 w5, (Builtin.append_ #[63, 63] 63 #[r, .slice (some ⟨G, 0, none⟩) 1 1]).run Tryz.prog wx = .ok (.slice a5 (moreE (startL s) now).length c5) w5 ∧ ERow w5 W.heap.size (.slice a5 (moreE (startL s) now).length c5) (moreE (startL s) now) ∧ Below W.heap.size W w5) := fun wx r G hx hrow hc => by
    have hb := hbd wx hx
    obtain ⟨a5, c5, w5, k1, k2, k3⟩ := append_eG wx W.heap.size G r (endsE (spans (startL s)) now) (bootE now) hrow hb.size (by omega) hc
    exact ⟨a5, c5, w5, k1, k2, hb.trans k3⟩
  have HWr : ∀ wx v, Hid (Below W.heap.size W wx → ERow wx W.heap.size v (moreE (startL s) now) → Calls Tryz.prog 33 #[.pointer (some ⟨w4.heap.size, 0, none⟩), v] wx fun e w' => e = .returned (.int .i64 (opnE s now)) ∧ ∃ tag', StepR tag tag' base o (o + 2) w w' ∧ BK w' tag' base o p.D w4.heap.size (wrB (b0 s) (moreE (startL s) now))) := fun wx v hx hrow => by
    have hfar : Far wx (clip tag5 W.heap.size) o (o + 1) v (moreE (startL s) now) := ⟨win_of_owns hrow, fun g hg => by
      have := (hrow.lt g hg).1
      left
      simp [clip, Nat.not_lt.2 this]; omega⟩
    refine (bwrite_ok wx (clip tag5 W.heap.size) base o p.D w4.heap.size ho (b0 s) (HBK.out.new hx) (Nat.le_trans hbW hx.size) v (moreE (startL s) now) hfar (more_fine hFin hgt.1 hgt.2) 700000 ⟨HOk.out, (openT_ok HOk.out).1, hops, hsin⟩ (by omega) (by show s.outs.length ≤ _; omega) (by show (openT s).recs.length + _ ≤ _; omega) (by show (startL s).length + _ ≤ _; omega)).mono ?_
    rintro e w' ⟨rfl, tag', k1, k2⟩
    exact ⟨rfl, tag', (HSW.out.trans (stepR_clip tag5 base o (o + 2) hbW hx)).trans k1, k2⟩
  clear hBK hT hT5 hB01 hB02 hB1 hB2 hB3 hB4 hB12 hB24 hB2W hB0W hg hW hFin hgt HBK HSW
  have HD : Hid (∀ wx, Below W.drew.heap.size W.drew wx → wx.cell? ⟨w.heap.size, 0, none⟩ = some (.int .i64 1) ∧ wx.cell? ⟨w.heap.size, 1, none⟩ = some (.int .i64 now) ∧ wx.cell? ⟨w.heap.size, 2, none⟩ = some (.int .u32 0) ∧ wx.cell? ⟨w.heap.size, 3, none⟩ = some (.int .u32 0) ∧ wx.cell? ⟨w.heap.size, 4, none⟩ = some (.int .i64 0)) := fun wx hx => HCl.out wx (hBW.trans ((hbd wx hx).mono hBW.size))
  obtain ⟨d0, d1, d2, d3, d4⟩ := HD.out W.drew (Below.refl _ _)
  have hebl : w.heap.size < W.drew.heap.size := by have := hBW.size; rw [hwa] at this; simp at this; show _ < W.heap.size; omega
  clear HCl hBW hbd hBa
  go_wp2_with fail
  rw [← HW.out]
  obtain ⟨B, hB⟩ : ∃ B, B = w4.heap.size := ⟨_, rfl⟩
  have HSp : Hid (∀ wx, Hid _) := HSp
  have HEn : Hid (∀ wx v, Hid _) := HEn
  have HAp : Hid (∀ wx r G, Hid _) := HAp
  have HWr : Hid (∀ wx v, Hid _) := HWr
  rw [← hB] at HSp HWr ⊢
  clear hB HW hok1 hok2 hok3 hn2 HP HOk hml hel hslr hL hops hsin hout hbW hwa
  go_region_law (first
    | (refine step_calls rfl 24 #[.tmp 35] #[32] rfl #[.pointer (some ⟨B, 0, none⟩)] (by go_simp) enters_bspans ((HSp.out _).out (by first | exact Below.refl _ _ | exact below_alloc _ _)) ?_
       rintro e wA ⟨v1, rfl, hs1, hbA⟩
       have hA : Below W.drew.heap.size W.drew wA := by first | exact hbA | exact (below_alloc _ _).trans (hbA.mono (below_alloc _ _).size)
       obtain ⟨d0, d1, d2, d3, d4⟩ := HD.out wA hA
       have heA : w.heap.size < wA.heap.size := Nat.lt_of_lt_of_le hebl hA.size
       try have hgA : ∀ j u, (eL5 (bootE now))[j]? = some u → wA.cell? ⟨W.drew.heap.size, j, none⟩ = some u := fun j u hj => cell_later hbA (e5_news W.drew (bootE now) j u hj)
       obtain ⟨sa, sc, hsv⟩ := hs1.form
       subst hsv
       refine ⟨_, rfl, ?_⟩)
    | (refine step_calls rfl 34 #[.tmp 36, .tmp 37] #[57, 2] rfl #[.slice sa (spans (startL s)).length sc, .int .i64 now] (by go_simp) enters_ends ((HEn.out _ _).out (by first | exact hs1 | exact hs1.later (below_alloc _ _))) ?_
       rintro e wE ⟨r, rfl, hr, hbE⟩
       have hE : Below W.drew.heap.size W.drew wE := by first | exact hA.trans (hbE.mono hA.size) | exact hA.trans (((below_alloc _ _).trans (hbE.mono (below_alloc _ _).size)).mono hA.size)
       obtain ⟨d0, d1, d2, d3, d4⟩ := HD.out wE hE
       have heE : w.heap.size < wE.heap.size := Nat.lt_of_lt_of_le hebl hE.size
       have hrE : ERow wE W.heap.size r (endsE (spans (startL s)) now) := ownsRow_low hr (by first | exact hA.size | exact Nat.le_trans hA.size (below_alloc _ _).size)
       try have hgE : ∀ j u, (eL5 (bootE now))[j]? = some u → wE.cell? ⟨wA.heap.size, j, none⟩ = some u := fun j u hj => cell_later hbE (e5_news wA (bootE now) j u hj)
       try have hgE2 : ∀ j u, (eL5 (bootE now))[j]? = some u → wE.cell? ⟨W.drew.heap.size, j, none⟩ = some u := fun j u hj => cell_later hbE (hgA j u hj)
       obtain ⟨ra, rc, hrv, _⟩ := ownsRow_shape hrE
       subst hrv
       refine ⟨_, rfl, ?_⟩)
    | (obtain ⟨a5, c5, w5, hr5, hrow5, hB5⟩ := (HAp.out (wE.alloc (.cells #[.int .i64 1, .int .i64 now, .int .u32 0, .int .u32 0, .int .i64 0] 73)) (.slice ra (endsE (spans (startL s)) now).length rc) wE.heap.size).out (hE.trans ((below_alloc _ _).mono hE.size)) (World.ownsRow.alloc hrE _) (e5_news wE (bootE now))
       refine step_app_run rfl (.tmp 38) (.tmp 40) 63 rfl (.slice ra (endsE (spans (startL s)) now).length rc) (.slice (some ⟨wE.heap.size, 0, none⟩) 1 1) (by rfl) (by rfl) hr5 ?_)
    | (obtain ⟨a5, c5, w5, hr5, hrow5, hB5⟩ := (HAp.out wE (.slice ra (endsE (spans (startL s)) now).length rc) wA.heap.size).out hE hrE hgE
       refine step_app_run rfl (.tmp 38) (.tmp 40) 63 rfl (.slice ra (endsE (spans (startL s)) now).length rc) (.slice (some ⟨wA.heap.size, 0, none⟩) 1 1) (by rfl) (by rfl) hr5 ?_)
    | (obtain ⟨a5, c5, w5, hr5, hrow5, hB5⟩ := (HAp.out wE (.slice ra (endsE (spans (startL s)) now).length rc) W.drew.heap.size).out hE hrE hgE2
       refine step_app_run rfl (.tmp 38) (.tmp 40) 63 rfl (.slice ra (endsE (spans (startL s)) now).length rc) (.slice (some ⟨W.drew.heap.size, 0, none⟩) 1 1) (by rfl) (by rfl) hr5 ?_)
    | (refine step_calls rfl 33 #[.tmp 34, .tmp 41] #[32, 63] rfl #[.pointer (some ⟨B, 0, none⟩), .slice a5 (moreE (startL s) now).length c5] (by go_simp) enters_bwrite ((HWr.out _ _).out hB5 hrow5) ?_
       rintro e w6 ⟨rfl, tag6, hS6, hB6⟩
       refine ⟨_, rfl, ?_⟩))
  all_goals
    have HS6 : Hid (StepR tag tag6 base o (o + 2) w w6) := hS6
    have HB6 : Hid (BK w6 tag6 base o p.D B (wrB (b0 s) (moreE (startL s) now))) := hB6
    clear hS6 hB6 hB5 hrow5 hr5 hrE hE hr hbE hA hbA hs1 HSp HEn HAp HWr HD
    obtain ⟨X, hXX⟩ : ∃ X, X = opnE s now := ⟨_, rfl⟩
    rw [← hXX]
    have HXX : Hid (opnE s now = X) := hXX.symm
    clear hXX
    by_cases hX : X = 0
    · subst hX
      go_wp2
      go_ret2
      exact ⟨tag6, HS6.out, B, HB6.out, by rw [HXX.out]; rfl⟩
    · have HV : Hid (bookV X B = .pointer none) := if_neg hX
      go_wp2
      go_ret2
      exact ⟨tag6, HS6.out, B, HB6.out, by rw [HXX.out, HV.out]; rfl⟩

end Go.Proofs.YtafkkehcacdodaaGreat

namespace Go.Proofs.YtafkkehcacdodaaGreat
open Go.RowKit Go.Shelf
attribute [local go_sem ↓] Go.wp_at_zero Go.wp_at_succ

theorem eqEn (s : En) (w : World) : (binOp .neq 73 (enV s) (enV s)).run Tryz.prog w = .ok (.bool false) w := by
  have hS : Tryz.prog.underlying 73 = some (.struct (Tryz.prog.fieldsOf 73)) := by kernel_rfl
  have hp : Tryz.prog.stoodInHeld 73 = false := by kernel_rfl
  have u3 := Tryz.underlying3
  have a3 := Tryz.isAgg3
  have z3 := Tryz.sizeOf3
  have u2 := Tryz.underlying2
  have a2 := Tryz.isAgg2
  have z2 := Tryz.sizeOf2
  have uU := Tryz.underlying38
  have aU := Tryz.isAgg38
  have zU := Tryz.sizeOf38
  rw [run_neq_struct, show (10000 : Nat) = 9999 + 1 from rfl, run_equalIn_agg w 9999 73 _ _ hS hp]
  simp only [Program.fieldsOf, Tryz.underlying73]
  go_simp

theorem guardEn (op : BinOp) (x y : Operand) (xs ys : Array Value) (w : World) : (eqGuard op 73 x y (.agg xs) (.agg ys)).run Tryz.prog w = .ok () w :=
  run_eqGuard_agg w op 73 x y xs ys (by kernel_rfl)

set_option maxHeartbeats 4000000 in
/-- The lists are one. -/
theorem rsame11_ok (w : World) (v v' : Value) (B O B' O' : Nat) (l : List En) (h : Ens w v B O l) (h' : Ens w v' B' O' l) :
    Calls Tryz.prog 54 #[v, v'] w fun e w' => e = .returned (.bool true) ∧ ∃ nq, w' = w.drewN nq := by
  obtain ⟨a1, d1, rfl, g1, g2, g3, g4⟩ := h
  obtain ⟨a2, d2, rfl, f1, f2, f3, f4⟩ := h'
  have G4 : Hid (∀ i s, l[i]? = some s → EnAt w B (O + i * 5) s) := g4
  have F4 : Hid (∀ i s, l[i]? = some s → EnAt w B' (O' + i * 5) s) := f4
  unfold maxLen at g2 f2
  clear g4 f4
  go_enter Tryz.func54, Tryz.ntmps54
  go_wp2
  go_loopg [5] l.length (fun gk i wr => ∃ (k nq : Nat), k + gk = l.length ∧ i = .int .i64 k ∧ wr = w.drewN nq)
  case atStart => exact ⟨0, 0, by omega, rfl, rfl⟩
  case round =>
    obtain ⟨k, nq, hk, rfl, rfl⟩ := hrel
    by_cases hlt : k < l.length
    case neg =>
      have hge : ¬ (k : Int) < (l.length : Int) := by omega
      go_wp2
      go_ret
      exact ⟨rfl, nq, rfl⟩
    have hltI : (k : Int) < (l.length : Int) := by omega
    obtain rfl : a1 = some ⟨B, O, none⟩ := by
      rcases g3 with g3 | g3
      · exact g3
      · subst g3; simp at hlt
    obtain rfl : a2 = some ⟨B', O', none⟩ := by
      rcases f3 with f3 | f3
      · exact f3
      · subst f3; simp at hlt
    obtain ⟨s, hs⟩ : ∃ s, l[k]? = some s := ⟨_, List.getElem?_eq_getElem hlt⟩
    have c1' := enAt_later (G4.out k s hs) (below_drewN10 w nq)
    have c2' := enAt_later (F4.out k s hs) (below_drewN10 w nq)
    clear hs
    obtain ⟨wx, hwx⟩ : ∃ x, x = w.drewN nq := ⟨_, rfl⟩
    rw [← hwx] at c1' c2' ⊢
    have HWX : Hid (wx = w.drewN nq) := hwx
    clear hwx
    have hne := eqEn s
    have hgd := guardEn
    obtain ⟨s0, s1, s2, s3, s4⟩ := s
    obtain ⟨p0, p1, p2, p3, p4⟩ := c1'
    obtain ⟨q0, q1, q2, q3, q4⟩ := c2'
    simp only at p0 p1 p2 p3 p4 q0 q1 q2 q3 q4 hne
    go_wp2_with fail
    go_quiet (fail)
    rename_i nq2
    go_wp2
    go_roundg (l.length - (k + 1))
    case rel => exact ⟨k + 1, _, by omega, by go_num, by rw [HWX.out, World.drewN_drewN]⟩
    case measure => omega

/-- The document's Spans. -/
theorem rbspans_ok (w : World) (B EB EO : Nat) (kv : Value) (l : List En) (hk : w.cell? ⟨B, 1, none⟩ = some kv) (hE : Ens w kv EB EO l) (hf : Fine l) (hl : l.length ≤ 1000) :
    Calls Tryz.prog 57 #[.pointer (some ⟨B, 0, none⟩)] w fun e w' => ∃ v' SB SO, e = .returned v' ∧ Sps w' v' SB SO (spans l) ∧ Below w.heap.size w w' := by
  have HC := rspans_ok kv EB EO l w hE hf.ok (by omega)
  obtain ⟨a, c, rfl, _⟩ := hE
  go_enter Tryz.func57, Tryz.ntmps57
  go_wp2_with fail
  refine (by exact HC : Calls _ _ _ _ _).mono ?_
  rintro e w' ⟨v', rfl, h1, h2⟩
  obtain ⟨SB, SO, hs⟩ := sps_row h1
  have HS : Hid (Sps w' v' SB SO (spans l)) := hs
  clear h1 hs
  go_wp2
  go_ret
  exact ⟨_, SB, SO, rfl, HS.out, h2⟩

theorem bk_laterL {w w' : World} {tag : Nat → Nat} {base o D B : Nat} {b : Bm} (h : BK w tag base o D B b) (hb : Below w.heap.size w w') : BK w' tag base o D B b := by
  obtain ⟨p', q', kv, dv, k0, k1, k2, k3⟩ := h
  exact ⟨p', q', kv, dv, k0, k1.later hb, k2.later hb, k3.later hb⟩

set_option maxHeartbeats 8000000 in
theorem looks11_ok (w : World) (tag : Nat → Nat) (base D M B B' : Nat) (m : Bm) (hb : BK w tag base 1 D B m) (hr : RK w tag base 4 M B' m) (hf : Fine m.L) (hL : m.L.length ≤ 1000) (hD : m.D.length ≤ 1000) :
    Calls Tryz.prog 21 #[.pointer (some ⟨B, 0, none⟩), .pointer (some ⟨B', 0, none⟩), .pointer (some ⟨D, 0, none⟩)] w fun e w' => e = .returned (.bool true) ∧ Below w.heap.size w w' := by
  have HBK : Hid (BK w tag base 1 D B m) := hb
  obtain ⟨p, q, kv, dv, hpM, hMD, hMS, hPB⟩ := hr
  have hwK := hPB.wK
  have hwD := hPB.wD
  obtain ⟨KB, KO, hEK, _⟩ := win_ens hwK
  obtain ⟨DB, DO, hED, _⟩ := win_ens hwD
  have HEK : Hid (Ens w kv KB KO m.L) := hEK
  have HED : Hid (Ens w dv DB DO m.D) := hED
  have k0 := hPB.s0
  have k1 := hPB.s1
  have k2 := hPB.s2
  have k3 := hMS.t0
  have k4 := hMD.m5
  rw [hpM] at k4
  obtain ⟨ka, kc, rfl, _⟩ := hEK
  obtain ⟨da, dc, rfl, _⟩ := hED
  have KL : Hid (∀ wx, Below w.heap.size w wx → wx.cell? ⟨B', 0, none⟩ = some (.pointer (some ⟨q.T, 0, none⟩)) ∧ wx.cell? ⟨B', 1, none⟩ = some (.slice ka m.L.length kc) ∧ wx.cell? ⟨B', 2, none⟩ = some (.slice da m.D.length dc) ∧ wx.cell? ⟨q.T, 0, none⟩ = some (.pointer (some ⟨M, 0, none⟩)) ∧ wx.cell? ⟨M, 5, none⟩ = some (.int .i64 m.s.ops)) := fun wx hx =>
    ⟨cell_later hx k0, cell_later hx k1, cell_later hx k2, cell_later hx k3, cell_later hx k4⟩
  have HDo : Hid (∀ wx, Below w.heap.size w wx → ∃ p', p'.D = D ∧ PD wx tag base 1 m.s p') := fun wx hx => by
    obtain ⟨p', q', kv, dv, h0, h1, _⟩ := bk_laterL HBK.out hx
    exact ⟨p', h0, h1⟩
  have HFi : Hid (Fine m.L ∧ m.L.length ≤ 1000 ∧ m.D.length ≤ 1000) := ⟨hf, hL, hD⟩
  clear hb hMD hMS hPB hwK hwD k0 k1 k2 k3 k4 hf
  have HBd : Hid (Below w.heap.size w w.drew) := (Below.refl _ w).drew
  have K1 := KL.out w.drew HBd.out
  have HDb := bdebts_ok w.drew tag base 1 D B m (bk_laterL HBK.out HBd.out) (by omega)
  go_enter Tryz.func21, Tryz.ntmps21
  go_wp2_with fail
  go_region_held3 (fun w' => w'.cell? ⟨B', 0, none⟩ = some (.pointer (some ⟨q.T, 0, none⟩)) ∧ w'.cell? ⟨B', 1, none⟩ = some (.slice ka m.L.length kc) ∧ w'.cell? ⟨B', 2, none⟩ = some (.slice da m.D.length dc) ∧ w'.cell? ⟨q.T, 0, none⟩ = some (.pointer (some ⟨M, 0, none⟩)) ∧ w'.cell? ⟨M, 5, none⟩ = some (.int .i64 m.s.ops))
    (first | (with_reducible exact K1) | (with_reducible exact K2) | (with_reducible exact K3) | (with_reducible exact K4) | (with_reducible exact K5) | (with_reducible exact K6) | (with_reducible exact K7) | (with_reducible exact K8) | (with_reducible exact K9))
    (first
      | (go_at_call 55; refine HDb.mono ?_; rintro e w2 ⟨v2, rfl, hw2, hB2, _⟩; have HB2 : Hid (Below w.heap.size w w2) := HBd.out.trans (hB2.mono HBd.out.size); have K2 := KL.out w2 HB2.out; obtain ⟨b2, o2, hE2, _⟩ := win_ens hw2; have HSm := rsame11_ok w2 _ _ _ _ _ _ _ hE2 (HED.out.later HB2.out); obtain ⟨a2, c2, rfl, _⟩ := win_form hw2; clear hw2 hE2 hB2)
      | (go_at_call 54; refine HSm.mono ?_; rintro e w3 ⟨rfl, nq3, hx3⟩; have HB3 : Hid (Below w.heap.size w w3) := (by show Below _ _ _; rw [hx3]; exact HB2.out.trans ((below_drewN w2 nq3).mono HB2.out.size)); have K3 := KL.out w3 HB3.out; have HEt := bentries_ok w3 tag base 1 D B m (bk_laterL HBK.out HB3.out) (by have := HFi.out.2.1; omega); clear hx3 HSm)
      | (go_at_call 27; refine HEt.mono ?_; rintro e w4 ⟨v4, rfl, hw4, hB4, _⟩; have HB4 : Hid (Below w.heap.size w w4) := HB3.out.trans (hB4.mono HB3.out.size); have K4 := KL.out w4 HB4.out; obtain ⟨b4, o4, hE4, _⟩ := win_ens hw4; have HSn := rsame11_ok w4 _ _ _ _ _ _ _ hE4 (HEK.out.later HB4.out); obtain ⟨a4, c4, rfl, _⟩ := win_form hw4; clear hw4 hE4 hB4)
      | (go_at_call 54; refine HSn.mono ?_; rintro e w5 ⟨rfl, nq5, hx5⟩; have HB5 : Hid (Below w.heap.size w w5) := (by show Below _ _ _; rw [hx5]; exact HB4.out.trans ((below_drewN w4 nq5).mono HB4.out.size)); have K5 := KL.out w5 HB5.out; have HSp := bspans_ok w5 tag base 1 D B m (bk_laterL HBK.out HB5.out) HFi.out.1 HFi.out.2.1; clear hx5 HSn)
      | (go_at_call 24; refine HSp.mono ?_; rintro e w6 ⟨v6, rfl, hw6, hB6⟩; have HB6 : Hid (Below w.heap.size w w6) := HB5.out.trans (hB6.mono HB5.out.size); have K6 := KL.out w6 HB6.out; obtain ⟨b6, o6, hE6⟩ := sps_row hw6; have HE6 : Hid (Sps w6 v6 b6 o6 (spans m.L)) := hE6; have HSr := rbspans_ok w6 B' KB KO _ m.L K6.2.1 (HEK.out.later HB6.out) HFi.out.1 HFi.out.2.1; obtain ⟨a6, c6, rfl, _⟩ := hE6; clear hw6 hB6)
      | (go_at_call 57; refine HSr.mono ?_; rintro e w7 ⟨v7, b7, o7, rfl, hE7, hB7⟩; have HB7 : Hid (Below w.heap.size w w7) := HB6.out.trans (hB7.mono HB6.out.size); have K7 := KL.out w7 HB7.out; have HSq := same10_ok w7 _ _ _ _ _ _ _ (sps_later HE6.out hB7) hE7; obtain ⟨a7, c7, rfl, _⟩ := hE7; clear hB7)
      | (go_at_call 56; refine HSq.mono ?_; rintro e w8 ⟨rfl, nq8, hx8⟩; have HB8 : Hid (Below w.heap.size w w8) := (by show Below _ _ _; rw [hx8]; exact HB7.out.trans ((below_drewN w7 nq8).mono HB7.out.size)); have K8 := KL.out w8 HB8.out; obtain ⟨p8, hp8, hP8⟩ := HDo.out w8 HB8.out; have HOp := ops_ok w8 tag base 1 m.s p8 hP8; rw [hp8] at HOp; clear hx8 hP8 hp8)
      | (go_at_call 58; refine HOp.mono ?_; rintro e w9 ⟨rfl, hx9⟩; have HB9 : Hid (Below w.heap.size w w9) := (by show Below _ _ _; rw [hx9]; exact HB8.out); have K9 := KL.out w9 HB9.out; clear hx9))
  have HZ : Hid (Below w.heap.size w w9) := HB9.out
  clear K1 K2 K3 K4 K5 K6 K7 K8 K9
  go_wp2
  go_ret
  exact ⟨rfl, HZ.out⟩

end Go.Proofs.YtafkkehcacdodaaGreat

namespace Go.Proofs.YtafkkehcacdodaaGreat
open Go.RowKit Go.Shelf

theorem wrt1 (s : St) (t : Sd) (e : En) : wrtE s t [e] = (if appE s t (bytesE e) ≠ 0 then appE s t (bytesE e) else errC (appS s t (bytesE e)).out) ∧ wrtS s t [e] = (if appE s t (bytesE e) ≠ 0 then appS s t (bytesE e) else (appS s t (bytesE e)).sync) ∧
    wrtT s t [e] = (if appE s t (bytesE e) ≠ 0 then appT s t (bytesE e) else synT (appS s t (bytesE e)) (appT s t (bytesE e))) := by
  unfold wrtE wrtS wrtT layE layS layT
  by_cases h : appE s t (bytesE e) ≠ 0
  · simp only [if_pos h]
    exact ⟨trivial, trivial, trivial⟩
  · simp only [if_neg h, layE, layS, layT]
    exact ⟨rfl, rfl, rfl⟩

/-- A Sync of the document's book's strand. -/
theorem rsyn_ok (w : World) (tag : Nat → Nat) (base o M B : Nat) (b : Bm) (h : RK w tag base o M B b) (q : Nat) (hn : Nb b.s b.t q) (hq : q ≤ 900000) (hout : b.s.outs.length ≤ 900000) : ∃ T, w.cell? ⟨B, 0, none⟩ = some (.pointer (some ⟨T, 0, none⟩)) ∧
    Calls Tryz.prog 40 #[.pointer (some ⟨T, 0, none⟩)] w fun r w' => r = .returned (.int .i64 (errC b.s.out)) ∧ StepR tag tag base o (o + 1) w w' ∧ RK w' tag base o M B ⟨b.s.sync, synT b.s b.t, b.L, b.D⟩ := by
  obtain ⟨p, q', kv, dv, hD, hP, hPo, hPb⟩ := h
  have hops := hn.ops
  have hpn := hn.tk.pn
  have hn2 := hn.ok.n2
  have hsn := (sync_okS hn.ok).2
  refine ⟨q'.T, hPb.s0, (rsync8_ok w tag base o (o + 1) (by omega) b.s p hP b.t q' (by rw [hD]; exact hPo) (by omega) (by omega) (by omega)).mono ?_⟩
  rintro r w' ⟨rfl, p1, h1, h2, h3, h4⟩
  have hS := h4.range (lo := o) (hi := o + 1) (Nat.le_refl o) (Nat.le_succ o) (Nat.le_succ o) (Nat.le_refl _)
  exact ⟨rfl, hS, p1, q', kv, dv, h1.trans hD, h2, by rw [← hD]; show MSt w' tag base (o + 1) p.M b.s.sync.n _ q'; rw [hsn]; exact h3, hPb.otherR hS (by omega)⟩

/-- One entry more is told. -/
theorem rk_known {w : World} {tag : Nat → Nat} {base o M B : Nat} {b : Bm} (h : RK w tag base o M B b) (hbase : base ≤ w.heap.size) (hl : b.L.length ≤ 900000) (r : En) :
    ∃ a c, w.cell? ⟨B, 1, none⟩ = some (.slice a b.L.length c) ∧ B < w.heap.size ∧ ∃ a5 c5 w5, (Builtin.append_ #[63, 63] 63 #[.slice a b.L.length c, .slice (some ⟨w.heap.size, 0, none⟩) 1 1]).run Tryz.prog (w.alloc (.cells (enC r) 73)) = .ok (.slice a5 (b.L.length + 1) c5) w5 ∧
      w5.cell? ⟨B, 1, none⟩ = some (.slice a b.L.length c) ∧ w5.frozen? ⟨B, 1, none⟩ = false ∧ ∃ tag', StepR tag tag' base (o + 2) (o + 2) w (w5.setCell ⟨B, 1, none⟩ (.slice a5 (b.L.length + 1) c5)) ∧ RK (w5.setCell ⟨B, 1, none⟩ (.slice a5 (b.L.length + 1) c5)) tag' base o M B ⟨b.s, b.t, b.L ++ [r], b.D⟩ := by
  obtain ⟨p, q', kv, dv, hD, hP, hPo, hPb⟩ := h
  obtain ⟨a, c, rfl, a5, c5, w5, h1, h2, h3, tag', h4, h5⟩ := pb_known hPb hbase hl r
  exact ⟨a, c, hPb.s1, hPb.bB.lt, a5, c5, w5, h1, h2, h3, tag', h4, p, q', _, dv, hD, hP.otherR h4 (by omega), hPo.otherR h4 (by omega), h5⟩

theorem rk_owe {w : World} {tag : Nat → Nat} {base o M B : Nat} {b : Bm} (h : RK w tag base o M B b) (hbase : base ≤ w.heap.size) (hl : b.D.length ≤ 900000) (r : En) :
    ∃ a c, w.cell? ⟨B, 2, none⟩ = some (.slice a b.D.length c) ∧ B < w.heap.size ∧ ∃ a5 c5 w5, (Builtin.append_ #[63, 63] 63 #[.slice a b.D.length c, .slice (some ⟨w.heap.size, 0, none⟩) 1 1]).run Tryz.prog (w.alloc (.cells (enC r) 73)) = .ok (.slice a5 (b.D.length + 1) c5) w5 ∧
      w5.cell? ⟨B, 2, none⟩ = some (.slice a b.D.length c) ∧ w5.frozen? ⟨B, 2, none⟩ = false ∧ ∃ tag', StepR tag tag' base (o + 2) (o + 2) w (w5.setCell ⟨B, 2, none⟩ (.slice a5 (b.D.length + 1) c5)) ∧ RK (w5.setCell ⟨B, 2, none⟩ (.slice a5 (b.D.length + 1) c5)) tag' base o M B ⟨b.s, b.t, b.L, b.D ++ [r]⟩ := by
  obtain ⟨p, q', kv, dv, hD, hP, hPo, hPb⟩ := h
  obtain ⟨a, c, rfl, a5, c5, w5, h1, h2, h3, tag', h4, h5⟩ := pb_owe hPb hbase hl r
  exact ⟨a, c, hPb.s2, hPb.bB.lt, a5, c5, w5, h1, h2, h3, tag', h4, p, q', kv, _, hD, hP.otherR h4 (by omega), hPo.otherR h4 (by omega), h5⟩

/-- Nothing is owed any more. -/
theorem rk_none {w : World} {tag : Nat → Nat} {base o M B : Nat} {b : Bm} (h : RK w tag base o M B b) : StepR tag tag base (o + 2) (o + 2) w (w.setCell ⟨B, 2, none⟩ (.slice none 0 0)) ∧ RK (w.setCell ⟨B, 2, none⟩ (.slice none 0 0)) tag base o M B ⟨b.s, b.t, b.L, []⟩ := by
  obtain ⟨p, q', kv, dv, hD, hP, hPo, hPb⟩ := h
  have hst : Step tag tag base (o + 2) w (w.setCell ⟨B, 2, none⟩ (.slice none 0 0)) := step_set tag base (o + 2) w hPb.tB.2 (by have := hPb.tB.1; omega) 2 _
  have hsR := hst.range (lo := o + 2) (hi := o + 2) (Nat.le_refl _) (Nat.le_refl _)
  refine ⟨hsR, p, q', kv, .slice none 0 0, hD, hP.otherR hsR (by omega), hPo.otherR hsR (by omega), ⟨by simpa using hPb.bB.set 2 (.slice none 0 0), ?_, win_nil _ _, hPb.tB, hPb.tK, fun g hg => by simp [Value.ownBlock] at hg⟩⟩
  refine hPb.wK.same (fun g hg => ?_)
  have ht := (hPb.tK g hg).1
  exact heap_setCell_other _ _ g _ (fun e => by have : g = B := e; rw [this] at ht; have := hPb.tB.1; omega)

/-- The debts of a book are seen: one. -/
theorem rk_debt {w : World} {tag : Nat → Nat} {base o M B : Nat} {b : Bm} (h : RK w tag base o M B b) {x : En} (hx : b.D = [x]) : ∃ DB DO c, w.cell? ⟨B, 2, none⟩ = some (.slice (some ⟨DB, DO, none⟩) 1 c) ∧ 1 ≤ c ∧ c ≤ maxLen ∧ EnAt w DB DO x := by
  obtain ⟨p, q', kv, dv, hD, hP, hPo, hPb⟩ := h
  have hW := hPb.wD
  have h2 := hPb.s2
  rw [hx] at hW
  obtain ⟨DB, DO, ⟨a, c, rfl, h3, h4, h5, h6⟩, _⟩ := win_ens hW
  have he := h6 0 x rfl
  rw [Nat.zero_mul, Nat.add_zero] at he
  rcases h5 with rfl | h5
  · exact ⟨DB, DO, c, h2, h3, h4, he⟩
  · cases h5

theorem rk_fB {w : World} {tag : Nat → Nat} {base o M B : Nat} {b : Bm} (h : RK w tag base o M B b) (j : Nat) : w.frozen? ⟨B, j, none⟩ = false := by
  obtain ⟨p, q', kv, dv, hD, hP, hPo, hPb⟩ := h
  exact hPb.fB j

theorem rk_none2 {w : World} {tag : Nat → Nat} {base o M B : Nat} {b : Bm} (h : RK w tag base o M B b) (hx : b.D = []) : ∃ a c, w.cell? ⟨B, 2, none⟩ = some (.slice a 0 c) := by
  obtain ⟨p, q', kv, dv, hD, hP, hPo, hPb⟩ := h
  have h2 := hPb.s2
  obtain ⟨a, c, rfl, _⟩ := win_form hPb.wD
  rw [hx] at h2
  exact ⟨a, c, h2⟩

set_option maxHeartbeats 8000000 in
theorem rpay_ok (w : World) (tag : Nat → Nat) (base o M B : Nat) (ho : 1 ≤ o) (b : Bm) (h : RK w tag base o M B b) (hbase : base ≤ w.heap.size) (q : Nat) (hb : b.Ok q)
    (hq : q ≤ 800000) (hout : b.s.outs.length ≤ 900000) (hrec : b.t.recs.length ≤ 800000) (hL : b.L.length ≤ 800000) :
    Calls Tryz.prog 20 #[.pointer (some ⟨B, 0, none⟩)] w fun r w' => r = .returned (.int .i64 b.payE) ∧ ∃ tag', StepR tag tag' base o (o + 2) w w' ∧ RK w' tag' base o M B b.pay := by
  have HK : Hid (RK w tag base o M B b) := h
  by_cases hDe : b.D = []
  · have HP : Hid (b.payE = 0 ∧ b.pay = b) := ⟨if_pos hDe, if_pos hDe⟩
    obtain ⟨a, c, g2⟩ := rk_none2 h hDe
    clear h hDe
    go_enter Tryz.func20, Tryz.ntmps20
    go_wp2
    go_ret
    exact ⟨by rw [HP.out.1]; rfl, tag, StepR.refl _ _ _ _ _, by rw [HP.out.2]; exact HK.out⟩
  obtain ⟨x, hx⟩ : ∃ x, b.D = [x] := by
    have h1 := hb.d1
    cases hd : b.D with
    | nil => exact absurd hd hDe
    | cons y r =>
      rw [hd] at h1
      have : r = [] := List.eq_nil_of_length_eq_zero (by simpa using h1)
      exact ⟨y, by rw [this]⟩
  have hfx := hb.fD x (by rw [hx]; simp)
  obtain ⟨u1, u2, u3⟩ := wrt1 b.s b.t x
  have HpE : Hid (b.payE = wrtE b.s b.t [x]) := by show b.payE = _; unfold Bm.payE; rw [if_neg hDe, hx]
  have HpB : Hid (b.pay = ⟨wrtS b.s b.t [x], wrtT b.s b.t [x], if wrtE b.s b.t [x] = 0 then b.L ++ [x] else b.L, if wrtE b.s b.t [x] = 0 then [] else [x]⟩) := by
    show b.pay = _
    unfold Bm.pay Bm.paid
    rw [if_neg hDe, hx]
  have HU : Hid (wrtE b.s b.t [x] = (if appE b.s b.t (bytesE x) ≠ 0 then appE b.s b.t (bytesE x) else errC (appS b.s b.t (bytesE x)).out) ∧ wrtS b.s b.t [x] = (if appE b.s b.t (bytesE x) ≠ 0 then appS b.s b.t (bytesE x) else (appS b.s b.t (bytesE x)).sync) ∧
    wrtT b.s b.t [x] = (if appE b.s b.t (bytesE x) ≠ 0 then appT b.s b.t (bytesE x) else synT (appS b.s b.t (bytesE x)) (appT b.s b.t (bytesE x)))) := ⟨u1, u2, u3⟩
  have HDx : Hid (b.D = [x]) := hx
  have hnb := hb.nb
  obtain ⟨n1, n2, n3⟩ := hnb.app (bytesE x) (bytesE_bytes x)
  have n4 := outs_app b.s b.t (bytesE x)
  have HApp := fun w1 tag1 h1 hb1 => rapp_ok w1 tag1 base o M B ho b h1 hb1 x hfx.1 hfx.2 q hnb (by omega) hout (by omega)
  have HSyn := fun w1 tag1 h1 => rsyn_ok w1 tag1 base o M B ⟨appS b.s b.t (bytesE x), appT b.s b.t (bytesE x), b.L, b.D⟩ h1 (q + 1) n1 (by omega) (by show (appS b.s b.t (bytesE x)).outs.length ≤ _; omega)
  have HApp : Hid (∀ w1 tag1, _) := HApp
  have HSyn : Hid (∀ w1 tag1, _) := HSyn
  obtain ⟨DB0, DO0, dc0, g2, hdc1, hdc2, _⟩ := rk_debt h hx
  clear h hb hnb n1 n2 n3 n4 u1 u2 u3 hx hfx hDe
  generalize hE1 : appE b.s b.t (bytesE x) = E1 at *
  generalize hS1 : appS b.s b.t (bytesE x) = S1 at *
  generalize hT1 : appT b.s b.t (bytesE x) = T1 at *
  clear hE1 hS1 hT1
  unfold maxLen at hdc2
  go_enter Tryz.func20, Tryz.ntmps20
  go_wp2
  go_loopg [3] 1 (fun gk i wr => ∃ k : Nat, k + gk = 1 ∧ i = .int .i64 k ∧ ∃ tag', StepR tag tag' base o (o + 2) w wr ∧ (k = 0 → RK wr tag' base o M B b) ∧ (k = 1 → E1 = 0 ∧ RK wr tag' base o M B ⟨S1, T1, b.L, b.D⟩))
  case atStart => exact ⟨0, by omega, rfl, tag, StepR.refl _ _ _ _ _, fun _ => HK.out, fun h => absurd h (by decide)⟩
  case round =>
    obtain ⟨k, hk, rfl, tag1, hSt, hk0, hk1⟩ := hrel
    obtain ⟨wx, rfl⟩ : ∃ wx, wx = wr := ⟨wr, rfl⟩
    have hbx : base ≤ wx.heap.size := Nat.le_trans hbase hSt.below.size
    have HSt : Hid (StepR tag tag1 base o (o + 2) w wx) := hSt
    by_cases hlt : k < 1
    · have hk00 : k = 0 := by omega
      subst hk00
      have hK := hk0 rfl
      have HKx : Hid (RK wx tag1 base o M B b) := hK
      obtain ⟨DB, DO, dc, g2, hd1, hd2, c0, c1, c2, c3, c4⟩ := rk_debt hK HDx.out
      unfold maxLen at hd2
      have hA := HApp.out wx tag1 hK hbx
      clear hK hk0 hk1 hSt HApp
      obtain ⟨x0, x1, x2, x3, x4⟩ := x
      simp only at c0 c1 c2 c3 c4
      go_wp2_with fail
      refine (by exact hA : Calls _ _ _ _ _).mono ?_
      rintro r w2 ⟨rfl, tag2, hS2, hK2⟩
      have HS2 : Hid (StepR tag tag2 base o (o + 2) w w2) := HSt.out.trans (hS2.wide (Nat.le_refl o) (by omega))
      have HK2 : Hid (RK w2 tag2 base o M B ⟨S1, T1, b.L, b.D⟩) := hK2
      clear hS2 hK2 hA
      by_cases hE : E1 = 0
      · subst hE
        go_wp2
        go_roundg 0
        case rel => exact ⟨1, by omega, by go_num, tag2, HS2.out, fun h => absurd h (by decide), fun _ => by simpa using HK2.out⟩
        case measure => omega
      · have HR : Hid (b.payE = E1 ∧ b.pay = ⟨S1, T1, b.L, b.D⟩) := by
          obtain ⟨v1, v2, v3⟩ := HU.out
          rw [if_pos hE] at v1 v2 v3
          refine ⟨HpE.out.trans v1, ?_⟩
          rw [HpB.out, v1, v2, v3, if_neg hE, if_neg hE, HDx.out]
        go_wp2
        go_ret
        exact ⟨by rw [HR.out.1]; rfl, tag2, HS2.out, by rw [HR.out.2]; exact HK2.out⟩
    · have hk11 : k = 1 := by omega
      subst hk11
      obtain ⟨hE, hK⟩ := hk1 rfl
      subst hE
      have HKx : Hid (RK wx tag1 base o M B ⟨S1, T1, b.L, b.D⟩) := hK
      obtain ⟨DB, DO, dc, g2, hd1, hd2, _⟩ := rk_debt hK HDx.out
      unfold maxLen at hd2
      obtain ⟨T, g0, hSy⟩ := HSyn.out wx tag1 hK
      clear hK hk0 hk1 hSt HApp HSyn
      have HU1 : Hid (wrtE b.s b.t [x] = errC S1.out ∧ wrtS b.s b.t [x] = S1.sync ∧ wrtT b.s b.t [x] = synT S1 T1) := by
        obtain ⟨v1, v2, v3⟩ := HU.out
        rw [if_neg (by simp)] at v1 v2 v3
        exact ⟨v1, v2, v3⟩
      go_wp2_with fail
      refine (by exact hSy : Calls _ _ _ _ _).mono ?_
      rintro r w2 ⟨rfl, hS2, hK2⟩
      have HS2 : Hid (StepR tag tag1 base o (o + 2) w w2) := HSt.out.trans (hS2.wide (Nat.le_refl o) (by omega))
      have HK2 : Hid (RK w2 tag1 base o M B ⟨S1.sync, synT S1 T1, b.L, b.D⟩) := hK2
      clear hS2 hK2 hSy
      generalize errC S1.out = E2 at *
      by_cases hE2 : E2 = 0
      case neg =>
        have HR : Hid (b.payE = E2 ∧ b.pay = ⟨S1.sync, synT S1 T1, b.L, b.D⟩) := by
          obtain ⟨v1, v2, v3⟩ := HU1.out
          refine ⟨HpE.out.trans v1, ?_⟩
          rw [HpB.out, v1, v2, v3, if_neg hE2, if_neg hE2, HDx.out]
        go_wp2
        go_ret
        exact ⟨by rw [HR.out.1]; rfl, tag1, HS2.out, by rw [HR.out.2]; exact HK2.out⟩
      subst hE2
      go_wp2_with fail
      go_loopg [6] 1 (fun gk2 i wr2 => ∃ k : Nat, k + gk2 = 1 ∧ i = .int .i64 k ∧ ∃ tag', StepR tag tag' base o (o + 2) w wr2 ∧ (k = 0 → RK wr2 tag' base o M B ⟨S1.sync, synT S1 T1, b.L, b.D⟩) ∧ (k = 1 → RK wr2 tag' base o M B ⟨S1.sync, synT S1 T1, b.L ++ [x], b.D⟩))
      case atStart => exact ⟨0, by omega, rfl, tag1, HS2.out, fun _ => HK2.out, fun h => absurd h (by decide)⟩
      case round =>
        obtain ⟨k, hk, rfl, tag3, hSt3, hk0, hk1⟩ := hrel
        obtain ⟨wy, rfl⟩ : ∃ wy, wy = wr := ⟨wr, rfl⟩
        have hby : base ≤ wy.heap.size := Nat.le_trans hbase hSt3.below.size
        have HSt3 : Hid (StepR tag tag3 base o (o + 2) w wy) := hSt3
        by_cases hlt2 : k < 1
        · have hk00 : k = 0 := by omega
          subst hk00
          have hK := hk0 rfl
          obtain ⟨DB, DO, dc, g2, hd1, hd2, c0, c1, c2, c3, c4⟩ := rk_debt hK HDx.out
          unfold maxLen at hd2
          have hKd : RK wy.drew tag3 base o M B ⟨S1.sync, synT S1 T1, b.L, b.D⟩ := hK.later (Below.refl _ wy).drew
          obtain ⟨la, lc, g1, hBl, a5, c5, w5, hr5, h5a, h5b, tag5, hS5, hK5⟩ := rk_known hKd hby (by show b.L.length ≤ _; omega) x
          have g1' : wy.cell? ⟨B, 1, none⟩ = some (.slice la b.L.length lc) := g1
          have HR5 : Hid (StepR tag tag5 base o (o + 2) w (w5.setCell ⟨B, 1, none⟩ (.slice a5 (b.L.length + 1) c5)) ∧ RK (w5.setCell ⟨B, 1, none⟩ (.slice a5 (b.L.length + 1) c5)) tag5 base o M B ⟨S1.sync, synT S1 T1, b.L ++ [x], b.D⟩) :=
            ⟨⟨HSt3.out.below.drew.trans hS5.below, fun j hj => (hS5.tags j (Nat.lt_of_lt_of_le hj HSt3.out.below.size)).trans (HSt3.out.tags j hj), fun j hj hne => (hS5.kept j (Nat.lt_of_lt_of_le hj HSt3.out.below.size) (by rw [HSt3.out.tags j hj]; omega)).trans (HSt3.out.kept j hj hne)⟩, hK5⟩
          have h5a' : w5.cell? ⟨B, 1, none⟩ = some (.slice la b.L.length lc) := h5a
          have hBl' : B < wy.heap.size := hBl
          clear hK hk0 hk1 hSt3 hKd hS5 hK5 g1 h5a
          obtain ⟨x0, x1, x2, x3, x4⟩ := x
          simp only at c0 c1 c2 c3 c4
          go_wp2_with fail
          go_region_law (refine step_app_run rfl (.tmp 55) (.tmp 63) 63 rfl (.slice la b.L.length lc) (.slice (some ⟨wy.drew.heap.size, 0, none⟩) 1 1) (by rfl) (by rfl) (by exact hr5) ?_)
          all_goals
            go_wp2
            go_roundg 0
            case rel => exact ⟨1, by omega, by go_num, tag5, HR5.out.1, fun h => absurd h (by decide), fun _ => HR5.out.2⟩
            case measure => omega
        · have hk11 : k = 1 := by omega
          subst hk11
          have hK := hk1 rfl
          obtain ⟨DB, DO, dc, g2, hd1, hd2, _⟩ := rk_debt hK HDx.out
          unfold maxLen at hd2
          have f2 := rk_fB hK 2
          obtain ⟨hS9, hK9⟩ := rk_none hK
          have HR : Hid (b.payE = 0 ∧ b.pay = ⟨S1.sync, synT S1 T1, b.L ++ [x], []⟩) := by
            obtain ⟨v1, v2, v3⟩ := HU1.out
            refine ⟨HpE.out.trans v1, ?_⟩
            rw [HpB.out, v1, v2, v3, if_pos rfl, if_pos rfl]
          have HF9 : Hid (StepR tag tag3 base o (o + 2) w (wy.setCell ⟨B, 2, none⟩ (.slice none 0 0)) ∧ RK (wy.setCell ⟨B, 2, none⟩ (.slice none 0 0)) tag3 base o M B ⟨S1.sync, synT S1 T1, b.L ++ [x], []⟩) := ⟨HSt3.out.trans (hS9.wide (by omega) (Nat.le_refl _)), hK9⟩
          clear hK hk0 hk1 hSt3 hS9 hK9
          go_wp2
          go_ret
          exact ⟨by rw [HR.out.1]; rfl, tag3, HF9.out.1, by rw [HR.out.2]; exact HF9.out.2⟩

end Go.Proofs.YtafkkehcacdodaaGreat

namespace Go.Proofs.YtafkkehcacdodaaGreat
open Go.RowKit Go.Shelf

theorem put_cases (b : Bm) (e : En) : (checkE e ≠ 0 ∧ b.putE e = checkE e ∧ b.put e = b) ∨ (checkE e = 0 ∧ b.payE ≠ 0 ∧ b.putE e = b.payE ∧ b.put e = b.pay) ∨ (checkE e = 0 ∧ b.payE = 0 ∧ b.putE e = wrtE b.pay.s b.pay.t [e] ∧ b.put e = b.pay.wrote e) := by
  unfold Bm.putE Bm.put
  by_cases hc : checkE e = 0
  · have hc' : ¬ checkE e ≠ 0 := by simpa using hc
    rw [if_neg hc', if_neg hc']
    by_cases hp : b.payE = 0
    · have hp' : ¬ b.payE ≠ 0 := by simpa using hp
      rw [if_neg hp', if_neg hp']
      exact .inr (.inr ⟨hc, hp, rfl, rfl⟩)
    · rw [if_pos hp, if_pos hp]
      exact .inr (.inl ⟨hc, hp, rfl, rfl⟩)
  · rw [if_pos hc, if_pos hc]
    exact .inl ⟨hc, rfl, rfl⟩

set_option maxHeartbeats 3000000 in
theorem rwrite_ok (w : World) (tag : Nat → Nat) (base o M B : Nat) (ho : 1 ≤ o) (b : Bm) (h : RK w tag base o M B b) (hbase : base ≤ w.heap.size) (e : En) (hok : e.Ok) (q : Nat) (hb : b.Ok q)
    (hq : q ≤ 700000) (hout : b.s.outs.length ≤ 900000) (hrec : b.t.recs.length ≤ 700000) (hL : b.L.length ≤ 700000) :
    Calls Tryz.prog 47 #[.pointer (some ⟨B, 0, none⟩), enV e] w fun r w' => r = .returned (.int .i64 (b.putE e)) ∧ ∃ tag', StepR tag tag' base o (o + 2) w w' ∧ RK w' tag' base o M B (b.put e) := by
  have hba := below_alloc w (.cells (enC e) 73)
  have HC := rcheck_any e (w.alloc (.cells (enC e) 73))
  have HK : Hid (RK w tag base o M B b) := h
  have HCa : Hid ((checkE e ≠ 0 ∧ b.putE e = checkE e ∧ b.put e = b) ∨ (checkE e = 0 ∧ b.payE ≠ 0 ∧ b.putE e = b.payE ∧ b.put e = b.pay) ∨ (checkE e = 0 ∧ b.payE = 0 ∧ b.putE e = wrtE b.pay.s b.pay.t [e] ∧ b.put e = b.pay.wrote e)) := put_cases b e
  have HPay := fun w1 tag1 h1 hb1 => rpay_ok w1 tag1 base o M B ho b h1 hb1 q hb (by omega) hout (by omega) (by omega)
  have HPay : Hid (∀ w1 tag1, _) := HPay
  obtain ⟨hpo, hgr, hpd⟩ := hb.pay
  have hgo := hgr.outs
  have hgr1 := hgr.recs
  have hgl := hgr.L
  have HPD : Hid (b.payE = 0 → b.pay.D = []) := hpd
  have HMay : Hid (checkE e = 0 → e.May) := checkE_zero
  have HApp : Hid (∀ w1 tag1, e.May → RK w1 tag1 base o M B b.pay → base ≤ w1.heap.size → Calls Tryz.prog 39 #[.pointer (some ⟨B, 0, none⟩), enV e] w1 fun r w' => r = .returned (.int .i64 (appE b.pay.s b.pay.t (bytesE e))) ∧ ∃ tag', StepR tag1 tag' base o (o + 1) w1 w' ∧ RK w' tag' base o M B ⟨appS b.pay.s b.pay.t (bytesE e), appT b.pay.s b.pay.t (bytesE e), b.pay.L, b.pay.D⟩) :=
    fun w1 tag1 hm h1 hb1 => rapp_ok w1 tag1 base o M B ho b.pay h1 hb1 e hm hok (q + 2) hpo.nb (by omega) (by omega) (by omega)
  obtain ⟨n1, n2, n3⟩ := hpo.nb.app (bytesE e) (bytesE_bytes e)
  have n4 := outs_app b.pay.s b.pay.t (bytesE e)
  have HSyn := fun w1 tag1 h1 => rsyn_ok w1 tag1 base o M B ⟨appS b.pay.s b.pay.t (bytesE e), appT b.pay.s b.pay.t (bytesE e), b.pay.L, b.pay.D⟩ h1 (q + 2 + 1) n1 (by omega) (by show (appS b.pay.s b.pay.t (bytesE e)).outs.length ≤ _; omega)
  have HSyn : Hid (∀ w1 tag1, _) := HSyn
  have HU : Hid (wrtE b.pay.s b.pay.t [e] = (if appE b.pay.s b.pay.t (bytesE e) ≠ 0 then appE b.pay.s b.pay.t (bytesE e) else errC (appS b.pay.s b.pay.t (bytesE e)).out) ∧ wrtS b.pay.s b.pay.t [e] = (if appE b.pay.s b.pay.t (bytesE e) ≠ 0 then appS b.pay.s b.pay.t (bytesE e) else (appS b.pay.s b.pay.t (bytesE e)).sync) ∧
    wrtT b.pay.s b.pay.t [e] = (if appE b.pay.s b.pay.t (bytesE e) ≠ 0 then appT b.pay.s b.pay.t (bytesE e) else synT (appS b.pay.s b.pay.t (bytesE e)) (appT b.pay.s b.pay.t (bytesE e)))) := wrt1 _ _ _
  have HWr : Hid (b.pay.wrote e = ⟨wrtS b.pay.s b.pay.t [e], wrtT b.pay.s b.pay.t [e], if wrtE b.pay.s b.pay.t [e] = 0 then b.pay.L ++ [e] else b.pay.L, if wrtE b.pay.s b.pay.t [e] ≠ 0 ∧ e.kind = 2 ∧ wrtE b.pay.s b.pay.t [e] ≠ 6 then b.pay.D ++ [relE e] else b.pay.D⟩) := rfl
  clear h hb hpo hgr hpd n1 n2 n3 n4 hgo
  generalize hE1 : appE b.pay.s b.pay.t (bytesE e) = E1 at *
  generalize hS1 : appS b.pay.s b.pay.t (bytesE e) = S1 at *
  generalize hT1 : appT b.pay.s b.pay.t (bytesE e) = T1 at *
  clear hE1 hS1 hT1
  obtain ⟨k0, k1, k2, k3, k4⟩ := e
  have HRel : Hid (relE ⟨k0, k1, k2, k3, k4⟩ = ⟨3, k1, 0, k3, k4⟩) := rfl
  go_enter Tryz.func47, Tryz.ntmps47
  go_wp2_with fail
  refine (by exact HC : Calls _ _ _ _ _).mono ?_
  rintro r w1 ⟨rfl, hB1⟩
  have hB01 : Below w.heap.size w w1 := hba.trans (hB1.mono hba.size)
  have HS1 : Hid (StepR tag (clip tag w.heap.size) base o (o + 2) w w1) := stepR_clip tag base o (o + 2) hbase hB01
  have HK1 : Hid (RK w1 (clip tag w.heap.size) base o M B b) := HK.out.new hB01
  have hb1 : base ≤ w1.heap.size := Nat.le_trans hbase hB01.size
  have htw : clip tag w.heap.size w.heap.size / 16 < o := by simp [clip]; omega
  have hws : w.heap.size < w1.heap.size := by have := hB1.size; simp at this; omega
  have d0 : w1.cell? ⟨w.heap.size, 0, none⟩ = some (.int .i64 k0) := cell_later hB1 (by simp)
  have d1 : w1.cell? ⟨w.heap.size, 1, none⟩ = some (.int .i64 k1) := cell_later hB1 (by simp)
  have d2 : w1.cell? ⟨w.heap.size, 2, none⟩ = some (.int .u32 k2) := cell_later hB1 (by simp)
  have d3 : w1.cell? ⟨w.heap.size, 3, none⟩ = some (.int .u32 k3) := cell_later hB1 (by simp)
  have d4 : w1.cell? ⟨w.heap.size, 4, none⟩ = some (.int .i64 k4) := cell_later hB1 (by simp)
  have HCe : Hid (∀ w2 tag2, StepR (clip tag w.heap.size) tag2 base o (o + 2) w1 w2 → w2.cell? ⟨w.heap.size, 0, none⟩ = some (.int .i64 k0) ∧ w2.cell? ⟨w.heap.size, 1, none⟩ = some (.int .i64 k1) ∧ w2.cell? ⟨w.heap.size, 2, none⟩ = some (.int .u32 k2) ∧ w2.cell? ⟨w.heap.size, 3, none⟩ = some (.int .u32 k3) ∧ w2.cell? ⟨w.heap.size, 4, none⟩ = some (.int .i64 k4)) := fun w2 tag2 h2 =>
    ⟨((stepR_cell h2 hws htw 0).1).trans d0, ((stepR_cell h2 hws htw 1).1).trans d1, ((stepR_cell h2 hws htw 2).1).trans d2, ((stepR_cell h2 hws htw 3).1).trans d3, ((stepR_cell h2 hws htw 4).1).trans d4⟩
  clear hB1 hB01 hba HC d0 d1 d2 d3 d4
  rcases HCa.out with ⟨p1, p2, p3⟩ | ⟨p1, p2, p3, p4⟩ | ⟨p1, p2, p3, p4⟩
  · have HP : Hid (b.putE ⟨k0, k1, k2, k3, k4⟩ = checkE ⟨k0, k1, k2, k3, k4⟩ ∧ b.put ⟨k0, k1, k2, k3, k4⟩ = b) := ⟨p2, p3⟩
    clear p2 p3
    generalize checkE ⟨k0, k1, k2, k3, k4⟩ = X at *
    go_wp2
    go_ret
    exact ⟨by rw [HP.out.1]; rfl, _, HS1.out, by rw [HP.out.2]; exact HK1.out⟩
  · have HP : Hid (b.putE ⟨k0, k1, k2, k3, k4⟩ = b.payE ∧ b.put ⟨k0, k1, k2, k3, k4⟩ = b.pay) := ⟨p3, p4⟩
    have hPy := HPay.out w1 _ HK1.out hb1
    rw [p1]
    clear p1 p3 p4
    generalize b.payE = X at *
    go_wp2_with fail
    refine (by exact hPy : Calls _ _ _ _ _).mono ?_
    rintro r w2 ⟨rfl, tag2, hS2, hK2⟩
    have HF : Hid (StepR tag tag2 base o (o + 2) w w2 ∧ RK w2 tag2 base o M B b.pay) := ⟨HS1.out.trans hS2, hK2⟩
    clear hS2 hK2 hPy
    go_wp2
    go_ret
    exact ⟨by rw [HP.out.1]; rfl, _, HF.out.1, by rw [HP.out.2]; exact HF.out.2⟩
  · have HP : Hid (b.putE ⟨k0, k1, k2, k3, k4⟩ = wrtE b.pay.s b.pay.t [⟨k0, k1, k2, k3, k4⟩] ∧ b.put ⟨k0, k1, k2, k3, k4⟩ = b.pay.wrote ⟨k0, k1, k2, k3, k4⟩) := ⟨p3, p4⟩
    have hPy := HPay.out w1 _ HK1.out hb1
    have hmay := HMay.out p1
    have HpD : Hid (b.pay.D = []) := HPD.out p2
    rw [p1]
    rw [p2] at hPy
    clear p1 p2 p3 p4 HPay HPD HMay HCa HK HK1
    go_wp2_with fail
    refine (by exact hPy : Calls _ _ _ _ _).mono ?_
    rintro r w2 ⟨rfl, tag2, hS2, hK2⟩
    have HS2 : Hid (StepR (clip tag w.heap.size) tag2 base o (o + 2) w1 w2) := hS2
    have hA := HApp.out w2 tag2 hmay hK2 (Nat.le_trans hb1 hS2.below.size)
    obtain ⟨c0, c1, c2, c3, c4⟩ := HCe.out w2 tag2 hS2
    clear hS2 hK2 hPy hmay HApp
    go_wp2_with fail
    refine (by exact hA : Calls _ _ _ _ _).mono ?_
    rintro r w3 ⟨rfl, tag3, hS3, hK3⟩
    have HS3 : Hid (StepR (clip tag w.heap.size) tag3 base o (o + 2) w1 w3) := HS2.out.trans (hS3.wide (Nat.le_refl o) (by omega))
    have HK3 : Hid (RK w3 tag3 base o M B ⟨S1, T1, b.pay.L, b.pay.D⟩) := hK3
    clear c0 c1 c2 c3 c4 hS3 hK3 hA HS2
    -- what follows where an error x stands
    have HOwe : Hid (∀ x S T w4 tag4, x ≠ 0 → wrtE b.pay.s b.pay.t [⟨k0, k1, k2, k3, k4⟩] = x → wrtS b.pay.s b.pay.t [⟨k0, k1, k2, k3, k4⟩] = S → wrtT b.pay.s b.pay.t [⟨k0, k1, k2, k3, k4⟩] = T → StepR (clip tag w.heap.size) tag4 base o (o + 2) w1 w4 → RK w4 tag4 base o M B ⟨S, T, b.pay.L, b.pay.D⟩ →
        (k0 = 2 ∧ x ≠ 6 → ∃ a c, w4.cell? ⟨B, 2, none⟩ = some (.slice a b.pay.D.length c) ∧ B < w4.heap.size ∧ ∃ a5 c5 w5, (Builtin.append_ #[63, 63] 63 #[.slice a b.pay.D.length c, .slice (some ⟨w4.drew.heap.size, 0, none⟩) 1 1]).run Tryz.prog (w4.drew.alloc (.cells #[.int .i64 3, .int .i64 k1, .int .u32 0, .int .u32 k3, .int .i64 k4] 73)) = .ok (.slice a5 (b.pay.D.length + 1) c5) w5 ∧
          w5.cell? ⟨B, 2, none⟩ = some (.slice a b.pay.D.length c) ∧ w5.frozen? ⟨B, 2, none⟩ = false ∧ ∃ tag', StepR tag tag' base o (o + 2) w (w5.setCell ⟨B, 2, none⟩ (.slice a5 (b.pay.D.length + 1) c5)) ∧ RK (w5.setCell ⟨B, 2, none⟩ (.slice a5 (b.pay.D.length + 1) c5)) tag' base o M B (b.put ⟨k0, k1, k2, k3, k4⟩)) ∧
        (¬ (k0 = 2 ∧ x ≠ 6) → StepR tag tag4 base o (o + 2) w w4 ∧ RK w4 tag4 base o M B (b.put ⟨k0, k1, k2, k3, k4⟩))) := by
      intro x S T w4 tag4 hx e1 e2 e3 hS4 hK4
      have hS04 := HS1.out.trans hS4
      constructor
      · rintro ⟨hk2, hx6⟩
        have hb4 : base ≤ w4.heap.size := Nat.le_trans hbase hS04.below.size
        have hKd : RK w4.drew tag4 base o M B ⟨S, T, b.pay.L, b.pay.D⟩ := hK4.later (Below.refl _ w4).drew
        obtain ⟨a, c, g2, hBl, a5, c5, w5, hr5, h5a, h5b, tag5, hS5, hK5⟩ := rk_owe hKd hb4 (by show b.pay.D.length ≤ _; rw [HpD.out]; simp) ⟨3, k1, 0, k3, k4⟩
        refine ⟨a, c, g2, hBl, a5, c5, w5, hr5, h5a, h5b, tag5, ⟨hS04.below.drew.trans hS5.below, fun j hj => (hS5.tags j (Nat.lt_of_lt_of_le hj hS04.below.size)).trans (hS04.tags j hj), fun j hj hne => (hS5.kept j (Nat.lt_of_lt_of_le hj hS04.below.size) (by rw [hS04.tags j hj]; omega)).trans (hS04.kept j hj hne)⟩, ?_⟩
        rw [HP.out.2, HWr.out, e1, e2, e3, if_neg hx, if_pos ⟨hx, hk2, hx6⟩, HRel.out]
        exact hK5
      · intro hn
        refine ⟨hS04, ?_⟩
        rw [HP.out.2, HWr.out, e1, e2, e3, if_neg hx, if_neg (fun h => hn ⟨h.2.1, h.2.2⟩)]
        exact hK4
    go_upto_if 20 with fail
    go_cut [5] from 6 (fun x5 wc => ∃ X S T tag4, x5 = .int .i64 X ∧ Hid (wrtE b.pay.s b.pay.t [⟨k0, k1, k2, k3, k4⟩] = X ∧ wrtS b.pay.s b.pay.t [⟨k0, k1, k2, k3, k4⟩] = S ∧ wrtT b.pay.s b.pay.t [⟨k0, k1, k2, k3, k4⟩] = T) ∧ Hid (StepR (clip tag w.heap.size) tag4 base o (o + 2) w1 wc) ∧ Hid (RK wc tag4 base o M B ⟨S, T, b.pay.L, b.pay.D⟩))
    case first =>
      by_cases hE : E1 = 0
      case neg =>
        have HFi : Hid (wrtE b.pay.s b.pay.t [⟨k0, k1, k2, k3, k4⟩] = E1 ∧ wrtS b.pay.s b.pay.t [⟨k0, k1, k2, k3, k4⟩] = S1 ∧ wrtT b.pay.s b.pay.t [⟨k0, k1, k2, k3, k4⟩] = T1) := by
          obtain ⟨v1, v2, v3⟩ := HU.out
          rw [if_pos hE] at v1 v2 v3
          exact ⟨v1, v2, v3⟩
        have hb0' : (E1 == 0) = false := by simpa using hE
        clear hE
        go_wp2
        go_meet
        exact ⟨E1, S1, T1, tag3, rfl, HFi, HS3, HK3⟩
      subst hE
      have HFi : Hid (wrtE b.pay.s b.pay.t [⟨k0, k1, k2, k3, k4⟩] = errC S1.out ∧ wrtS b.pay.s b.pay.t [⟨k0, k1, k2, k3, k4⟩] = S1.sync ∧ wrtT b.pay.s b.pay.t [⟨k0, k1, k2, k3, k4⟩] = synT S1 T1) := by
        obtain ⟨v1, v2, v3⟩ := HU.out
        rw [if_neg (by simp)] at v1 v2 v3
        exact ⟨v1, v2, v3⟩
      obtain ⟨T, g0, hSy⟩ := HSyn.out w3 tag3 HK3.out
      go_wp2_with fail
      refine (by exact hSy : Calls _ _ _ _ _).mono ?_
      rintro r w4 ⟨rfl, hS4, hK4⟩
      have HS4 : Hid (StepR (clip tag w.heap.size) tag3 base o (o + 2) w1 w4) := HS3.out.trans (hS4.wide (Nat.le_refl o) (by omega))
      have HK4 : Hid (RK w4 tag3 base o M B ⟨S1.sync, synT S1 T1, b.pay.L, b.pay.D⟩) := hK4
      clear hS4 hK4 hSy g0
      go_wp2
      go_meet
      exact ⟨_, _, _, tag3, rfl, HFi, HS4, HK4⟩
    case rest =>
    obtain ⟨X, S, T, tag4, rfl, HX, HS4, HK4⟩ := hcut
    obtain ⟨w4, rfl⟩ : ∃ w4, w4 = wc := ⟨wc, rfl⟩
    clear HS3 HK3 HSyn HU
    have HuE : Hid (b.putE ⟨k0, k1, k2, k3, k4⟩ = X) := HP.out.1.trans HX.out.1
    obtain ⟨c0, c1, c2, c3, c4⟩ := HCe.out w4 tag4 HS4.out
    by_cases hz : X = 0
    case neg =>
      obtain ⟨f1, f2⟩ := HOwe.out X S T w4 tag4 hz HX.out.1 HX.out.2.1 HX.out.2.2 HS4.out HK4.out
      clear HX HP HWr HK4 HOwe
      have hb1' : (X != 0) = true := by simpa using hz
      have hb0' : (X == 0) = false := by simpa using hz
      by_cases hcond : k0 = 2 ∧ X ≠ 6
      · obtain ⟨hk2, h6⟩ := hcond
        obtain ⟨a, c, g2, hBl, a5, c5, w5, hr5, h5a, h5b, tag5, hS5, hK5⟩ := f1 ⟨hk2, h6⟩
        have HF : Hid (StepR tag tag5 base o (o + 2) w (w5.setCell ⟨B, 2, none⟩ (.slice a5 (b.pay.D.length + 1) c5)) ∧ RK (w5.setCell ⟨B, 2, none⟩ (.slice a5 (b.pay.D.length + 1) c5)) tag5 base o M B (b.put ⟨k0, k1, k2, k3, k4⟩)) := ⟨hS5, hK5⟩
        have h6' : (X != 6) = true := by simpa using h6
        clear f1 f2 hS5 hK5 h6 hz
        subst hk2
        have hwl : w.heap.size < w4.heap.size := Nat.lt_of_lt_of_le hws HS4.out.below.size
        clear c2 HCe HS4 HS1 hws htw hb1
        go_wp2_with fail
        go_region_law (refine step_app_run rfl (.tmp 49) (.tmp 57) 63 rfl (.slice a b.pay.D.length c) (.slice (some ⟨w4.drew.heap.size, 0, none⟩) 1 1) (by rfl) (by rfl) hr5 ?_)
        all_goals
          go_wp2
          go_ret
          exact ⟨by rw [HuE.out]; rfl, tag5, HF.out.1, HF.out.2⟩
      · have HF : Hid (StepR tag tag4 base o (o + 2) w w4 ∧ RK w4 tag4 base o M B (b.put ⟨k0, k1, k2, k3, k4⟩)) := f2 hcond
        clear f1 f2 hz
        by_cases hk2 : k0 = 2
        · have h6 : X = 6 := by
            by_cases h : X = 6
            · exact h
            · exact absurd ⟨hk2, h⟩ hcond
          subst hk2 h6
          clear hcond
          go_wp2
          go_ret
          exact ⟨by rw [HuE.out]; rfl, tag4, HF.out.1, HF.out.2⟩
        · have hk2' : (k0 == 2) = false := by simpa using hk2
          clear hcond
          go_wp2
          go_ret
          exact ⟨by rw [HuE.out]; rfl, tag4, HF.out.1, HF.out.2⟩
    subst hz
    have hS04 := HS1.out.trans HS4.out
    have hb4 : base ≤ w4.heap.size := Nat.le_trans hbase hS04.below.size
    have hKd : RK w4.drew tag4 base o M B ⟨S, T, b.pay.L, b.pay.D⟩ := HK4.out.later (Below.refl _ w4).drew
    obtain ⟨la, lc, g1, hBl, a5, c5, w5, hr5, h5a, h5b, tag5, hS5, hK5⟩ := rk_known hKd hb4 (by show b.pay.L.length ≤ _; omega) ⟨k0, k1, k2, k3, k4⟩
    have g1' : w4.cell? ⟨B, 1, none⟩ = some (.slice la b.pay.L.length lc) := g1
    have h5a' : w5.cell? ⟨B, 1, none⟩ = some (.slice la b.pay.L.length lc) := h5a
    have hBl' : B < w4.heap.size := hBl
    have hwl : w.heap.size < w4.heap.size := Nat.lt_of_lt_of_le hws HS4.out.below.size
    have HF : Hid (StepR tag tag5 base o (o + 2) w (w5.setCell ⟨B, 1, none⟩ (.slice a5 (b.pay.L.length + 1) c5)) ∧ RK (w5.setCell ⟨B, 1, none⟩ (.slice a5 (b.pay.L.length + 1) c5)) tag5 base o M B (b.put ⟨k0, k1, k2, k3, k4⟩)) := by
      refine ⟨⟨hS04.below.drew.trans hS5.below, fun j hj => (hS5.tags j (Nat.lt_of_lt_of_le hj hS04.below.size)).trans (hS04.tags j hj), fun j hj hne => (hS5.kept j (Nat.lt_of_lt_of_le hj hS04.below.size) (by rw [hS04.tags j hj]; omega)).trans (hS04.kept j hj hne)⟩, ?_⟩
      obtain ⟨v1, v2, v3⟩ := HX.out
      rw [HP.out.2, HWr.out, v1, v2, v3, if_pos rfl, if_neg (fun h => h.1 rfl)]
      exact hK5
    clear hKd hS5 hK5 g1 h5a HX HP HWr HK4 HOwe hS04 HCe HS4 HS1 hws htw hb1
    go_wp2_with fail
    go_region_law (refine step_app_run rfl (.tmp 32) (.tmp 34) 63 rfl (.slice la b.pay.L.length lc) (.slice (some ⟨w4.drew.heap.size, 0, none⟩) 1 1) (by rfl) (by rfl) hr5 ?_)
    all_goals
      go_wp2
      go_ret
      exact ⟨by rw [HuE.out]; rfl, tag5, HF.out.1, HF.out.2⟩

theorem rgrant_ok (w : World) (tag : Nat → Nat) (base o M B : Nat) (ho : 1 ≤ o) (b : Bm) (h : RK w tag base o M B b) (hbase : base ≤ w.heap.size) (now sub addr block : Int) (hok : En.Ok ⟨2, now, sub, addr, block⟩) (q : Nat) (hb : b.Ok q)
    (hq : q ≤ 700000) (hout : b.s.outs.length ≤ 900000) (hrec : b.t.recs.length ≤ 700000) (hL : b.L.length ≤ 700000) :
    Calls Tryz.prog 16 #[.pointer (some ⟨B, 0, none⟩), .int .i64 now, .int .u32 sub, .int .u32 addr, .int .i64 block] w fun r w' => r = .returned (.int .i64 (b.putE ⟨2, now, sub, addr, block⟩)) ∧ ∃ tag', StepR tag tag' base o (o + 2) w w' ∧ RK w' tag' base o M B (b.put ⟨2, now, sub, addr, block⟩) := by
  have HW := rwrite_ok w tag base o M B ho b h hbase ⟨2, now, sub, addr, block⟩ hok q hb hq hout hrec hL
  clear h
  go_enter Tryz.func16, Tryz.ntmps16
  go_wp2_with fail
  refine (by exact HW : Calls _ _ _ _ _).mono ?_
  rintro r w1 ⟨rfl, tag1, h1, h2⟩
  have HF : Hid (StepR tag tag1 base o (o + 2) w w1 ∧ RK w1 tag1 base o M B (b.put ⟨2, now, sub, addr, block⟩)) := ⟨h1, h2⟩
  clear h1 h2 HW
  go_wp2
  go_ret
  exact ⟨rfl, tag1, HF.out.1, HF.out.2⟩

theorem rrelease_ok (w : World) (tag : Nat → Nat) (base o M B : Nat) (ho : 1 ≤ o) (b : Bm) (h : RK w tag base o M B b) (hbase : base ≤ w.heap.size) (now addr block : Int) (hok : En.Ok ⟨3, now, 0, addr, block⟩) (q : Nat) (hb : b.Ok q)
    (hq : q ≤ 700000) (hout : b.s.outs.length ≤ 900000) (hrec : b.t.recs.length ≤ 700000) (hL : b.L.length ≤ 700000) :
    Calls Tryz.prog 18 #[.pointer (some ⟨B, 0, none⟩), .int .i64 now, .int .u32 addr, .int .i64 block] w fun r w' => r = .returned (.int .i64 (b.putE ⟨3, now, 0, addr, block⟩)) ∧ ∃ tag', StepR tag tag' base o (o + 2) w w' ∧ RK w' tag' base o M B (b.put ⟨3, now, 0, addr, block⟩) := by
  have HW := rwrite_ok w tag base o M B ho b h hbase ⟨3, now, 0, addr, block⟩ hok q hb hq hout hrec hL
  clear h
  go_enter Tryz.func18, Tryz.ntmps18
  go_wp2_with fail
  refine (by exact HW : Calls _ _ _ _ _).mono ?_
  rintro r w1 ⟨rfl, tag1, h1, h2⟩
  have HF : Hid (StepR tag tag1 base o (o + 2) w w1 ∧ RK w1 tag1 base o M B (b.put ⟨3, now, 0, addr, block⟩)) := ⟨h1, h2⟩
  clear h1 h2 HW
  go_wp2
  go_ret
  exact ⟨rfl, tag1, HF.out.1, HF.out.2⟩

end Go.Proofs.YtafkkehcacdodaaGreat

namespace Go.Proofs.YtafkkehcacdodaaGreat
open Go.RowKit Go.Shelf

/-- A book of the document, its strand at T. -/
def RKT (w : World) (tag : Nat → Nat) (base o M T B : Nat) (b : Bm) : Prop :=
  ∃ p q kv dv, p.M = M ∧ q.T = T ∧ MD w tag base o b.s p ∧ MSt w tag base (o + 1) M b.s.n b.t q ∧ PB w tag base (o + 2) q.T b.L b.D B kv dv

section
variable {w w' : World} {tag tag' : Nat → Nat} {base o M T B : Nat} {b : Bm}

theorem RKT.rk (h : RKT w tag base o M T B b) : RK w tag base o M B b := by
  obtain ⟨p, q, kv, dv, h0, _, h1, h2, h3⟩ := h
  exact ⟨p, q, kv, dv, h0, h1, h2, h3⟩

theorem RKT.later (h : RKT w tag base o M T B b) (hb : Below w.heap.size w w') : RKT w' tag base o M T B b := by
  obtain ⟨p, q, kv, dv, h0, ht, h1, h2, h3⟩ := h
  exact ⟨p, q, kv, dv, h0, ht, h1.later hb, h2.later hb, h3.later hb⟩

theorem RKT.new (h : RKT w tag base o M T B b) (hb : Below w.heap.size w w') : RKT w' (clip tag w.heap.size) base o M T B b := by
  obtain ⟨p, q, kv, dv, h0, ht, h1, h2, h3⟩ := h
  exact ⟨p, q, kv, dv, h0, ht, h1.keep (fun k hk _ => hb.block k hk) (fun k hk => clip_lt _ _ _ hk), h2.keep (fun k hk _ => hb.block k hk) (fun k hk => clip_lt _ _ _ hk) hb.size, h3.keep (fun k hk _ => hb.block k hk) (fun k hk => clip_lt _ _ _ hk)⟩

/-- The strand's bodies are seen. -/
theorem RKT.bodies (h : RKT w tag base o M T B b) : ∃ lv vs, w.cell? ⟨T, 3, none⟩ = some lv ∧ Win w 1 lv (Go.Proofs.YtafkkehcacdodaaGreat.bodies b.t).length vs ∧ ∀ i, i < (Go.Proofs.YtafkkehcacdodaaGreat.bodies b.t).length → Bts w (vs.getD i undef) ((Go.Proofs.YtafkkehcacdodaaGreat.bodies b.t).getD i []) := by
  obtain ⟨p, q, kv, dv, h0, rfl, h1, h2, h3⟩ := h
  exact ⟨q.lv, q.vs, h2.bT.cell 3, h2.wL, h2.bt⟩

theorem RKT.b0 (h : RKT w tag base o M T B b) : w.cell? ⟨B, 0, none⟩ = some (.pointer (some ⟨T, 0, none⟩)) := by
  obtain ⟨p, q, kv, dv, h0, rfl, h1, h2, h3⟩ := h
  exact h3.s0

/-- One entry more is told. -/
theorem RKT.known (h : RKT w tag base o M T B b) (hbase : base ≤ w.heap.size) (hl : b.L.length ≤ 900000) (r : En) :
    ∃ a c, w.cell? ⟨B, 1, none⟩ = some (.slice a b.L.length c) ∧ B < w.heap.size ∧ ∃ a5 c5 w5, (Builtin.append_ #[63, 63] 63 #[.slice a b.L.length c, .slice (some ⟨w.heap.size, 0, none⟩) 1 1]).run Tryz.prog (w.alloc (.cells (enC r) 73)) = .ok (.slice a5 (b.L.length + 1) c5) w5 ∧
      w5.cell? ⟨B, 1, none⟩ = some (.slice a b.L.length c) ∧ w5.frozen? ⟨B, 1, none⟩ = false ∧ ∃ tag', StepR tag tag' base (o + 2) (o + 2) w (w5.setCell ⟨B, 1, none⟩ (.slice a5 (b.L.length + 1) c5)) ∧ RKT (w5.setCell ⟨B, 1, none⟩ (.slice a5 (b.L.length + 1) c5)) tag' base o M T B ⟨b.s, b.t, b.L ++ [r], b.D⟩ := by
  obtain ⟨p, q', kv, dv, hD, hT, hP, hPo, hPb⟩ := h
  obtain ⟨a, c, rfl, a5, c5, w5, h1, h2, h3, tag', h4, h5⟩ := pb_known hPb hbase hl r
  exact ⟨a, c, hPb.s1, hPb.bB.lt, a5, c5, w5, h1, h2, h3, tag', h4, p, q', _, dv, hD, hT, hP.otherR h4 (by omega), hPo.otherR h4 (by omega), h5⟩

theorem RKT.seen (h : RKT w tag base o M T B b) : ∃ kv EB EO, w.cell? ⟨B, 1, none⟩ = some kv ∧ Ens w kv EB EO b.L := by
  obtain ⟨p, q', kv, dv, hD, hT, hP, hPo, hPb⟩ := h
  obtain ⟨EB, EO, hE, _⟩ := win_ens hPb.wK
  exact ⟨kv, EB, EO, hPb.s1, hE⟩

end

/-- A document's book that was just made over a strand. -/
theorem rk_made {w6 : World} {tag6 : Nat → Nat} {base o : Nat} {s : St} {p : ML} {t : Sd} {q : TL} (hP : MD w6 tag6 base o s p) (hQ : MSt w6 tag6 base (o + 1) p.M s.n t q) (hbase : base ≤ w6.heap.size) (ty : TypeId) :
    ∃ tag', (∀ k, k < w6.heap.size → tag' k = tag6 k) ∧ RKT (w6.alloc (.cells #[.pointer (some ⟨q.T, 0, none⟩), .slice none 0 0, .slice none 0 0] ty)) tag' base o p.M q.T w6.heap.size ⟨s, t, [], []⟩ := by
  have hB := below_alloc w6 (.cells #[.pointer (some ⟨q.T, 0, none⟩), .slice none 0 0, .slice none 0 0] ty)
  obtain ⟨tag', htag⟩ : ∃ tag' : Nat → Nat, tag' = fun k => if k < w6.heap.size then tag6 k else 16 * (o + 2) + 1 := ⟨_, rfl⟩
  have t1 : ∀ k, k < w6.heap.size → tag' k = tag6 k := fun k hk => by rw [htag]; simp [hk]
  have t2 : tag' w6.heap.size = 16 * (o + 2) + 1 := by rw [htag]; simp
  refine ⟨tag', t1, p, q, .slice none 0 0, .slice none 0 0, rfl, rfl, hP.keep (fun k hk _ => hB.block k hk) t1, hQ.keep (fun k hk _ => hB.block k hk) t1 hB.size, ⟨blk_new _ _ _, win_nil _ _, win_nil _ _, ⟨t2, hbase⟩, fun g hg => by simp [Value.ownBlock] at hg, fun g hg => by simp [Value.ownBlock] at hg⟩⟩

theorem rgood_ok (w : World) (t : Int) : Calls Tryz.prog 35 #[.int .i64 t] w fun e w' => e = .returned (.bool (goodT t)) ∧ w' = w := by
  have HG : Hid (goodT t = decide (0 ≤ t ∧ t ≤ 1099511627776)) := rfl
  by_cases h0 : 0 ≤ t
  · by_cases h1 : t ≤ 1099511627776
    · have HT : Hid (goodT t = true) := by show _ = _; rw [HG.out]; exact decide_eq_true ⟨h0, h1⟩
      go_enter Tryz.func35, Tryz.ntmps35
      go_wp2
      go_ret
      exact ⟨by rw [HT.out]; rfl, rfl⟩
    · have HT : Hid (goodT t = false) := by show _ = _; rw [HG.out]; exact decide_eq_false (fun h => h1 h.2)
      go_enter Tryz.func35, Tryz.ntmps35
      go_wp2
      go_ret
      exact ⟨by rw [HT.out]; rfl, rfl⟩
  · have HT : Hid (goodT t = false) := by show _ = _; rw [HG.out]; exact decide_eq_false (fun h => h0 h.1)
    go_enter Tryz.func35, Tryz.ntmps35
    go_wp2
    go_ret
    exact ⟨by rw [HT.out]; rfl, rfl⟩

theorem ropen_bad (w : World) (M : Nat) (now : Int) (h : goodT now = false) : Calls Tryz.prog 10 #[.pointer (some ⟨M, 0, none⟩), .int .i64 now] w fun e w' => e = .returned (.tuple #[.pointer none, .int .i64 1]) ∧ w' = w := by
  have hG := rgood_ok w now
  rw [h] at hG
  clear h
  go_enter Tryz.func10, Tryz.ntmps10
  go_wp2_with fail
  refine (by exact hG : Calls _ _ _ _ _).mono ?_
  rintro e w1 ⟨rfl, rfl⟩
  go_wp2
  go_ret2
  exact ⟨rfl, rfl⟩

end Go.Proofs.YtafkkehcacdodaaGreat

namespace Go.Proofs.YtafkkehcacdodaaGreat
open Go.RowKit Go.Shelf

theorem start_new (n : Nat) : startL (St.new n) = [] := by
  unfold startL
  rw [openT_new]
  rfl

theorem new_opn (n : Nat) (h1 : 1 ≤ n) (now : Int) (hg : goodT now = true) : opnE (St.new n) now = 0 := by
  have hm := goodT_boot.1 hg
  unfold opnE
  rw [start_new, openT_new]
  have hf := frameE_bytes hm
  have hl := bytesE_len hm
  have hfit : (⟨0, 0, []⟩ : Sd).fit (bytesE (bootE now)) = ⟨0, 0, []⟩ := by
    unfold Sd.fit
    rw [if_neg (by show ¬ 64 < 0 + _; omega)]
  have hE : appE (St.new n) ⟨0, 0, []⟩ (bytesE (bootE now)) = 0 := by
    unfold appE
    rw [if_neg (by simp [hf]), hfit, if_neg (by show ¬ n ≤ 0; omega)]
    rfl
  have hS : (appS (St.new n) ⟨0, 0, []⟩ (bytesE (bootE now))).out = 0 := by
    have := outs_app (St.new n) ⟨0, 0, []⟩ (bytesE (bootE now))
    exact out_nil this
  have hmore : moreE [] now = [bootE now] := rfl
  rw [hmore]
  unfold wrtE
  have hlay : layE (St.new n) ⟨0, 0, []⟩ [bootE now] = 0 := by
    unfold layE
    rw [if_neg (by simpa using hE)]
    rfl
  rw [if_neg (by simpa using hlay)]
  unfold layS
  rw [if_neg (by simpa using hE)]
  show errC (appS (St.new n) ⟨0, 0, []⟩ (bytesE (bootE now))).out = 0
  rw [hS]
  rfl

/-- A new book. -/
def newB (n : Nat) (now : Int) : Bm := opnB (St.new n) now

theorem newB_ok (n : Nat) (h1 : 1 ≤ n) (h2 : n ≤ 4096) (now : Int) (hg : goodT now = true) : (newB n now).Ok 2 ∧ (newB n now).s.n = n ∧ (newB n now).t.recs.length ≤ 1 ∧ (newB n now).s.outs.length = 0 ∧ (newB n now).L = [bootE now] := by
  have hgt : 0 ≤ now ∧ now ≤ 1099511627776 := of_decide_eq_true hg
  obtain ⟨k1, k2, k3, k4⟩ := opn_ok (St.ok_new h1 h2) (q := 0) (Nat.le_refl _) (Nat.le_refl _) hgt.1 hgt.2
  have hm : moreE (startL (St.new n)) now = [bootE now] := by rw [start_new]; rfl
  rw [hm] at k1 k3
  rw [openT_new] at k3
  refine ⟨k1.mono (by simp), k2, by show (opnB (St.new n) now).t.recs.length ≤ 1; simpa using k3, by have : (St.new n).outs.length = 0 := rfl; unfold newB; omega, ?_⟩
  show startL (St.new n) ++ moreE (startL (St.new n)) now = _
  rw [hm, start_new]
  rfl

set_option maxHeartbeats 1000000 in
theorem fresh_ok11 (w : World) (tag : Nat → Nat) (base o : Nat) (ho : 1 ≤ o) (hbase : base ≤ w.heap.size) (n : Nat) (N : Int) (hN : N = n) (h1 : 1 ≤ n) (h2 : n ≤ 4096) (now : Int) (hg : goodT now = true) :
    Calls Tryz.prog 22 #[.int .i64 N, .int .i64 now] w fun e w' => ∃ D B tag', e = .returned (.tuple #[.pointer (some ⟨D, 0, none⟩), .pointer (some ⟨B, 0, none⟩)]) ∧ BK w' tag' base o D B (newB n now) ∧ (∀ k, k < w.heap.size → tag' k = tag k) ∧ Below base w w' := by
  subst hN
  have HN := new_ok w tag base o n hbase h1 h2
  have HE : Hid (opnE (St.new n) now = 0) := new_opn n h1 now hg
  go_enter Tryz.func22, Tryz.ntmps22
  go_wp2_with fail
  refine HN.mono ?_
  rintro e w1 ⟨p, tag1, rfl, hP, hT, hB⟩
  have HO := bopen_ok w1 tag1 base o ho (St.new n) p hP (Nat.le_trans hbase hB.size) now hg (by simp [St.new]) (by simp [St.new]) (by simp [St.new]) (by rw [start_new]; simp)
  rw [HE.out] at HO
  have HT : Hid (∀ k, k < w.heap.size → tag1 k = tag k) := hT
  have HB : Hid (Below w.heap.size w w1) := hB
  clear hP hT hB HN
  go_wp2_with fail
  refine HO.mono ?_
  rintro e w2 ⟨tag2, hS, B, hBK, rfl⟩
  rw [opn_wr _ _ HE.out] at hBK
  have HS : Hid (StepR tag1 tag2 base o (o + 2) w1 w2) := hS
  have HK : Hid (BK w2 tag2 base o p.D B (newB n now)) := hBK
  clear hS hBK HO
  have hv : bookV 0 B = .pointer (some ⟨B, 0, none⟩) := rfl
  rw [hv]
  go_wp2
  go_ret2
  exact ⟨p.D, B, tag2, rfl, HK.out, fun k hk => (HS.out.tags k (Nat.lt_of_lt_of_le hk HB.out.size)).trans (HT.out k hk), (HB.out.mono hbase).trans HS.out.below⟩

/-- awake's book, step by step. -/
def aw0 : Bm := newB 4 5
def aw1 : Bm := aw0.put ⟨2, 6, 7, 9, 0⟩
def aw2 : Bm := aw1.put ⟨3, 9, 0, 9, 0⟩

theorem aw_e1 : aw0.putE ⟨2, 6, 7, 9, 0⟩ = 0 := by kernel_rfl
theorem aw_e2 : aw1.putE ⟨3, 9, 0, 9, 0⟩ = 0 := by kernel_rfl
theorem aw_L : aw2.L = [⟨1, 5, 0, 0, 0⟩, ⟨2, 6, 7, 9, 0⟩, ⟨3, 9, 0, 9, 0⟩] := by kernel_rfl
theorem aw_S : spans [⟨1, 5, 0, 0, 0⟩, ⟨2, 6, 7, 9, 0⟩, ⟨3, 9, 0, 9, 0⟩] = [⟨7, 9, 0, 6, 9, false⟩] := by rfl

theorem en_ok (k t s a b : Int) (h1 : -9223372036854775808 ≤ k ∧ k ≤ 9223372036854775807) (h2 : -9223372036854775808 ≤ t ∧ t ≤ 9223372036854775807) (h3 : 0 ≤ s ∧ s < 4294967296) (h4 : 0 ≤ a ∧ a < 4294967296) (h5 : -9223372036854775808 ≤ b ∧ b ≤ 9223372036854775807) : En.Ok ⟨k, t, s, a, b⟩ :=
  ⟨h1.1, h1.2, h2.1, h2.2, h3.1, h3.2, h4.1, h4.2, h5.1, h5.2⟩

set_option maxHeartbeats 4000000 in
theorem awake11_ok (w : World) : Calls Tryz.prog 5 #[] w fun e w' => e = .returned (.bool true) ∧ Below w.heap.size w w' := by
  have HF := fresh_ok11 w (fun _ => 0) w.heap.size 1 (by omega) (Nat.le_refl _) 4 4 rfl (by omega) (by omega) 5 rfl
  obtain ⟨n1, n2, n3, n4, n5⟩ := newB_ok 4 (by omega) (by omega) 5 rfl
  have hok1 : En.Ok ⟨2, 6, 7, 9, 0⟩ := en_ok 2 6 7 9 0 (by omega) (by omega) (by omega) (by omega) (by omega)
  have hok2 : En.Ok ⟨3, 9, 0, 9, 0⟩ := en_ok 3 9 0 9 0 (by omega) (by omega) (by omega) (by omega) (by omega)
  obtain ⟨o1, g1⟩ := n1.put hok1
  obtain ⟨o2, g2⟩ := o1.put hok2
  have l1 : aw0.L.length = 1 := by unfold aw0; rw [n5]; rfl
  have HB := fun w' tag' D B h hb => bgrant_ok w' tag' w.heap.size 1 D B (by omega) aw0 h hb 6 7 9 0 hok1 2 n1 (by omega) (by show (newB 4 5).s.outs.length ≤ _; omega) (by show (newB 4 5).t.recs.length ≤ _; omega) (by omega)
  have HR := fun w' tag' D B h hb => brelease_ok w' tag' w.heap.size 1 D B (by omega) aw1 h hb 9 9 0 hok2 6 o1 (by omega) (by have := g1.outs; show aw1.s.outs.length ≤ _; have h0 : (newB 4 5).s.outs.length = 0 := n4; exact Nat.le_trans this (by omega)) (by have := g1.recs; exact Nat.le_trans this (by omega)) (by have := g1.L; exact Nat.le_trans this (by show aw0.L.length + 2 ≤ _; omega))
  have HSp := fun w' tag' D B h => bspans_ok w' tag' w.heap.size 1 D B aw2 h o2.fL (by rw [aw_L]; decide)
  have HEn := fun w' tag' D B h => bentries_ok w' tag' w.heap.size 1 D B aw2 h (by rw [aw_L]; decide)
  rw [aw_e1] at HB
  rw [aw_e2] at HR
  rw [aw_L, aw_S] at HSp
  rw [aw_L] at HEn
  clear n1 n2 n3 n4 n5 o1 g1 o2 g2 hok1 hok2
  have HB : Hid (∀ w' tag' D B, _) := HB
  have HR : Hid (∀ w' tag' D B, _) := HR
  have HSp : Hid (∀ w' tag' D B, _) := HSp
  have HEn : Hid (∀ w' tag' D B, _) := HEn
  go_enter Tryz.func5, Tryz.ntmps5
  go_wp2_with fail
  refine HF.mono ?_
  rintro e w1 ⟨D, B, tag1, rfl, hK1, _, hB1⟩
  have h1 := HB.out w1 tag1 D B hK1 hB1.size
  clear hK1 HF
  go_wp2_with fail
  refine h1.mono ?_
  rintro e w2 ⟨rfl, tag2, hS2, hK2⟩
  have hB2 := hB1.trans hS2.below
  have h2 := HR.out w2 tag2 D B hK2 hB2.size
  clear hK2 hS2 h1
  go_wp2_with fail
  refine h2.mono ?_
  rintro e w3 ⟨rfl, tag3, hS3, hK3⟩
  have hB3 := hB2.trans hS3.below
  have h3 := HSp.out w3 tag3 D B hK3
  have HK3 : Hid (BK w3 tag3 w.heap.size 1 D B aw2) := hK3
  clear hK3 hS3 h2
  go_wp2_with fail
  refine h3.mono ?_
  rintro e w4 ⟨v4, rfl, hR4, hB4⟩
  obtain ⟨ga, gc, rfl, _, hgc2⟩ := ownsRow_slice hR4 (by decide)
  have hs0 := spRow_at hR4 rfl (i := 0) rfl
  obtain ⟨q0, q1, q2, q3, q4, q5⟩ := hs0
  have hB04 := hB3.trans (hB4.mono hB3.size)
  have h4 := HEn.out w4 tag3 D B (by obtain ⟨p', q', kv, dv, k0, k1, k2, k3⟩ := HK3.out; exact ⟨p', q', kv, dv, k0, k1.later hB4, k2.later hB4, k3.later hB4⟩)
  have hl1 : ([⟨7, 9, 0, 6, 9, false⟩] : List Sp).length = 1 := rfl
  rw [hl1] at *
  simp only at q0 q3 q4
  clear hR4 h3 q1 q2 q5
  go_wp2_with fail
  refine h4.mono ?_
  rintro e w5 ⟨v5, rfl, hW5, hB5, _⟩
  have hB05 := hB04.trans (hB5.mono hB04.size)
  have hl3 : ([⟨1, 5, 0, 0, 0⟩, ⟨2, 6, 7, 9, 0⟩, ⟨3, 9, 0, 9, 0⟩] : List En).length = 3 := rfl
  rw [hl3] at hW5
  obtain ⟨a5, c5, rfl, _⟩ := win_form hW5
  clear hW5 h4 hl3
  go_wp2
  go_ret
  exact ⟨rfl, hB05⟩

end Go.Proofs.YtafkkehcacdodaaGreat

namespace Go.Proofs.YtafkkehcacdodaaGreat
open Go.RowKit

/-- What was tried, behind entries that were laid. -/
def layG : St → Sd → List En → List Tr → List Tr
  | _, _, [], G => G
  | s, t, e :: r, G => if appE s t (bytesE e) ≠ 0 then appG s t (bytesE e) G else layG (appS s t (bytesE e)) (appT s t (bytesE e)) r (appG s t (bytesE e) G)

def wrtG (s : St) (t : Sd) (l : List En) (G : List Tr) : List Tr := if layE s t l ≠ 0 then layG s t l G else synG (layS s t l) (layG s t l G)

theorem appG_shape (s : St) (t : Sd) (b : List Int) (G : List Tr) : (appE s t b = 0 ∧ ∃ k, appG s t b G = G ++ [⟨k, b, true, false⟩]) ∨ (appE s t b ≠ 0 ∧ appE s t b ≠ 6 ∧ (appG s t b G = G ∨ ∃ k, appG s t b G = G ++ [⟨k, b, false, false⟩])) ∨ (appE s t b = 6 ∧ appG s t b G = G) := by
  unfold appE appG
  by_cases hE : frameE b = 0
  · have hE' : ¬ frameE b ≠ 0 := fun e => e hE
    rw [if_neg hE', if_neg hE']
    by_cases hn : s.n ≤ (t.fit b).pos
    · rw [if_pos hn, if_pos hn]; exact .inr (.inr ⟨rfl, rfl⟩)
    · rw [if_neg hn, if_neg hn]
      rcases err_cases s.out with e | e
      · rw [e]; exact .inl ⟨rfl, _, rfl⟩
      · rw [e]; exact .inr (.inl ⟨by decide, by decide, .inr ⟨_, rfl⟩⟩)
  · rw [if_pos hE, if_pos hE]
    refine .inr (.inl ⟨hE, ?_, .inl rfl⟩)
    unfold frameE
    split
    · decide
    · split <;> decide

theorem layG_shape : ∀ (l : List En) (s : St) (t : Sd) (G : List Tr), ∃ R, layG s t l G = G ++ R ∧ R.length ≤ l.length ∧ R.map Tr.b = (l.take R.length).map bytesE ∧ (∀ x ∈ R, x.su = false) ∧ (layE s t l = 0 → R.length = l.length ∧ ∀ x ∈ R, x.fi = true) ∧ (layE s t l = 6 → l.length = 1 → R = []) := by
  intro l
  induction l with
  | nil => intro s t G; exact ⟨[], by simp [layG], Nat.le_refl _, rfl, (fun x hx => by cases hx), fun _ => ⟨rfl, fun x hx => by cases hx⟩, fun _ _ => rfl⟩
  | cons e r ih =>
    intro s t G
    unfold layG layE
    rcases appG_shape s t (bytesE e) G with ⟨h0, k, h1⟩ | ⟨h0, h6, h1⟩ | ⟨h0, h1⟩
    · rw [if_neg (by simpa using h0), if_neg (by simpa using h0), h1]
      obtain ⟨R, e1, e2, e3, e4, e5, e6⟩ := ih (appS s t (bytesE e)) (appT s t (bytesE e)) (G ++ [⟨k, bytesE e, true, false⟩])
      refine ⟨⟨k, bytesE e, true, false⟩ :: R, by rw [e1]; simp, by simp; exact e2, by simp [e3], ?_, fun hz => ?_, fun hz hl => ?_⟩
      · intro x hx
        rcases List.mem_cons.1 hx with rfl | hx
        · rfl
        · exact e4 x hx
      · obtain ⟨f1, f2⟩ := e5 hz
        refine ⟨by simp [f1], fun x hx => ?_⟩
        rcases List.mem_cons.1 hx with rfl | hx
        · rfl
        · exact f2 x hx
      · have hr : r = [] := List.eq_nil_of_length_eq_zero (by simpa using hl)
        subst hr
        simp [layE] at hz
    · rw [if_pos h0, if_pos h0]
      rcases h1 with h1 | ⟨k, h1⟩
      · exact ⟨[], by rw [h1]; simp, Nat.zero_le _, rfl, (fun x hx => by cases hx), fun hz => absurd hz h0, fun _ _ => rfl⟩
      · exact ⟨[⟨k, bytesE e, false, false⟩], h1, by simp, by simp, (fun x hx => by rw [List.mem_singleton.1 hx]), fun hz => absurd hz h0, fun hz => absurd hz h6⟩
    · rw [if_pos (by rw [h0]; decide), if_pos (by rw [h0]; decide), h1, h0]
      exact ⟨[], by simp, Nat.zero_le _, rfl, (fun x hx => by cases hx), fun hz => by simp at hz, fun _ _ => rfl⟩

/-- A write: the records that are tried; where it is OK they are certain, and all that was written ahead. -/
theorem wrtG_shape (l : List En) (s : St) (t : Sd) (G : List Tr) : ∃ R, R.length ≤ l.length ∧ R.map Tr.b = (l.take R.length).map bytesE ∧ (∀ x ∈ R, x.su = false) ∧
    ((wrtE s t l = 0 ∧ R.length = l.length ∧ (∀ x ∈ R, x.fi = true) ∧ wrtG s t l G = (G ++ R).map Tr.sured) ∨ (wrtE s t l ≠ 0 ∧ wrtG s t l G = G ++ R ∧ (wrtE s t l = 6 → l.length = 1 → R = []))) := by
  obtain ⟨R, e1, e2, e3, e4, e5, e6⟩ := layG_shape l s t G
  refine ⟨R, e2, e3, e4, ?_⟩
  unfold wrtE wrtG
  by_cases hz : layE s t l = 0
  · obtain ⟨f1, f2⟩ := e5 hz
    rw [if_neg (by simpa using hz), if_neg (by simpa using hz), e1]
    unfold synG
    rcases err_cases (layS s t l).out with h | h
    · rw [if_pos h]; exact .inl ⟨h, f1, f2, rfl⟩
    · rw [if_neg (by rw [h]; decide), h]
      exact .inr ⟨by decide, rfl, fun h6 => by simp at h6⟩
  · rw [if_pos hz, if_pos hz]
    exact .inr ⟨hz, e1, e6⟩

theorem SvF.lay {F : Nat} : ∀ (l : List En) {s : St} {t : Sd} {G : List Tr}, SvF F s t G → s.Ok → t.Ok s.n → SvF F (layS s t l) (layT s t l) (layG s t l G) ∧ (layS s t l).Ok ∧ (layT s t l).Ok (layS s t l).n := by
  intro l
  induction l with
  | nil => intro s t G h ho ht; exact ⟨h, ho, ht⟩
  | cons e r ih =>
    intro s t G h ho ht
    have h1 := h.app ho ht (bytesE e) (bytesE_bytes e)
    obtain ⟨h2, h3⟩ := appS_ok ho ht (bytesE e) (bytesE_bytes e)
    have h4 : (appT s t (bytesE e)).Ok (appS s t (bytesE e)).n := by rw [h3]; exact (appT_ok (s := s) ht _ (bytesE_bytes e)).1
    unfold layS layT layG
    by_cases he : appE s t (bytesE e) ≠ 0
    · rw [if_pos he, if_pos he, if_pos he]; exact ⟨h1, h2, h4⟩
    · rw [if_neg he, if_neg he, if_neg he]; exact ih h1 h2 h4

theorem SvF.wrt {F : Nat} (l : List En) {s : St} {t : Sd} {G : List Tr} (h : SvF F s t G) (ho : s.Ok) (ht : t.Ok s.n) : SvF F (wrtS s t l) (wrtT s t l) (wrtG s t l G) := by
  obtain ⟨h1, h2, h3⟩ := h.lay l ho ht
  unfold wrtS wrtT wrtG
  by_cases he : layE s t l ≠ 0
  · rw [if_pos he, if_pos he, if_pos he]; exact h1
  · rw [if_neg he, if_neg he, if_neg he]; exact h1.sync

theorem Old.lay {F : Nat} {N0 : List Int} : ∀ (l : List En) {s : St} {t : Sd}, Old F N0 s → s.Ok → t.Ok s.n → F ≤ t.pos → Old F N0 (layS s t l) ∧ F ≤ (layT s t l).pos := by
  intro l
  induction l with
  | nil => intro s t h _ _ hF; exact ⟨h, hF⟩
  | cons e r ih =>
    intro s t h ho ht hF
    have h1 := h.app ho ht hF (bytesE e)
    obtain ⟨h2, h3⟩ := appS_ok ho ht (bytesE e) (bytesE_bytes e)
    have h4 : (appT s t (bytesE e)).Ok (appS s t (bytesE e)).n := by rw [h3]; exact (appT_ok (s := s) ht _ (bytesE_bytes e)).1
    have h5 : F ≤ (appT s t (bytesE e)).pos := by
      have hfit : F ≤ (t.fit (bytesE e)).pos := by
        unfold Sd.fit
        split
        · simp [Sd.leave]; omega
        · exact hF
      unfold appT
      split
      · exact hF
      · split
        · exact hfit
        · split
          · exact hfit
          · simp [Sd.leave]; omega
    unfold layS layT
    by_cases he : appE s t (bytesE e) ≠ 0
    · rw [if_pos he, if_pos he]; exact ⟨h1, h5⟩
    · rw [if_neg he, if_neg he]; exact ih h1 h2 h4 h5

theorem Old.wrt {F : Nat} {N0 : List Int} (l : List En) {s : St} {t : Sd} (h : Old F N0 s) (ho : s.Ok) (ht : t.Ok s.n) (hF : F ≤ t.pos) : Old F N0 (wrtS s t l) := by
  unfold wrtS
  split
  · exact (Old.lay l h ho ht hF).1
  · exact (Old.lay l h ho ht hF).1.sync

/-! ### A book's calls -/
def Bm.payG (b : Bm) (G : List Tr) : List Tr := if b.D = [] then G else wrtG b.s b.t b.D G
def Bm.putG (b : Bm) (e : En) (G : List Tr) : List Tr := if checkE e ≠ 0 then G else if b.payE ≠ 0 then b.payG G else wrtG b.pay.s b.pay.t [e] (b.payG G)

theorem SvF.pay {F : Nat} {b : Bm} {q : Nat} (hb : b.Ok q) {G : List Tr} (h : SvF F b.s b.t G) : SvF F b.pay.s b.pay.t (b.payG G) := by
  unfold Bm.pay Bm.payG
  split
  · exact h
  · exact h.wrt b.D hb.nb.ok hb.nb.tk

theorem SvF.bput {F : Nat} {b : Bm} {q : Nat} (hb : b.Ok q) {G : List Tr} (h : SvF F b.s b.t G) (e : En) : SvF F (b.put e).s (b.put e).t (b.putG e G) := by
  unfold Bm.put Bm.putG
  split
  · exact h
  · split
    · exact h.pay hb
    · exact (h.pay hb).wrt [e] hb.pay.1.nb.ok hb.pay.1.nb.tk

theorem new_sv (n : Nat) (h1 : 1 ≤ n) (h2 : n ≤ 4096) (now : Int) : SvF 0 (newB n now).s (newB n now).t (wrtG (St.new n) ⟨0, 0, []⟩ [bootE now] []) ∧ Old 0 (St.new n).now (newB n now).s := by
  obtain ⟨k1, k2⟩ := SvF.start (s := St.new n) (St.ok_new h1 h2) rfl rfl
  have ht := (openT_ok (St.ok_new h1 h2)).1
  have hm : moreE (startL (St.new n)) now = [bootE now] := by rw [start_new]; rfl
  have hs : (newB n now).s = wrtS (St.new n) (openT (St.new n)) [bootE now] := by
    show opnS (St.new n) now = _
    unfold opnS
    rw [hm]
  have htt : (newB n now).t = wrtT (St.new n) (openT (St.new n)) [bootE now] := by
    show wrtT _ _ _ = _
    rw [hm]
  rw [hs, htt]
  rw [openT_new] at k1 k2 ht ⊢
  exact ⟨k1.wrt [bootE now] (St.ok_new h1 h2) ht, k2.wrt [bootE now] (St.ok_new h1 h2) ht (Nat.le_refl _)⟩

/-! ### What is certain -/
def Sures (G : List Tr) : List (List Int) := (G.filter Tr.su).map Tr.b
def SuFi (G : List Tr) : Prop := ∀ x ∈ G, x.su = true → x.fi = true

theorem sures_app (G R : List Tr) (h : ∀ x ∈ R, x.su = false) : Sures (G ++ R) = Sures G := by
  unfold Sures
  rw [List.filter_append]
  have : R.filter Tr.su = [] := by
    rw [List.filter_eq_nil_iff]
    intro x hx
    rw [h x hx]; decide
  rw [this, List.append_nil]

theorem sures_sured (G : List Tr) : Sures (G.map Tr.sured) = (G.filter Tr.fi).map Tr.b := by
  induction G with
  | nil => rfl
  | cons x G ih =>
    unfold Sures at ih ⊢
    rw [List.map_cons]
    by_cases h : x.fi = true
    · rw [List.filter_cons_of_pos (by exact h), List.filter_cons_of_pos h, List.map_cons, List.map_cons, ih]; rfl
    · rw [List.filter_cons_of_neg (by exact h), List.filter_cons_of_neg h, ih]

theorem sures_fi (G : List Tr) (h : SuFi G) : (Sures G).Sublist ((G.filter Tr.fi).map Tr.b) := by
  unfold Sures
  refine List.Sublist.map _ ?_
  induction G with
  | nil => exact .slnil
  | cons x G ih =>
    have hG := ih (fun y hy => h y (by simp [hy]))
    by_cases h1 : x.su = true
    · rw [List.filter_cons_of_pos h1, List.filter_cons_of_pos (h x (by simp) h1)]; exact hG.cons_cons x
    · rw [List.filter_cons_of_neg h1]
      by_cases h2 : x.fi = true
      · rw [List.filter_cons_of_pos h2]; exact hG.cons x
      · rw [List.filter_cons_of_neg h2]; exact hG

theorem suFi_app {G R : List Tr} (h : SuFi G) (k : ∀ x ∈ R, x.su = false) : SuFi (G ++ R) := by
  intro x hx hs
  rcases List.mem_append.1 hx with hx | hx
  · exact h x hx hs
  · rw [k x hx] at hs; cases hs

theorem suFi_sured (G : List Tr) : SuFi (G.map Tr.sured) := by
  intro x hx hs
  obtain ⟨y, _, rfl⟩ := List.mem_map.1 hx
  exact hs

/-- How what was tried has grown: nothing certain is lost. -/
structure GrewG (G G' : List Tr) (n : Nat) : Prop where
  sf : SuFi G'
  su : (Sures G).Sublist (Sures G')
  len : G'.length ≤ G.length + n

theorem GrewG.refl {G : List Tr} (h : SuFi G) (n : Nat) : GrewG G G n := ⟨h, List.Sublist.refl _, by omega⟩
theorem GrewG.trans {G H K : List Tr} {n m : Nat} (h : GrewG G H n) (k : GrewG H K m) : GrewG G K (n + m) := ⟨k.sf, h.su.trans k.su, by have := h.len; have := k.len; omega⟩
theorem GrewG.more {G H : List Tr} {n m : Nat} (h : GrewG G H n) (k : n ≤ m) : GrewG G H m := ⟨h.sf, h.su, by have := h.len; omega⟩

theorem wrtG_grew (l : List En) (s : St) (t : Sd) {G : List Tr} (h : SuFi G) : GrewG G (wrtG s t l G) l.length ∧ (wrtE s t l = 0 → (Sures G ++ l.map bytesE).Sublist (Sures (wrtG s t l G))) := by
  obtain ⟨R, r1, r2, r3, r4⟩ := wrtG_shape l s t G
  rcases r4 with ⟨e0, e1, e2, e3⟩ | ⟨e0, e1, _⟩
  · rw [e3]
    have hR : (R.filter Tr.fi).map Tr.b = l.map bytesE := by
      have : R.filter Tr.fi = R := by rw [List.filter_eq_self]; exact e2
      rw [this, r2, e1, List.take_length]
    have hs : Sures ((G ++ R).map Tr.sured) = (G.filter Tr.fi).map Tr.b ++ l.map bytesE := by
      rw [sures_sured, List.filter_append, List.map_append, hR]
    have hsub := (sures_fi G h).append (List.Sublist.refl (l.map bytesE))
    refine ⟨⟨suFi_sured _, ?_, by simp; omega⟩, fun _ => by rw [hs]; exact hsub⟩
    rw [hs]
    exact (List.sublist_append_left _ _).trans hsub
  · rw [e1]
    exact ⟨⟨suFi_app h r3, by rw [sures_app _ _ r3]; exact List.Sublist.refl _, by simp; omega⟩, fun hz => absurd hz e0⟩

theorem payG_grew {b : Bm} {q : Nat} (hb : b.Ok q) {G : List Tr} (h : SuFi G) : GrewG G (b.payG G) 1 := by
  unfold Bm.payG
  split
  · exact .refl h 1
  · exact (wrtG_grew b.D b.s b.t h).1.more hb.d1

theorem putG_grew {b : Bm} {q : Nat} (hb : b.Ok q) {G : List Tr} (h : SuFi G) (e : En) : GrewG G (b.putG e G) 2 ∧ (b.putE e = 0 → (Sures G ++ [bytesE e]).Sublist (Sures (b.putG e G))) := by
  unfold Bm.putG Bm.putE
  by_cases hc : checkE e = 0
  · have hc' : ¬ checkE e ≠ 0 := by simpa using hc
    rw [if_neg hc', if_neg hc']
    have h1 := payG_grew hb h
    by_cases hp : b.payE = 0
    · have hp' : ¬ b.payE ≠ 0 := by simpa using hp
      rw [if_neg hp', if_neg hp']
      obtain ⟨h2, h3⟩ := wrtG_grew [e] b.pay.s b.pay.t h1.sf
      exact ⟨h1.trans h2, fun hz => (h1.su.append (List.Sublist.refl _)).trans (h3 hz)⟩
    · rw [if_pos hp, if_pos hp]
      exact ⟨h1.more (by omega), fun hz => absurd hz hp⟩
  · rw [if_pos hc, if_pos hc]
    exact ⟨.refl h 2, fun hz => absurd hz hc⟩

/-- What is certain is found. -/
theorem btw_sures {h : List (List Int)} {G : List Tr} (hb : Btw h G) : (Sures G).Sublist h := by
  induction hb with
  | nil => exact .slnil
  | skip x hx _ ih =>
    unfold Sures at ih ⊢
    rw [List.filter_cons_of_neg (by rw [hx]; decide)]; exact ih
  | take x _ ih =>
    unfold Sures at ih ⊢
    by_cases hx : x.su = true
    · rw [List.filter_cons_of_pos hx, List.map_cons]; exact ih.cons_cons _
    · rw [List.filter_cons_of_neg hx]; exact ih.cons _

theorem found_bytes {l : List En} (h : Fine l) : foundE (l.map bytesE) = l := by
  unfold foundE
  induction l with
  | nil => rfl
  | cons e l ih =>
    obtain ⟨hm, ho⟩ := h e (by simp)
    obtain ⟨k1, k2⟩ := entE_bytesE hm ho
    rw [List.map_cons, List.filter_cons_of_pos (by simpa using k1), List.map_cons, k2, ih (fun x hx => h x (by simp [hx]))]

theorem found_sub {l m : List (List Int)} (h : l.Sublist m) : (foundE l).Sublist (foundE m) := (h.filter _).map _

end Go.Proofs.YtafkkehcacdodaaGreat

namespace Go.Proofs.YtafkkehcacdodaaGreat
open Go.ChangeShapes Go.WideShapes Go.ChangeAt Go.RowKit Go.Shelf

/-- Outcomes, with a book on the disk. -/
theorem boutcomes_ok (w : World) (tag : Nat → Nat) (base o D B : Nat) (b : Bm) (h : BK w tag base o D B b) (hbase : base ≤ w.heap.size) (v : Value) (l : List Int) (hv : Bts w v l) (hout : b.s.outs.length + l.length ≤ 1000000) :
    Calls Tryz.prog 11 #[.pointer (some ⟨D, 0, none⟩), v] w fun e w' => e = .returned (.tuple #[]) ∧ ∃ tag', StepR tag tag' base o o w w' ∧ BK w' tag' base o D B ⟨b.s.add l, b.t, b.L, b.D⟩ := by
  obtain ⟨p, q, kv, dv, h0, h1, h2, h3⟩ := h
  refine (outcomes_okD w tag base o b.s p h1 hbase v l hv hout D h0).mono ?_
  rintro e w' ⟨rfl, p', tag', k0, k1, k2⟩
  have hS := k2.range (Nat.le_refl o) (Nat.le_refl o)
  exact ⟨rfl, tag', hS, p', q, kv, dv, k0, k1, h2.otherR hS (by omega), h3.otherR hS (by omega)⟩

/-- Are two entries one? -/
def sameE (a b : En) : Bool := a.kind == b.kind && (a.time == b.time && (a.sub == b.sub && (a.addr == b.addr && a.block == b.block)))

theorem sameE_iff (a b : En) : sameE a b = true ↔ a = b := by
  obtain ⟨a0, a1, a2, a3, a4⟩ := a
  obtain ⟨b0, b1, b2, b3, b4⟩ := b
  simp [sameE]

theorem eqE5 (a b : En) (w : World) : (binOp .eql 73 (enV a) (enV b)).run Tryz.prog w = .ok (.bool (sameE a b)) w := by
  have hS : Tryz.prog.underlying 73 = some (.struct (Tryz.prog.fieldsOf 73)) := by kernel_rfl
  have hp : Tryz.prog.stoodInHeld 73 = false := by kernel_rfl
  have u3 := Tryz.underlying3
  have a3 := Tryz.isAgg3
  have z3 := Tryz.sizeOf3
  have u2 := Tryz.underlying2
  have a2 := Tryz.isAgg2
  have z2 := Tryz.sizeOf2
  have uU := Tryz.underlying38
  have aU := Tryz.isAgg38
  have zU := Tryz.sizeOf38
  rw [run_eql_struct, show (10000 : Nat) = 9999 + 1 from rfl, run_equalIn_agg w 9999 73 _ _ hS hp]
  simp only [Program.fieldsOf, Tryz.underlying73]
  go_simp
  unfold sameE
  by_cases h0 : a.kind = b.kind
  · by_cases h1 : a.time = b.time
    · by_cases h2 : a.sub = b.sub
      · by_cases h3 : a.addr = b.addr
        · by_cases h4 : a.block = b.block
          · simp [h0, h1, h2, h3, h4]
          · simp [h0, h1, h2, h3, h4]
        · simp [h0, h1, h2, h3]
      · simp [h0, h1, h2]
    · simp [h0, h1]
  · simp [h0]

theorem guardE5 (op : BinOp) (x y : Operand) (xs ys : Array Value) (w : World) : (eqGuard op 73 x y (.agg xs) (.agg ys)).run Tryz.prog w = .ok () w :=
  run_eqGuard_agg w op 73 x y xs ys (by kernel_rfl)

/-- A deed in numbers, with its slice. -/
structure Dd : Type where
  dO : Int
  tm : Int
  sub : Int
  addr : Int
  blk : Int
  vb : Value
  b : List Int

def ddC (d : Dd) : List Value := [.int .i64 d.dO, .int .i64 d.tm, .int .u32 d.sub, .int .u32 d.addr, .int .i64 d.blk, d.vb]

structure Dd.Ok (w : World) (d : Dd) : Prop where
  bt : Bts w d.vb d.b
  o1 : -9223372036854775808 ≤ d.dO ∧ d.dO < 9223372036854775808
  t1 : -9223372036854775808 ≤ d.tm ∧ d.tm < 9223372036854775808
  s1 : 0 ≤ d.sub ∧ d.sub < 4294967296
  a1 : 0 ≤ d.addr ∧ d.addr < 4294967296
  b1 : -9223372036854775808 ≤ d.blk ∧ d.blk < 9223372036854775808

/-- A slice of deeds. -/
def Dds (w : World) (v : Value) (B O : Nat) (l : List Dd) : Prop :=
  ∃ (a : Option Addr) (cap : Nat), v = .slice a l.length cap ∧ l.length ≤ cap ∧ cap ≤ maxLen ∧ (a = some ⟨B, O, none⟩ ∨ l = []) ∧ ∀ i (h : i < l.length), l[i].Ok w ∧ w.rangeAt B (O + i * 6) (ddC l[i])

def IsDds (w : World) (v : Value) : Prop := ∃ B O l, Dds w v B O l

theorem bts_read11 {H : Type} {enc : TypeId × Value → H} {P : Program} {w : World} {base : Nat} {held : Bool} {t e : TypeId} {fuel : Nat} {v : Value} {x : DataW H × List MemPlace}
    (ht : P.underlying t = some (.slice e)) (he : P.underlying e = some (.int .u8)) (hc : P.cellsOf e = 1)
    (h : DataW.trod enc P w base (fun _ => true) held fuel t [v] = some x) : ∃ l, Bts w v l := by
  rcases open_ints ht he hc h with ⟨hcs, _⟩ | ⟨a, len, cap, zs, hcs, _, hl, hm, hz, hx, hcell, hwz⟩
  · simp only [List.cons.injEq, and_true] at hcs
    subst hcs
    exact ⟨[], bts_nil w⟩
  · simp only [List.cons.injEq, and_true] at hcs
    subst hcs
    simp only [if_true] at hz
    have hlen : (zs.take len).length = len := by simp; omega
    refine ⟨zs.take len, ⟨some a, cap, a.block, a.off, by rw [hlen], by omega, hm, ?_, ?_, ?_⟩⟩
    · intro z hz'; exact byte_of_wf (hwz z (List.mem_of_mem_take hz'))
    · by_cases h0 : len = 0
      · right; subst h0; simp
      · left
        obtain ⟨b, off, spot⟩ := a
        have hs : spot = none := by simpa [Addr.add] using World.cell?_spot (hcell 0 (by omega))
        subst hs; rfl
    · intro i hi
      rw [hlen] at hi
      obtain ⟨b, off, spot⟩ := a
      have hs : spot = none := by simpa [Addr.add] using World.cell?_spot (hcell 0 (by omega))
      subst hs
      have hc := hcell i (by omega)
      rw [add_at] at hc
      rw [getD_take _ _ _ hi]
      exact hc

theorem u32_wf11 {x : Int} (h : (Lit.int .u32 x).wf = true) : 0 ≤ x ∧ x < 4294967296 := by
  simp [Lit.wf, IntKind.min, IntKind.max, IntKind.signed, IntKind.bits] at h
  omega

theorem cells38b : Tryz.prog.cellsOf 3 = 1 := by kernel_rfl

theorem cells2b : Tryz.prog.cellsOf 2 = 1 := by kernel_rfl

theorem cellsU32 : Tryz.prog.cellsOf 38 = 1 := by kernel_rfl

theorem cellsBs : Tryz.prog.cellsOf 39 = 1 := by kernel_rfl

theorem cells5b : Tryz.prog.cellsOf 5 = 1 := by kernel_rfl

theorem cellsDd : Tryz.prog.cellsOf 41 = 6 := by kernel_rfl

theorem list6b {α : Type} {l : List α} (h : l.length = 6) : ∃ a b c d e f, l = [a, b, c, d, e, f] := by
  match l, h with
  | [a, b, c, d, e, f], _ => exact ⟨a, b, c, d, e, f, rfl⟩

section
variable {H : Type} {enc : TypeId × Value → H} {w : World} {base b0' : Nat} {held : Bool} {r : Reach} {v : Value} {d : DataW H} {ps : List MemPlace}

set_option maxRecDepth 100000 in
theorem dd_of {n : Nat} {cs : List Value} {x : DataW H × List MemPlace} (hf : DataW.trod enc Tryz.prog w base (fun _ => true) held n 41 cs = some x) : ∃ q : Dd, cs = ddC q ∧ q.Ok w := by
  obtain ⟨xs, m, _, hx, hl, hlen, hfield⟩ := DataW.trod_struct Tryz.underlying41 hf
  rw [cellsDd] at hl
  obtain ⟨c0, c1, c2, c3, c4, c5, rfl⟩ := list6b hl
  obtain ⟨y0, y1, y2, y3, y4, y5, rfl⟩ := list6b hlen
  have t0 : DataW.trod enc Tryz.prog w base (fun _ => true) held m 3 [c0] = some y0 := by
    have := hfield 0 _ rfl
    simpa [cells38b] using this
  have t1 : DataW.trod enc Tryz.prog w base (fun _ => true) held m 2 [c1] = some y1 := by
    have := hfield 1 _ rfl
    simpa [cells38b, cells2b] using this
  have t2 : DataW.trod enc Tryz.prog w base (fun _ => true) held m 38 [c2] = some y2 := by
    have := hfield 2 _ rfl
    simpa [cells38b, cells2b, cellsU32] using this
  have t3 : DataW.trod enc Tryz.prog w base (fun _ => true) held m 38 [c3] = some y3 := by
    have := hfield 3 _ rfl
    simpa [cells38b, cells2b, cellsU32] using this
  have t4 : DataW.trod enc Tryz.prog w base (fun _ => true) held m 3 [c4] = some y4 := by
    have := hfield 4 _ rfl
    simpa [cells38b, cells2b, cellsU32] using this
  have t5 : DataW.trod enc Tryz.prog w base (fun _ => true) held m 39 [c5] = some y5 := by
    have := hfield 5 _ rfl
    simpa [cells38b, cells2b, cellsU32, cellsBs] using this
  obtain ⟨z0, e0, _, w0⟩ := DataW.trod_int Tryz.underlying3 t0
  obtain ⟨z1, e1, _, w1⟩ := DataW.trod_int Tryz.underlying2 t1
  obtain ⟨z2, e2, _, w2⟩ := DataW.trod_int Tryz.underlying38 t2
  obtain ⟨z3, e3, _, w3⟩ := DataW.trod_int Tryz.underlying38 t3
  obtain ⟨z4, e4, _, w4⟩ := DataW.trod_int Tryz.underlying3 t4
  obtain ⟨l, hb⟩ := bts_read11 Tryz.underlying39 Tryz.underlying5 cells5b t5
  simp at e0 e1 e2 e3 e4
  subst e0 e1 e2 e3 e4
  exact ⟨⟨z0, z1, z2, z3, z4, c5, l⟩, rfl, hb, i64_of_wf w0, i64_of_wf w1, u32_wf11 w2, u32_wf11 w3, i64_of_wf w4⟩

theorem viewDd (hv : Value.okWide Tryz.prog w r b0' 22 v) (h : DataW.Trod enc Tryz.prog w base (fun _ => true) held 22 v d ps) (_ : ∀ n ∈ d.weights Tryz.prog 22, n ≤ reachBytes) : IsDds w v := by
  obtain ⟨a0, len0, cap0, rfl⟩ := okWide_slice Tryz.underlying22 hv
  obtain ⟨fuel, hf⟩ := h
  rcases Go.Deep.open_slice Tryz.underlying22 hf with ⟨hcs, _⟩ | ⟨a, len, cap, m, n, D, Pl, hcs, _, hl, hm, hmm, _, hrow⟩
  · simp [Value.cells] at hcs
    obtain ⟨rfl, rfl, rfl⟩ := hcs
    exact ⟨0, 0, [], none, 0, rfl, by simp, by decide, .inr rfl, fun i hi => by simp at hi⟩
  · simp [Value.cells] at hcs
    obtain ⟨rfl, rfl, rfl⟩ := hcs
    simp only [if_true] at hmm
    subst hmm
    rw [cellsDd] at hrow
    obtain ⟨b, off, spot⟩ := a
    have hq : ∀ i, i < len0 → ∃ q : Dd, q.Ok w ∧ ∀ j, j < 6 → w.cell? (((⟨b, off, spot⟩ : Addr).add (i * 6)).add j) = (ddC q)[j]? := by
      intro i hi
      obtain ⟨cs', h1, h2⟩ := hrow i (by omega)
      obtain ⟨q, rfl, hq⟩ := dd_of h2
      unfold World.cells? at h1
      split at h1
      case isFalse => cases h1
      exact ⟨q, hq, fun j hj => mapM_some_get h1 j j (by simp [hj])⟩
    have hspot : 0 < len0 → spot = none := fun h0 => by
      obtain ⟨q, _, hget⟩ := hq 0 h0
      have h0' := hget 0 (by omega)
      have h00 : (ddC q)[0]? = some (.int .i64 q.dO) := rfl
      rw [h00] at h0'
      simpa [Addr.add] using World.cell?_spot h0'
    haveI : Inhabited Dd := ⟨⟨0, 0, 0, 0, 0, .slice none 0 0, []⟩⟩
    obtain ⟨f, hf'⟩ := Go.Deep.choose_lt (α := Dd) (n := len0) (p := fun i q => q.Ok w ∧ ∀ j, j < 6 → w.cell? (((⟨b, off, spot⟩ : Addr).add (i * 6)).add j) = (ddC q)[j]?) hq
    refine ⟨b, off, (List.range len0).map f, _, _, by simp; rfl, by simpa using hl, hm, ?_, ?_⟩
    · by_cases h0 : len0 = 0
      · right; subst h0; simp
      · left; rw [hspot (by omega)]
    · intro i hi
      simp at hi
      obtain ⟨h1, h2⟩ := hf' i hi
      have hs := hspot (by omega)
      subst hs
      simp only [List.getElem_map, List.getElem_range]
      refine ⟨h1, fun j u hu => ?_⟩
      have hj : j < 6 := by
        have := (List.getElem?_eq_some_iff.1 hu).1
        simpa [ddC] using this
      have := h2 j hj
      rw [Go.Deep.add_add, add_at, ← Nat.add_assoc] at this
      rw [this]; exact hu
end

theorem Dd.Ok.later {w w' : World} {d : Dd} (h : d.Ok w) (hb : Below w.heap.size w w') : d.Ok w' := ⟨h.bt.later hb, h.o1, h.t1, h.s1, h.a1, h.b1⟩

theorem Dds.later {w w' : World} {v : Value} {B O : Nat} {l : List Dd} (h : Dds w v B O l) (hb : Below w.heap.size w w') : Dds w' v B O l := by
  obtain ⟨a, cap, h1, h2, h3, h4, hd⟩ := h
  exact ⟨a, cap, h1, h2, h3, h4, fun i hi => ⟨(hd i hi).1.later hb, fun j u hu => cell_later hb ((hd i hi).2 j u hu)⟩⟩

theorem Dds.cell {w : World} {v : Value} {B O : Nat} {l : List Dd} (h : Dds w v B O l) (i : Nat) (hi : i < l.length) :
    w.cell? ⟨B, O + i * 6, none⟩ = some (.int .i64 l[i].dO) ∧ w.cell? ⟨B, O + i * 6 + 1, none⟩ = some (.int .i64 l[i].tm) ∧ w.cell? ⟨B, O + i * 6 + 2, none⟩ = some (.int .u32 l[i].sub) ∧ w.cell? ⟨B, O + i * 6 + 3, none⟩ = some (.int .u32 l[i].addr) ∧ w.cell? ⟨B, O + i * 6 + 4, none⟩ = some (.int .i64 l[i].blk) ∧ w.cell? ⟨B, O + i * 6 + 5, none⟩ = some l[i].vb := by
  obtain ⟨a, cap, _, _, _, _, hd⟩ := h
  have := (hd i hi).2
  exact ⟨by have := this 0 _ rfl; rwa [Nat.add_zero] at this, this 1 _ rfl, this 2 _ rfl, this 3 _ rfl, this 4 _ rfl, this 5 _ rfl⟩

theorem Dds.ok {w : World} {v : Value} {B O : Nat} {l : List Dd} (h : Dds w v B O l) (i : Nat) (hi : i < l.length) : l[i].Ok w := by
  obtain ⟨a, cap, _, _, _, _, hd⟩ := h
  exact (hd i hi).1

def roomK (l : List Dd) : Bool := decide (l.length ≤ 150 ∧ ∀ d ∈ l, d.b.length ≤ 500)

theorem roomK_few {l : List Dd} (h : roomK l = true) : l.length ≤ 150 ∧ ∀ d ∈ l, d.b.length ≤ 500 := of_decide_eq_true h

set_option maxHeartbeats 1000000 in
theorem room11_ok (w : World) (v : Value) (B O : Nat) (l : List Dd) (h : Dds w v B O l) : Calls Tryz.prog 6 #[v] w fun e w' => e = .returned (.bool (roomK l)) ∧ w' = w := by
  have HD : Hid (Dds w v B O l) := h
  obtain ⟨a, cap, rfl, hl, hm, ha, _⟩ := h
  unfold maxLen at hm
  by_cases h300 : l.length ≤ 150
  · have h300I : ¬ (150 : Int) < (l.length : Int) := by omega
    go_enter Tryz.func6, Tryz.ntmps6
    go_wp2
    go_loopg [3] l.length (fun gk i wr => ∃ k : Nat, k + gk = l.length ∧ i = .int .i64 k ∧ (∀ d ∈ l.take k, d.b.length ≤ 500) ∧ w = wr)
    case atStart => exact ⟨0, by omega, rfl, by simp, rfl⟩
    case round =>
      obtain ⟨k, hk, rfl, hall, rfl⟩ := hrel
      by_cases hlt : k < l.length
      · have hltI : (k : Int) < (l.length : Int) := by omega
        rcases ha with rfl | hnil
        case inr => rw [hnil] at hlt; simp at hlt
        obtain ⟨_, _, _, _, _, c4⟩ := HD.out.cell k hlt
        obtain ⟨ba, bc, hvb, _, hbm, _⟩ := bts_src (HD.out.ok k hlt).bt
        rw [hvb] at c4
        unfold maxLen at hbm
        have HA : Hid (∀ d ∈ l.take k, d.b.length ≤ 500) := hall
        clear hall
        by_cases h1000 : l[k].b.length ≤ 500
        · have h1I : ¬ (500 : Int) < (l[k].b.length : Int) := by omega
          have HT : Hid (∀ d ∈ l.take (k + 1), d.b.length ≤ 500) := by
            intro d hd
            rw [List.take_succ_eq_append_getElem hlt, List.mem_append, List.mem_singleton] at hd
            rcases hd with hd | rfl
            · exact HA.out d hd
            · exact h1000
          clear hvb
          generalize l[k].b.length = q at *
          go_wp2
          go_roundg (l.length - (k + 1))
          case rel => exact ⟨k + 1, by omega, by go_num, HT.out, rfl⟩
          case measure => omega
        · have h1I : (500 : Int) < (l[k].b.length : Int) := by omega
          have HR : Hid (roomK l = false) := by
            show _ = _
            unfold roomK
            rw [decide_eq_false_iff_not]
            rintro ⟨_, h2⟩
            have := h2 l[k] (List.getElem_mem hlt)
            omega
          go_wp2
          go_ret
          exact ⟨ret_bool HR.out.symm, rfl⟩
      · have hke : k = l.length := by omega
        subst hke
        have hall' : ∀ d ∈ l, d.b.length ≤ 500 := by rwa [List.take_length] at hall
        have HR : Hid (roomK l = true) := by
          show _ = _
          unfold roomK
          exact decide_eq_true ⟨h300, hall'⟩
        clear hall
        go_wp2
        go_ret
        exact ⟨ret_bool HR.out.symm, rfl⟩
  · have h300I : (150 : Int) < (l.length : Int) := by omega
    have HR : Hid (roomK l = false) := by
      show _ = _
      unfold roomK
      rw [decide_eq_false_iff_not]
      rintro ⟨h1, _⟩
      omega
    go_enter Tryz.func6, Tryz.ntmps6
    go_wp2
    go_ret
    exact ⟨ret_bool HR.out.symm, rfl⟩

section
variable {H : Type} {enc : TypeId × Value → H} {w : World} {base b0' : Nat} {held : Bool} {r : Reach} {v : Value} {d : DataW H} {ps : List MemPlace}

set_option maxRecDepth 100000 in
theorem view2 (hv : Value.okWide Tryz.prog w r b0' 2 v) (h : DataW.Trod enc Tryz.prog w base (fun _ => true) held 2 v d ps) (_ : ∀ n ∈ d.weights Tryz.prog 2, n ≤ reachBytes) : IsI64 w v := by
  obtain ⟨x, rfl, rfl, rfl, wx⟩ := open_int Tryz.underlying2 hv h
  exact ⟨x, rfl, i64_of_wf wx⟩
end

end Go.Proofs.YtafkkehcacdodaaGreat

namespace Go.Proofs.YtafkkehcacdodaaGreat
open Go.RowKit Go.Shelf

theorem found_app (l m : List (List Int)) : foundE (l ++ m) = foundE l ++ foundE m := by
  unfold foundE
  rw [List.filter_append, List.map_append]

theorem bodK_len {s : St} (h : s.Ok) (k : Nat) (hk : k ≤ s.n) : (bodK s.now k).length ≤ k * 8 := by
  unfold bodK
  rw [List.length_map]
  exact (openK_ok s.now s.n h.nl h.nb k hk).2.2.2

/-- A row of entries behind the world w's own blocks. -/
def RowF (w wr : World) (r : Value) (L : List En) : Prop := Win wr 5 r L.length (L.flatMap eL5) ∧ ∀ g, r.ownBlock = some g → w.heap.size ≤ g

theorem RowF.later {w wr wr' : World} {r : Value} {L : List En} (h : RowF w wr r L) (hb : Below wr.heap.size wr wr') : RowF w wr' r L := ⟨h.1.later hb, h.2⟩

/-- One entry more behind a row that is seen. -/
theorem append_w (W : World) (v : Value) (L : List En) (e : En) (hv : Win W 5 v L.length (L.flatMap eL5)) (hlen : L.length ≤ 900000) :
    ∃ a c w', (Builtin.append_ #[63, 63] 63 #[v, .slice (some ⟨W.heap.size, 0, none⟩) 1 1]).run Tryz.prog (W.alloc (.cells #[.int .i64 e.kind, .int .i64 e.time, .int .u32 e.sub, .int .u32 e.addr, .int .i64 e.block] 73)) = .ok (.slice a (L.length + 1) c) w' ∧
      Win w' 5 (.slice a (L.length + 1) c) (L ++ [e]).length ((L ++ [e]).flatMap eL5) ∧ (∀ g, g < W.heap.size → v.ownBlock ≠ some g → w'.heap[g]? = W.heap[g]?) ∧ (∀ g, (Value.slice a (L.length + 1) c).ownBlock = some g → v.ownBlock = some g ∨ W.heap.size ≤ g) ∧
      (W.alloc (.cells #[.int .i64 e.kind, .int .i64 e.time, .int .u32 e.sub, .int .u32 e.addr, .int .i64 e.block] 73)).grownBy w' v.ownBlock := by
  obtain ⟨i0, hi, hz0, hz1, hz2⟩ := info_parts infoE5
  have hb := below_alloc W (.cells #[.int .i64 e.kind, .int .i64 e.time, .int .u32 e.sub, .int .u32 e.addr, .int .i64 e.block] 73)
  have h1 : ([e].flatMap eL5) = eL5 e := by rw [List.flatMap_cons, List.flatMap_nil, List.append_nil]
  obtain ⟨v', w', hr, hwin, hg, hat⟩ := win_append (P := Tryz.prog) (W.alloc (.cells #[.int .i64 e.kind, .int .i64 e.time, .int .u32 e.sub, .int .u32 e.addr, .int .i64 e.block] 73)) 63 63 73 i0 _ 5 32 Tryz.underlying63 hi hz0 hz1 hz2 rfl (by decide) v L.length _ (hv.later hb)
    (some ⟨W.heap.size, 0, none⟩) 1 1 (eL5 e) rfl (.inl ⟨_, rfl, fun j u hj => by rw [add_at, Nat.zero_add]; exact e5_news W e j u hj⟩) (by rw [← h1]; exact eL5_one [e]) (by unfold maxLen; omega) (by omega)
  obtain ⟨a, c, rfl, _⟩ := win_form hwin
  refine ⟨a, c, w', hr, ?_, fun g hlt hne => ?_, fun g hgv => ?_, hg⟩
  · rw [List.flatMap_append, List.length_append, h1]; exact hwin
  · exact (hg.block g (Nat.lt_of_lt_of_le hlt hb.size) (fun e => hne e.symm)).trans (hb.block g hlt)
  · rcases hat with e1 | e1
    · left; rw [← e1]; exact hgv
    · right; rw [e1] at hgv; simp at hgv; omega

theorem lst_at {w w' : World} {base : Nat} {v : Value} {vs : List Value} {ls : List (List Int)} (h : Lst w base v vs ls) (hk : ∀ g, base ≤ g → g < w.heap.size → w'.heap[g]? = w.heap[g]?) (hs : w.heap.size ≤ w'.heap.size) : Lst w' base v vs ls :=
  ⟨h.win.same (fun g hg => hk g (h.blk g hg) (h.win.lt g hg)), h.blk, fun i hi => bts_same (h.bts i hi) (fun g hg hlt => hk g (h.ent i hi g hg).1 hlt), fun i hi g hg => ⟨(h.ent i hi g hg).1, Nat.lt_of_lt_of_le (h.ent i hi g hg).2.1 hs, (h.ent i hi g hg).2.2⟩⟩

set_option maxHeartbeats 2000000 in
theorem read11_ok (w : World) (tag : Nat → Nat) (base o : Nat) (s : St) (p : PL) (h : PD w tag base o s p) (D : Nat) (hD : p.D = D) :
    Calls Tryz.prog 26 #[.pointer (some ⟨D, 0, none⟩)] w fun e w' => ∃ r, e = .returned r ∧ Win w' 5 r (foundE (bodK s.now s.n)).length ((foundE (bodK s.now s.n)).flatMap eL5) ∧ (∀ g, r.ownBlock = some g → w.heap.size ≤ g) ∧ Below w.heap.size w w' := by
  subst hD
  have HP : Hid (PD w tag base o s p) := h
  have hn2 := h.ok.n2
  have HOk : Hid s.Ok := h.ok
  have h0 : RowF w w (.slice none 0 0) (foundE (bodK s.now 0)) := ⟨win_nil _ _, fun g hg => by simp [Value.ownBlock] at hg⟩
  clear h
  go_enter Tryz.func26, Tryz.ntmps26
  go_wp2
  go_loopg [3, 4] s.n (fun gk rv i wr => ∃ (k : Nat) (r : Value), k + gk = s.n ∧ r = rv ∧ i = .int .i64 (k : Int) ∧ RowF w wr r (foundE (bodK s.now k)) ∧ Below w.heap.size w wr)
  case atStart => exact ⟨0, _, by omega, rfl, rfl, h0, Below.refl _ _⟩
  case round =>
    obtain ⟨wx, rfl⟩ : ∃ wx, wx = wr := ⟨wr, rfl⟩
    obtain ⟨k, r, hk, rfl, rfl, hrow, hB⟩ := hrel
    have HSz := size_ok wx tag base o s p (HP.out.later hB)
    have HRow : Hid (RowF w wx r (foundE (bodK s.now k))) := hrow
    clear hrow
    go_wp2_with fail
    refine HSz.mono ?_
    rintro e w' ⟨rfl, hx⟩
    rw [hx]
    clear hx HSz
    by_cases hlt : k < s.n
    case neg =>
      have hge : ¬ (k : Int) < (s.n : Int) := by omega
      have hke : k = s.n := by omega
      rw [hke] at HRow
      go_wp2
      go_ret
      exact ⟨_, rfl, HRow.out.1, HRow.out.2, hB⟩
    have hltI : (k : Int) < (s.n : Int) := by omega
    have HRd := read_okI wx tag base o s p (HP.out.later hB) k k rfl hlt _ rfl
    have hsl := sec_len HOk.out.nl hlt
    go_wp2_with fail
    refine HRd.mono ?_
    rintro e w2 ⟨v2, rfl, hb2, _, hB2⟩
    have hB02 := hB.trans (hB2.mono hB.size)
    have HSc := scan_ok w2 v2 (sec s.now k) hb2 (by omega)
    obtain ⟨a2, c2, rfl, _⟩ := bts_src hb2
    rw [hsl] at HSc
    clear HRd hb2
    go_wp2_with fail
    refine HSc.mono ?_
    rintro e w3 ⟨v3, vs3, rfl, hL3, hB3⟩
    have hB03 := hB02.trans (hB3.mono hB02.size)
    have HL : Hid (Lst w3 w2.heap.size v3 vs3 (scanB (sec s.now k))) := hL3
    have hll : (scanB (sec s.now k)).length ≤ 8 := by have := scanB_len 64 (sec s.now k) (by omega); omega
    obtain ⟨a3, c3, rfl, hc31, hc32⟩ := win_form hL3.win
    unfold maxLen at hc32
    have HR3 : Hid (RowF w w3 r (foundE (bodK s.now k ++ (scanB (sec s.now k)).take 0)) ∧ ∀ g, r.ownBlock = some g → g < w2.heap.size ∨ w3.heap.size ≤ g) := by
      rw [List.take_zero, List.append_nil]
      exact ⟨HRow.out.later (hB2.trans (hB3.mono hB2.size)), fun g hg => .inl (Nat.lt_of_lt_of_le (HRow.out.1.lt g hg) hB2.size)⟩
    have HBk : Hid ((bodK s.now k).length ≤ 32768) := by
      have := bodK_len HOk.out k (by omega)
      show _ ≤ _
      omega
    have HSu : Hid (bodK s.now (k + 1) = bodK s.now k ++ scanB (sec s.now k)) := bodK_succ s.now k
    have h32 := hB3.size
    clear HSc hL3 hB2 hB3 HRow hB02
    generalize scanB (sec s.now k) = ls at *
    go_wp2_with fail
    go_loopg [3, 8] ls.length (fun gk2 rv i wr2 => ∃ (j : Nat) (r : Value), j + gk2 = ls.length ∧ r = rv ∧ i = .int .i64 (j : Int) ∧ (RowF w wr2 r (foundE (bodK s.now k ++ ls.take j)) ∧ ∀ g, r.ownBlock = some g → g < w2.heap.size ∨ w3.heap.size ≤ g) ∧ Below w.heap.size w wr2 ∧ (∀ g, w2.heap.size ≤ g → g < w3.heap.size → wr2.heap[g]? = w3.heap[g]?) ∧ w3.heap.size ≤ wr2.heap.size)
    case atStart => exact ⟨0, _, by omega, rfl, rfl, HR3.out, hB03, fun _ _ _ => rfl, Nat.le_refl _⟩
    case round =>
      obtain ⟨wy, rfl⟩ : ∃ wy, wy = wr := ⟨wr, rfl⟩
      obtain ⟨j, r, hj, rfl, rfl, hrow, hB4, hkp, hs4⟩ := hrel
      have HRow : Hid (RowF w wy r (foundE (bodK s.now k ++ ls.take j)) ∧ ∀ g, r.ownBlock = some g → g < w2.heap.size ∨ w3.heap.size ≤ g) := hrow
      have HK : Hid (∀ g, w2.heap.size ≤ g → g < w3.heap.size → wy.heap[g]? = w3.heap[g]?) := hkp
      clear hrow hkp
      by_cases hlt2 : j < ls.length
      case neg =>
        have hge : ¬ (j : Int) < (ls.length : Int) := by omega
        have hje : ls.take j = ls := List.take_of_length_le (by omega)
        rw [hje, ← HSu.out] at HRow
        go_wp2
        go_roundg (s.n - (k + 1))
        case rel => exact ⟨k + 1, _, by omega, rfl, by go_num, HRow.out.1, hB4⟩
        case measure => omega
      have hltI2 : (j : Int) < (ls.length : Int) := by omega
      have hLy := lst_at HL.out HK.out hs4
      obtain ⟨LB, LO, lc, hvv, hlc, hlm, hcel⟩ := hLy.read (by omega)
      cases hvv
      have hc0 := hcel j hlt2
      have hbt := hLy.bts j hlt2
      have HS : Hid (foundE (bodK s.now k ++ ls.take (j + 1)) = foundE (bodK s.now k ++ ls.take j) ++ (if whyE (ls.getD j []) = 0 then [entE (ls.getD j [])] else [])) := by
        show _ = _
        rw [found_app, found_app, found_snoc ls j hlt2, List.append_assoc]
      have HLe : Hid ((foundE (bodK s.now k ++ ls.take j)).length ≤ 100000) := by
        have h1 := found_len (bodK s.now k ++ ls.take j)
        rw [List.length_append, List.length_take] at h1
        have h2 := HBk.out
        show _ ≤ _
        omega
      have hDc := decode_any (vs3.getD j undef) (ls.getD j []) wy hbt
      obtain ⟨ba, bc, hbv, _⟩ := bts_src hbt
      rw [hbv] at hc0 hDc
      have hbsz := hB4.size
      clear hbt hcel hbv hLy
      generalize foundE (bodK s.now k ++ ls.take j) = F at *
      generalize entE (ls.getD j []) = e at *
      generalize whyE (ls.getD j []) = y at *
      generalize (ls.getD j []).length = bn at *
      obtain ⟨k0, k1, k2, k3, k4⟩ := e
      go_wp2_with fail
      refine (by exact hDc : Calls _ _ _ _ _).mono ?_
      rintro e w5 ⟨rfl, hB5⟩
      have hB05 := hB4.trans (hB5.mono hbsz)
      have hB6 := hB5.trans ((below_alloc w5 (.cells #[.int .i64 k0, .int .i64 k1, .int .u32 k2, .int .u32 k3, .int .i64 k4] 73)).mono hB5.size)
      have hB06 := hB4.trans (hB6.mono hbsz)
      have hk6 : ∀ g, w2.heap.size ≤ g → g < w3.heap.size → (w5.alloc (.cells #[.int .i64 k0, .int .i64 k1, .int .u32 k2, .int .u32 k3, .int .i64 k4] 73)).heap[g]? = w3.heap[g]? := fun g h1 h2 => (hB6.block g (by omega)).trans (HK.out g h1 h2)
      have hr6 := HRow.out.1.later hB6
      have hs6 := Nat.le_trans hs4 hB6.size
      by_cases hy : y = 0
      · subst hy
        rw [if_pos rfl] at HS
        obtain ⟨a7, c7, w7, hr7, hwin7, hkp7, hown7, hg7⟩ := append_w (w5.alloc (.cells #[.int .i64 k0, .int .i64 k1, .int .u32 k2, .int .u32 k3, .int .i64 k4] 73)) r F ⟨k0, k1, k2, k3, k4⟩ hr6.1 (by have := HLe.out; omega)
        have hs7 := hg7.size
        have h66 := below_alloc (w5.alloc (.cells #[.int .i64 k0, .int .i64 k1, .int .u32 k2, .int .u32 k3, .int .i64 k4] 73)) (.cells #[.int .i64 k0, .int .i64 k1, .int .u32 k2, .int .u32 k3, .int .i64 k4] 73)
        have hs67 := Nat.le_trans h66.size hs7
        have HR7 : Hid ((RowF w w7 (.slice a7 (F.length + 1) c7) (F ++ [(⟨k0, k1, k2, k3, k4⟩ : En)]) ∧ ∀ g, (Value.slice a7 (F.length + 1) c7).ownBlock = some g → g < w2.heap.size ∨ w3.heap.size ≤ g) ∧ Below w.heap.size w w7 ∧ (∀ g, w2.heap.size ≤ g → g < w3.heap.size → w7.heap[g]? = w3.heap[g]?) ∧ w3.heap.size ≤ w7.heap.size) := by
          refine ⟨⟨⟨hwin7, fun g hg => ?_⟩, fun g hg => ?_⟩, ?_, fun g h1 h2 => ?_, Nat.le_trans hs6 hs67⟩
          · rcases hown7 g hg with e1 | e1
            · exact HRow.out.1.2 g e1
            · exact Nat.le_trans hB06.size e1
          · rcases hown7 g hg with e1 | e1
            · exact HRow.out.2 g e1
            · exact .inr (Nat.le_trans hs6 e1)
          · exact (hB06.trans (h66.mono hB06.size)).grown hg7 (Nat.le_trans hB06.size h66.size) (fun g hg => HRow.out.1.2 g hg)
          · rw [hkp7 g (by omega) (fun e1 => by have := HRow.out.2 g e1; omega)]
            exact hk6 g h1 h2
        obtain ⟨ra, rc, rfl, _⟩ := win_form HRow.out.1.1
        simp only [World.size_alloc] at hr7
        clear hwin7 hkp7 hown7 hg7 hs7 h66 hs67 hr6 hk6 hB6 hB05 hB06 hDc
        go_wp2_with (at_builtin; refine wpl_append_run rfl _ _ 63 rfl _ _ rfl rfl hr7 ?_)
        go_roundg (ls.length - (j + 1))
        case rel => exact ⟨j + 1, _, by omega, rfl, by go_num, by rw [HS.out]; exact HR7.out.1, HR7.out.2⟩
        case measure => omega
      · rw [if_neg hy, List.append_nil] at HS
        have HR6 : Hid ((RowF w (w5.alloc (.cells #[.int .i64 k0, .int .i64 k1, .int .u32 k2, .int .u32 k3, .int .i64 k4] 73)) r F ∧ ∀ g, r.ownBlock = some g → g < w2.heap.size ∨ w3.heap.size ≤ g) ∧ Below w.heap.size w (w5.alloc (.cells #[.int .i64 k0, .int .i64 k1, .int .u32 k2, .int .u32 k3, .int .i64 k4] 73)) ∧ (∀ g, w2.heap.size ≤ g → g < w3.heap.size → (w5.alloc (.cells #[.int .i64 k0, .int .i64 k1, .int .u32 k2, .int .u32 k3, .int .i64 k4] 73)).heap[g]? = w3.heap[g]?) ∧ w3.heap.size ≤ (w5.alloc (.cells #[.int .i64 k0, .int .i64 k1, .int .u32 k2, .int .u32 k3, .int .i64 k4] 73)).heap.size) :=
          ⟨⟨hr6, HRow.out.2⟩, hB06, hk6, hs6⟩
        have hy' : (y == 0) = false := by simpa using hy
        clear hr6 hk6 hB6 hB05 hB06 hDc hs6
        go_wp2
        go_roundg (ls.length - (j + 1))
        case rel => exact ⟨j + 1, _, by omega, rfl, by go_num, by rw [HS.out]; exact HR6.out.1, HR6.out.2⟩
        case measure => omega

end Go.Proofs.YtafkkehcacdodaaGreat

namespace Go.Proofs.YtafkkehcacdodaaGreat
open Go.RowKit Go.Shelf

/-- The row of what is to be appended: its tag is nobody's. -/
def MoreR (w wr : World) (tag : Nat → Nat) (base : Nat) (v : Value) (L : List En) : Prop := Win wr 5 v L.length (L.flatMap eL5) ∧ ∀ g, v.ownBlock = some g → (tag g = 641 ∧ base ≤ g) ∧ w.heap.size ≤ g

section
variable {w wr wr' : World} {tag tag' : Nat → Nat} {base : Nat} {v : Value} {L : List En}

theorem MoreR.new (h : MoreR w wr tag base v L) (hb : Below wr.heap.size wr wr') : MoreR w wr' (clip tag wr.heap.size) base v L :=
  ⟨h.1.later hb, fun g hg => by rw [clip_lt _ _ _ (h.1.lt g hg)]; exact h.2 g hg⟩

theorem MoreR.step {lo hi : Nat} (h : MoreR w wr tag base v L) (hS : StepR tag tag' base lo hi wr wr') (hh : hi < 40) : MoreR w wr' tag' base v L :=
  ⟨h.1.same (fun g hg => hS.kept g (h.1.lt g hg) (by rw [(h.2 g hg).1.1]; omega)), fun g hg => by rw [hS.tags g (h.1.lt g hg)]; exact h.2 g hg⟩

/-- One more of them. -/
theorem MoreR.push {o lo hi M T B : Nat} {b : Bm} {tag0 : Nat → Nat} (ho2 : o + 2 < 40) (h : MoreR w wr tag base v L) (hS : StepR tag0 tag base lo hi w wr) (hK : RKT wr tag base o M T B b) (hbase : base ≤ w.heap.size) (hl : L.length ≤ 900000) (r : En) :
    ∃ a c a5 c5 w5 tag5, v = .slice a L.length c ∧ (Builtin.append_ #[63, 63] 63 #[.slice a L.length c, .slice (some ⟨wr.heap.size, 0, none⟩) 1 1]).run Tryz.prog (wr.alloc (.cells (enC r) 73)) = .ok (.slice a5 (L.length + 1) c5) w5 ∧
      MoreR w w5 tag5 base (.slice a5 (L.length + 1) c5) (L ++ [r]) ∧ StepR tag0 tag5 base lo hi w w5 ∧ RKT w5 tag5 base o M T B b ∧ (∀ g, g < wr.heap.size → tag g / 16 ≠ 40 → w5.heap[g]? = wr.heap[g]? ∧ tag5 g = tag g) ∧ wr.heap.size ≤ w5.heap.size := by
  obtain ⟨a, c, hv, hc1, hc2⟩ := win_form h.1
  have hB := below_alloc wr (.cells (enC r) 73)
  have hbr : base ≤ wr.heap.size := Nat.le_trans hbase hS.below.size
  obtain ⟨a5, c5, w5, hr, hwin5, hkp, hown, hg⟩ := append_w wr v L r h.1 hl
  have hws := hS.below.size
  have hs5 : wr.heap.size ≤ w5.heap.size := Nat.le_trans hB.size hg.size
  obtain ⟨tag5, ht5⟩ : ∃ t, t = retag (clip tag wr.heap.size) (.slice a5 (L.length + 1) c5) 641 := ⟨_, rfl⟩
  have hown5 : ∀ g, (Value.slice a5 (L.length + 1) c5).ownBlock = some g → tag5 g = 641 := fun g hg => by rw [ht5]; simp [retag, hg]
  have hts : ∀ k, k < wr.heap.size → tag5 k = tag k := fun k hk => by
    by_cases e : (Value.slice a5 (L.length + 1) c5).ownBlock = some k
    · rw [hown5 k e]
      rcases hown k e with e1 | e1
      · exact ((h.2 k e1).1.1).symm
      · omega
    · rw [ht5]
      unfold retag
      rw [if_neg e, clip_lt _ _ _ hk]
  have hst : StepR tag tag5 base 40 40 wr w5 := ⟨(hB.mono hbr).grown hg (Nat.le_trans hbr hB.size) (fun k hk => (h.2 k hk).1.2), hts, fun k hk hne => hkp k hk (fun e => by have := (h.2 k e).1.1; omega)⟩
  refine ⟨a, c, a5, c5, w5, tag5, hv, by rw [← hv]; exact hr, ⟨?_, fun g hgv => ?_⟩, ⟨hS.below.trans hst.below, fun k hk => (hts k (by omega)).trans (hS.tags k hk), fun k hk hne => (hkp k (by omega) (fun e => by have := (h.2 k e).2; omega)).trans (hS.kept k hk hne)⟩, ?_, fun g hlt hne => ⟨hst.kept g hlt (by omega), hts g hlt⟩, hs5⟩
  · have hl5 : (L ++ [r]).length = L.length + 1 := by simp
    rw [hl5] at hwin5 ⊢
    exact hwin5
  · rcases hown g hgv with e1 | e1
    · exact ⟨⟨hown5 g hgv, (h.2 g e1).1.2⟩, (h.2 g e1).2⟩
    · exact ⟨⟨hown5 g hgv, by omega⟩, by omega⟩
  · obtain ⟨p, q, kv, dv, h0, hT, k1, k2, k3⟩ := hK
    exact ⟨p, q, kv, dv, h0, hT, k1.otherR hst (by omega), k2.otherR hst (by omega), k3.otherR hst (by omega)⟩

end

theorem sps_row3 {w : World} {base : Nat} {v : Value} {l : List Sp} (h : SpRow w base v l) : ∃ B O, Sps w v B O l ∧ (l ≠ [] → base ≤ B ∧ B < w.heap.size) := by
  obtain ⟨a, cap, rfl, h2, h3, h4⟩ := ownsRow_shape h
  rcases h4 with h4 | ⟨g, rfl⟩
  · have hl : l = [] := List.eq_nil_of_length_eq_zero h4
    subst hl
    exact ⟨0, 0, ⟨a, cap, rfl, h2, h3, .inr rfl, fun i s hs => by simp at hs⟩, fun hne => absurd rfl hne⟩
  · refine ⟨g, 0, ⟨_, cap, rfl, h2, h3, .inl rfl, fun i s hs => ?_⟩, fun _ => h.lt g rfl⟩
    rw [Nat.zero_add]
    exact spRow_at h rfl hs

theorem sps_same3 {w w' : World} {v : Value} {B O : Nat} {l : List Sp} (h : Sps w v B O l) (hk : l ≠ [] → w'.heap[B]? = w.heap[B]?) : Sps w' v B O l := by
  obtain ⟨a, cap, h1, h2, h3, h4, h5⟩ := h
  refine ⟨a, cap, h1, h2, h3, h4, fun i s hs => ?_⟩
  have hne : l ≠ [] := fun e => by rw [e] at hs; simp at hs
  have hb := hk hne
  obtain ⟨c0, c1, c2, c3, c4, c5⟩ := h5 i s hs
  have hc : ∀ o, w'.cell? ⟨B, o, none⟩ = w.cell? ⟨B, o, none⟩ := fun o => by unfold World.cell?; simp only [hb]
  exact ⟨(hc _).trans c0, (hc _).trans c1, (hc _).trans c2, (hc _).trans c3, (hc _).trans c4, (hc _).trans c5⟩

theorem lay_cons (s : St) (t : Sd) (e : En) (r : List En) : layE s t (e :: r) = (if appE s t (bytesE e) ≠ 0 then appE s t (bytesE e) else layE (appS s t (bytesE e)) (appT s t (bytesE e)) r) ∧ layS s t (e :: r) = (if appE s t (bytesE e) ≠ 0 then appS s t (bytesE e) else layS (appS s t (bytesE e)) (appT s t (bytesE e)) r) ∧ layT s t (e :: r) = (if appE s t (bytesE e) ≠ 0 then appT s t (bytesE e) else layT (appS s t (bytesE e)) (appT s t (bytesE e)) r) := ⟨rfl, rfl, rfl⟩

/-- So far, when some entries were appended. -/
structure RLaid (s : St) (l : List En) (k : Nat) (sk : St) (tk : Sd) : Prop where
  nb : Nb sk tk (700000 + k)
  eE : layE s (openT s) l = layE sk tk (l.drop k)
  eS : layS s (openT s) l = layS sk tk (l.drop k)
  eT : layT s (openT s) l = layT sk tk (l.drop k)
  outs : sk.outs.length ≤ 700000
  recs : tk.recs.length ≤ 32768 + k

theorem MoreR.ens {w wr : World} {tag : Nat → Nat} {base : Nat} {v : Value} {L : List En} (h : MoreR w wr tag base v L) : ∃ B O, Ens wr v B O L := by
  obtain ⟨B, O, hE, _⟩ := win_ens h.1
  exact ⟨B, O, hE⟩

theorem rlaid_new (s : St) (l : List En) (hn : Nb s (openT s) 700000) (ho : s.outs.length ≤ 700000) (hr : (openT s).recs.length ≤ 32768) : RLaid s l 0 s (openT s) :=
  ⟨hn, rfl, rfl, rfl, ho, hr⟩

theorem drop_at {l : List En} {k : Nat} {e : En} (he : l[k]? = some e) : l.drop k = e :: l.drop (k + 1) := by
  obtain ⟨hk, rfl⟩ := List.getElem?_eq_some_iff.1 he
  exact List.drop_eq_getElem_cons hk

theorem RLaid.err {s : St} {l : List En} {k : Nat} {sk : St} {tk : Sd} {e : En} (h : RLaid s l k sk tk) (he : l[k]? = some e) (hE : appE sk tk (bytesE e) ≠ 0) :
    wrtE s (openT s) l = appE sk tk (bytesE e) ∧ wrB (b0 s) l = ⟨appS sk tk (bytesE e), appT sk tk (bytesE e), startL s, []⟩ := by
  have h1 := h.eE
  have h2 := h.eS
  have h3 := h.eT
  rw [drop_at he] at h1 h2 h3
  obtain ⟨c1, c2, c3⟩ := lay_cons sk tk e (l.drop (k + 1))
  rw [c1, if_pos hE] at h1
  rw [c2, if_pos hE] at h2
  rw [c3, if_pos hE] at h3
  have hw : wrtE s (openT s) l = appE sk tk (bytesE e) := by unfold wrtE; rw [h1, if_pos hE]
  refine ⟨hw, ?_⟩
  unfold wrB b0 wrtS wrtT
  dsimp only
  rw [hw, h1, h2, h3, if_pos hE, if_pos hE, if_neg hE]

theorem RLaid.next {s : St} {l : List En} {k : Nat} {sk : St} {tk : Sd} {e : En} (h : RLaid s l k sk tk) (he : l[k]? = some e) (hE : appE sk tk (bytesE e) = 0) :
    RLaid s l (k + 1) (appS sk tk (bytesE e)) (appT sk tk (bytesE e)) := by
  have h1 := h.eE
  have h2 := h.eS
  have h3 := h.eT
  rw [drop_at he] at h1 h2 h3
  obtain ⟨c1, c2, c3⟩ := lay_cons sk tk e (l.drop (k + 1))
  have hn : ¬ appE sk tk (bytesE e) ≠ 0 := fun h => h hE
  rw [c1, if_neg hn] at h1
  rw [c2, if_neg hn] at h2
  rw [c3, if_neg hn] at h3
  obtain ⟨n1, n2, n3⟩ := h.nb.app (bytesE e) (bytesE_bytes e)
  have hr := h.recs
  exact ⟨n1, h1, h2, h3, Nat.le_trans (outs_app sk tk (bytesE e)) h.outs, by omega⟩

theorem RLaid.done {s : St} {l : List En} {sk : St} {tk : Sd} (h : RLaid s l l.length sk tk) :
    wrtE s (openT s) l = errC sk.out ∧ wrB (b0 s) l = ⟨sk.sync, synT sk tk, if errC sk.out = 0 then startL s ++ l else startL s, []⟩ := by
  have h1 := h.eE
  have h2 := h.eS
  have h3 := h.eT
  rw [List.drop_of_length_le (Nat.le_refl _)] at h1 h2 h3
  have h1 : layE s (openT s) l = 0 := h1
  have h2 : layS s (openT s) l = sk := h2
  have h3 : layT s (openT s) l = tk := h3
  have hn : ¬ layE s (openT s) l ≠ 0 := fun h => h h1
  have hw : wrtE s (openT s) l = errC sk.out := by unfold wrtE; rw [if_neg hn, h2]
  refine ⟨hw, ?_⟩
  unfold wrB b0 wrtS wrtT
  dsimp only
  rw [hw, if_neg hn, if_neg hn, h2, h3]

end Go.Proofs.YtafkkehcacdodaaGreat
