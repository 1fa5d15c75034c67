/- write and Pay: appended, a Sync, told. -/
import Derived.Test.YtafkkehcacdodaaGreatBokSteps
set_option maxRecDepth 100000
namespace Go.Proofs.YtafkkehcacdodaaGreat
open Go.RowKit

theorem enters_lay : ∀ (args : Array Value) (w : World), (callFunc 50 args).run Tryz.prog w = .ok (.enter 50 args) w := enters_of Tryz.func50 (by kernel_rfl) rfl

theorem enters_seal : ∀ (args : Array Value) (w : World), (callFunc 51 args).run Tryz.prog w = .ok (.enter 51 args) w := enters_of Tryz.func51 (by kernel_rfl) rfl

theorem enters_keep : ∀ (args : Array Value) (w : World), (callFunc 52 args).run Tryz.prog w = .ok (.enter 52 args) w := enters_of Tryz.func52 (by kernel_rfl) rfl

theorem enters_dis : ∀ (args : Array Value) (w : World), (callFunc 53 args).run Tryz.prog w = .ok (.enter 53 args) w := enters_of Tryz.func53 (by kernel_rfl) rfl

theorem enters_may : ∀ (args : Array Value) (w : World), (callFunc 83 args).run Tryz.prog w = .ok (.enter 83 args) w := enters_of Tryz.func83 (by kernel_rfl) rfl

theorem enters_settle : ∀ (args : Array Value) (w : World), (callFunc 84 args).run Tryz.prog w = .ok (.enter 84 args) w := enters_of Tryz.func84 (by kernel_rfl) rfl

/-- The steps of write and Pay. -/
def fsW : Nat → Nat
  | 0 => 50
  | 1 => 51
  | 2 => 52
  | _ => 53

/-- The book behind j of them. -/
def stW (b : Bm) (l : List En) : Nat → Bm
  | 0 => b
  | 1 => ⟨layS b.s b.t l, layT b.s b.t l, b.L, b.D⟩
  | 2 => ⟨wrtS b.s b.t l, wrtT b.s b.t l, b.L, b.D⟩
  | 3 => ⟨wrtS b.s b.t l, wrtT b.s b.t l, b.L ++ l, b.D⟩
  | _ => ⟨wrtS b.s b.t l, wrtT b.s b.t l, b.L ++ l, []⟩

/-- The book behind a write. -/
def wrB (b : Bm) (l : List En) : Bm := ⟨wrtS b.s b.t l, wrtT b.s b.t l, if wrtE b.s b.t l = 0 then b.L ++ l else b.L, b.D⟩

/-- Between two steps. -/
structure IW (tag : Nat → Nat) (base o D B : Nat) (b : Bm) (lv : Value) (l : List En) (W0 : World) (j : Nat) (W : World) (tag' : Nat → Nat) : Prop where
  step : StepR tag tag' base o (o + 2) W0 W
  bk : BK W tag' base o D B (stW b l j)
  far : j ≤ 2 → Far W tag' o (o + 1) lv l
  e1 : 1 ≤ j → layE b.s b.t l = 0
  e2 : 2 ≤ j → wrtE b.s b.t l = 0

/-- Behind an error. -/
def EW (tag : Nat → Nat) (base o D B : Nat) (b : Bm) (l : List En) (W0 : World) (x : Int) (W : World) : Prop :=
  ∃ tag', StepR tag tag' base o (o + 2) W0 W ∧ BK W tag' base o D B ⟨wrtS b.s b.t l, wrtT b.s b.t l, b.L, b.D⟩ ∧ x = wrtE b.s b.t l

theorem stepR_cell {tag tag' : Nat → Nat} {base lo hi : Nat} {w w' : World} (h : StepR tag tag' base lo hi w w') {g : Nat} (hg : g < w.heap.size) (ht : tag g / 16 < lo) (j : Nat) : w'.cell? ⟨g, j, none⟩ = w.cell? ⟨g, j, none⟩ ∧ w'.frozen? ⟨g, j, none⟩ = w.frozen? ⟨g, j, none⟩ := by
  have := h.kept g hg (.inl ht)
  exact ⟨by unfold World.cell?; simp only [this], by unfold World.frozen?; simp only [this]⟩

theorem steps_w (n : Nat) (hn4 : n ≤ 4) (tag : Nat → Nat) (base o D B : Nat) (ho : 1 ≤ o) (b : Bm) (lv : Value) (l : List En) (W0 : World) (hbase : base ≤ W0.heap.size) (SB EB : Nat) (hSB : SB < W0.heap.size) (hEB : EB < W0.heap.size) (htS : tag SB / 16 < o) (htE : tag EB / 16 < o)
    (hcS : ∀ j, j < n → W0.cell? ⟨SB, j, none⟩ = some (.func (.func (fsW j)) #[.pointer (some ⟨B, 0, none⟩)] #[])) (hcE : W0.cell? ⟨EB, 0, none⟩ = some (.int .i64 0)) (hfE : W0.frozen? ⟨EB, 0, none⟩ = false)
    (q : Nat) (hnb : Nb b.s b.t q) (hf : Fine l) (hq : q + l.length ≤ 900000) (hout : b.s.outs.length ≤ 900000) (hrec : b.t.recs.length + l.length ≤ 900000) (hL : b.L.length + l.length ≤ 900000) :
    Steps9 n fsW (.pointer (some ⟨B, 0, none⟩)) lv EB SB (fun j W => ∃ tag', IW tag base o D B b lv l W0 j W tag') (EW tag base o D B b l W0) := by
  obtain ⟨m1, m2, m3, m4⟩ := Nb.lay l hnb
  refine ⟨?_, ?_, ?_, ?_, ?_⟩
  · rintro j hj W ⟨tag', hI⟩
    rw [(stepR_cell hI.step hSB htS j).1]; exact hcS j hj
  · intro j hj
    match j with
    | 0 => exact enters_lay
    | 1 => exact enters_seal
    | 2 => exact enters_keep
    | j + 3 => exact enters_dis
  · rintro j hj W ⟨tag', hI⟩
    have hbW : base ≤ W.heap.size := Nat.le_trans hbase hI.step.below.size
    match j with
    | 0 =>
      refine (blay_ok W tag' base o D B ho b hI.bk hbW lv l (hI.far (by omega)) hf q hnb hq hout hrec).mono ?_
      rintro e w' ⟨tag2, h1, h2, rfl⟩
      have h3 := hI.step.trans (h1.wide (Nat.le_refl o) (by omega))
      by_cases hE : layE b.s b.t l = 0
      · left
        exact ⟨by rw [hE]; rfl, tag2, h3, h2, fun _ => (hI.far (by omega)).step h1 (Nat.le_refl _) (Nat.le_refl _), fun _ => hE, fun h => absurd h (by omega)⟩
      · right
        refine ⟨layE b.s b.t l, stepEnd_no hE, hE, tag2, h3, ?_, ?_⟩
        · unfold wrtS wrtT; rw [if_pos hE, if_pos hE]; exact h2
        · unfold wrtE; rw [if_pos hE]
    | 1 =>
      have hE := hI.e1 (by omega)
      have hbk := hI.bk
      refine (bseal_ok W tag' base o D B _ hbk hbW lv (q + l.length) m1 hq (Nat.le_trans m4 hout)).mono ?_
      rintro e w' ⟨tag2, h1, h2, rfl⟩
      have h3 := hI.step.trans (h1.wide (Nat.le_refl o) (by omega))
      have hw : wrtE b.s b.t l = errC (layS b.s b.t l).out := by unfold wrtE; rw [if_neg (by simpa using hE)]
      have hS : wrtS b.s b.t l = (layS b.s b.t l).sync := by unfold wrtS; rw [if_neg (by simpa using hE)]
      have hT : wrtT b.s b.t l = synT (layS b.s b.t l) (layT b.s b.t l) := by unfold wrtT; rw [if_neg (by simpa using hE)]
      have h2' : BK w' tag2 base o D B ⟨wrtS b.s b.t l, wrtT b.s b.t l, b.L, b.D⟩ := by rw [hS, hT]; exact h2
      have hw' : errC (stW b l 1).s.out = wrtE b.s b.t l := hw.symm
      rw [hw']
      by_cases hz : wrtE b.s b.t l = 0
      · left
        exact ⟨by rw [hz]; rfl, tag2, h3, h2', fun _ => (hI.far (by omega)).step h1 (Nat.le_refl _) (Nat.le_refl _), fun _ => hE, fun _ => hz⟩
      · right
        exact ⟨_, stepEnd_no hz, hz, tag2, h3, h2', rfl⟩
    | 2 =>
      have hbk := hI.bk
      refine (bkeep_ok W tag' base o D B _ hbk hbW lv l (hI.far (by omega)).win (by show b.L.length + l.length ≤ _; omega)).mono ?_
      rintro e w' ⟨tag2, h1, h2, rfl⟩
      exact .inl ⟨rfl, tag2, hI.step.trans (h1.wide (by omega) (Nat.le_refl _)), h2, fun h => absurd h (by omega), fun _ => hI.e1 (by omega), fun _ => hI.e2 (by omega)⟩
    | 3 =>
      have hbk := hI.bk
      refine (bdis_ok W tag' base o D B _ hbk lv).mono ?_
      rintro e w' ⟨tag2, h1, h2, rfl⟩
      exact .inl ⟨rfl, tag2, hI.step.trans (h1.wide (by omega) (Nat.le_refl _)), h2, fun h => absurd h (by omega), fun _ => hI.e1 (by omega), fun _ => hI.e2 (by omega)⟩
    | j + 4 => omega
  · rintro j hj W ⟨tag', hI⟩
    have := stepR_cell hI.step hEB htE 0
    exact ⟨by rw [this.1]; exact hcE, by rw [this.2]; exact hfE⟩
  · rintro x W ⟨tag', h1, _⟩
    have := stepR_cell h1 hEB htE 0
    exact ⟨by rw [this.1]; exact hcE, by rw [this.2]; exact hfE⟩

/-- The book's shape behind the take's last store. -/
theorem bk_last {w W0 W : World} {tag tag' : Nat → Nat} {base o hi D B : Nat} (ho : 1 ≤ o) {b : Bm} (hbase : base ≤ w.heap.size) (hB : Below w.heap.size w W0) (h1 : StepR (clip tag w.heap.size) tag' base o hi W0 W) (h2 : BK W tag' base o D B b) {g : Nat} (hg1 : w.heap.size ≤ g) (hg2 : g < W0.heap.size) (v : Value) :
    StepR tag tag' base o hi w (W.setCell ⟨g, 0, none⟩ v) ∧ BK (W.setCell ⟨g, 0, none⟩ v) tag' base o D B b := by
  have hs := hB.size
  have htg : tag' g / 16 = 0 := by rw [h1.tags g hg2]; simp [clip, Nat.not_lt.2 hg1]
  have hst : Step tag' tag' base 0 W (W.setCell ⟨g, 0, none⟩ v) := step_set tag' base 0 W (Nat.le_trans hbase hg1) htg 0 v
  have h0 := (stepR_clip tag base o hi hbase hB).trans h1
  refine ⟨⟨h0.below.trans hst.below, h0.tags, fun k hk hne => ?_⟩, h2.otherR (hst.range (lo := 0) (hi := 0) (Nat.le_refl _) (Nat.le_refl _)) (by omega)⟩
  rw [heap_setCell_other _ _ k _ (by show k ≠ g; omega)]
  exact h0.kept k hk hne

set_option maxHeartbeats 2000000 in
theorem bwrite_ok (w : World) (tag : Nat → Nat) (base o D B : Nat) (ho : 1 ≤ o) (b : Bm) (h : BK w tag base o D B b) (hbase : base ≤ w.heap.size) (lv : Value) (l : List En) (hl : Far w tag o (o + 1) lv l) (hf : Fine l) (q : Nat) (hn : Nb b.s b.t q)
    (hq : q + l.length ≤ 900000) (hout : b.s.outs.length ≤ 900000) (hrec : b.t.recs.length + l.length ≤ 900000) (hL : b.L.length + l.length ≤ 900000) :
    Calls Tryz.prog 33 #[.pointer (some ⟨B, 0, none⟩), lv] w fun e w' => e = .returned (.int .i64 (wrtE b.s b.t l)) ∧ ∃ tag', StepR tag tag' base o (o + 2) w w' ∧
      BK w' tag' base o D B (wrB b l) := by
  have hmf : ∀ (fn : Fn) (first cap : Array Value) (w : World), (Instr.makeFunc fn first cap).run Tryz.prog w = .ok (.func fn first cap) w := fun _ _ _ _ => rfl
  obtain ⟨w1, hw1⟩ : ∃ w1, w1 = w.alloc (.cells #[.func (.func 50) #[.pointer (some ⟨B, 0, none⟩)] #[], .func (.func 51) #[.pointer (some ⟨B, 0, none⟩)] #[], .func (.func 52) #[.pointer (some ⟨B, 0, none⟩)] #[]] 150) := ⟨_, rfl⟩
  obtain ⟨W0, hW0⟩ : ∃ W0, W0 = w1.alloc (.cells #[.int .i64 0] 26) := ⟨_, rfl⟩
  have hs1 : w1.heap.size = w.heap.size + 1 := by rw [hw1]; simp
  have hs0 : W0.heap.size = w.heap.size + 2 := by rw [hW0]; simp [hs1]
  have hB1 : Below w.heap.size w w1 := by rw [hw1]; exact below_alloc _ _
  have hB0 : Below w.heap.size w W0 := by rw [hW0]; exact hB1.trans ((below_alloc w1 _).mono (by omega))
  have hcl : ∀ g, w.heap.size ≤ g → clip tag w.heap.size g / 16 < o := fun g hg => by simp [clip, Nat.not_lt.2 hg]; omega
  have hcE : W0.cell? ⟨w.heap.size + 1, 0, none⟩ = some (.int .i64 0) := by rw [hW0, ← hs1]; simp
  have hfE : W0.frozen? ⟨w.heap.size + 1, 0, none⟩ = false := by rw [hW0, ← hs1]; simp
  have hcS : ∀ j, j < 3 → W0.cell? ⟨w.heap.size, j, none⟩ = some (.func (.func (fsW j)) #[.pointer (some ⟨B, 0, none⟩)] #[]) := by
    intro j hj
    have : w1.cell? ⟨w.heap.size, j, none⟩ = some (.func (.func (fsW j)) #[.pointer (some ⟨B, 0, none⟩)] #[]) := by
      rw [hw1]
      match j, hj with
      | 0, _ => simp; rfl
      | 1, _ => simp; rfl
      | 2, _ => simp; rfl
    rw [hW0]; exact cell_later (below_alloc w1 _) this
  have hSt := steps_w 3 (by omega) (clip tag w.heap.size) base o D B ho b lv l W0 (by omega) w.heap.size (w.heap.size + 1) (by omega) (by omega) (hcl _ (Nat.le_refl _)) (hcl _ (by omega)) hcS hcE hfE q hn hf hq hout hrec hL
  have hI0 : IW (clip tag w.heap.size) base o D B b lv l W0 0 W0 (clip tag w.heap.size) := ⟨StepR.refl _ _ _ _ _, h.new hB0, fun _ => hl.new hB0, fun h => absurd h (by omega), fun h => absurd h (by omega)⟩
  rw [← hs1] at hSt
  have HT := btake_any 3 3 (Nat.le_refl _) (by decide) fsW (.pointer (some ⟨B, 0, none⟩)) lv w.heap.size w1 _ _ hSt ⟨_, by rw [← hW0]; exact hI0⟩
  rw [hw1] at HT
  have HFin : Hid (∀ x W, ((x = 0 ∧ ∃ tag', IW (clip tag w.heap.size) base o D B b lv l W0 3 W tag') ∨ (x ≠ 0 ∧ EW (clip tag w.heap.size) base o D B b l W0 x W)) → x = wrtE b.s b.t l ∧ ∃ tag', StepR tag tag' base o (o + 2) w (W.setCell ⟨w.heap.size + 1, 0, none⟩ (.int .i64 x)) ∧
      BK (W.setCell ⟨w.heap.size + 1, 0, none⟩ (.int .i64 x)) tag' base o D B (wrB b l)) := by
    rintro x W (⟨rfl, tag', hI⟩ | ⟨hx, tag', h1, h2, rfl⟩)
    · have hz := hI.e2 (by omega)
      obtain ⟨k1, k2⟩ := bk_last ho hbase hB0 hI.step hI.bk (g := w.heap.size + 1) (by omega) (by omega) (.int .i64 0)
      exact ⟨hz.symm, tag', k1, by unfold wrB; rw [if_pos hz]; exact k2⟩
    · obtain ⟨k1, k2⟩ := bk_last ho hbase hB0 h1 h2 (g := w.heap.size + 1) (by omega) (by omega) (.int .i64 (wrtE b.s b.t l))
      exact ⟨rfl, tag', k1, by unfold wrB; rw [if_neg hx]; exact k2⟩
  obtain ⟨a, c, rfl, _⟩ := win_form hl.win
  clear h hl hSt hI0 hcS hcE hfE hB0 hB1 hcl hn hf
  go_enter Tryz.func33, Tryz.ntmps33
  go_wp2_with fail
  refine (by exact HT : Calls _ _ _ _ _).mono ?_
  rintro e w' ⟨x, W, rfl, rfl, hx⟩
  have hfin := HFin.out x W hx
  rw [← hw1, hs1]
  clear hx HT HFin
  obtain ⟨rfl, hfin⟩ := hfin
  go_wp2
  go_ret
  exact ⟨rfl, hfin⟩

end Go.Proofs.YtafkkehcacdodaaGreat
