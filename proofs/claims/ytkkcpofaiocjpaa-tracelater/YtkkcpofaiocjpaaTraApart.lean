/- trace.Apart: of any spans. -/
import Derived.Test.YtkkcpofaiocjpaaTraSortF
set_option maxRecDepth 100000
namespace Go.Proofs.Ytkkcpofaiocjpaa
open Go.RowKit Go.Maps Go.Shelf

/-- No neighbours of a row meet. -/
def Steps (r : List Sp) : Prop := ∀ i x y, r[i]? = some x → r[i + 1]? = some y → endS x < y.frm

theorem rows_apart {w : World} {base mb : Nat} {l : List Sp} {f : Pl → Option Value} {G : Pl → List Sp} (h : RowsOf w base mb l f G) (hok : OkAll l) : Apart l ↔ ∀ p, Steps (G p) := by
  have hfull : ∀ p, ∀ s ∈ G p, s.frm ≤ endS s := fun p s hs => by
    have := mem_rowOf.1 ((h.perm p).mem_iff.1 hs)
    simpa [fullB] using this.2.2
  rw [apart_rows hok]
  constructor
  · intro ha p
    exact (row_apart (h.perm p) (h.up p) (hfull p)).1 (ha p.1 p.2)
  · intro ha a k
    exact (row_apart (h.perm (a, k)) (h.up (a, k)) (hfull (a, k))).2 (ha (a, k))

instance (l : List Sp) : Decidable (Apart l) := by unfold Apart; infer_instance

def apartB (l : List Sp) : Bool := decide (Apart l)

theorem apartB_false {l : List Sp} (h : ¬ Apart l) : apartB l = false := by simp [apartB, h]

theorem apartB_true {l : List Sp} (h : Apart l) : apartB l = true := by simp [apartB, h]

theorem enters_end : ∀ (args : Array Value) (w : World), (callFunc 24 args).run Try.prog w = .ok (.enter 24 args) w := enters_of Try.func24 (by kernel_rfl) rfl

set_option maxHeartbeats 8000000 in
theorem apart_ok (v : Value) (B O : Nat) (l : List Sp) (w : World) (h : Sps w v B O l) (hok : OkAll l) (hl : l.length ≤ 1000) :
    Calls Try.prog 14 #[v] w fun e w' => e = .returned (.bool (apartB l)) ∧ Below w.heap.size w w' := by
  have HC := rows_ok sort_sp v B O l w h hok hl
  have HOK : Hid (OkAll l) := hok
  clear h hok
  go_enter Try.func14, Try.ntmps14
  go_wp2_with fail
  refine HC.mono ?_
  rintro e w1 ⟨f, G, rfl, hR, hb1⟩
  have HR : Hid (RowsOf w1 (w.heap.size + 1) w.heap.size l f G) := hR
  have HM : Hid (KMap 49 plK w1 w.heap.size l.length f) := hR.map
  have HB1 : Hid (Below w.heap.size w w1) := hb1
  have hmb := hR.map.lt
  clear hR hb1 HC
  go_wp2_with (at_range; refine wpl_range _ rfl _ 56 rfl placeK 23 Try.underlying56 rfl HM.out ?_; intro w2 c0 hrg0 hg0 hs0)
  have HB2 : Hid (Below w1.heap.size w1 w2) := (Below.refl _ w1).grown hg0 (Nat.le_refl _) (fun k hk => by cases hk)
  obtain ⟨R, hR⟩ : ∃ R, R = w1.heap.size := ⟨_, rfl⟩
  rw [← hR] at hrg0 ⊢
  have HRR : Hid (R = w1.heap.size) := hR
  clear hg0 hs0 hR
  go_frame
  go_loopg [4] c0 (fun gk u wr => ∃ (left : Pl → Bool), KRange 49 plK wr w.heap.size R l.length f left gk ∧ (∀ p, left p = false → Steps (G p)) ∧ Below w1.heap.size w1 wr)
  case atStart =>
    refine ⟨_, hrg0, fun p hp => ?_, HB2.out⟩
    have hn : f p = none := by
      cases hf : f p with
      | none => rfl
      | some u => rw [hf] at hp; cases hp
    rw [HR.out.grp.off p hn]
    intro i x y hx; simp at hx
  case round =>
    obtain ⟨left, hrg, hst, hbel⟩ := hrel
    have HRG : Hid (KRange 49 plK wr w.heap.size R l.length f left _) := hrg
    have HST : Hid (∀ p, left p = false → Steps (G p)) := hst
    have HBQ : Hid (Below w1.heap.size w1 wr) := hbel
    clear hrg hst hbel hrg0 HB2
    go_wp2_with (at_next; refine wpl_next _ rfl _ rfl placeK rfl HRG.out ?_ ?_)
    · intro _ hl0
      have HA : Hid (apartB l = true) := by
        refine apartB_true ((rows_apart HR.out HOK.out).2 fun p => ?_)
        by_cases hp : OkP p
        · exact HST.out p (hl0 p.1 p.2 hp)
        · have hn : rowOf l p.1 p.2 = [] := by
            refine List.filter_eq_nil_iff.2 fun s hs hc => hp ?_
            simp only [Bool.and_eq_true, here_iff] at hc
            have ho := HOK.out s hs
            exact ⟨hc.1.1 ▸ ho.addr0, hc.1.1 ▸ ho.addr1, hc.1.2 ▸ ho.block0, hc.1.2 ▸ ho.block1⟩
          have := HR.out.perm p
          rw [hn] at this
          rw [this.eq_nil]
          intro i x y hx; simp at hx
      clear hl0
      go_wp2
      go_ret
      exact ⟨ret_bool HA.out.symm, HB1.out.trans (HBQ.out.mono (by have := HB1.out.size; omega))⟩
    · intro xa xk rv w3 cnt' hx hlx hfx hrg3 hlt3 hg3 hs3 hen
      have hb3 : Below w1.heap.size w1 w3 := HBQ.out.grown hg3 HBQ.out.size (fun k hk => by injection hk with hk; have := HRR.out; omega)
      obtain ⟨hrow, hne⟩ := HR.out.grp.row (xa, xk) rv hfx
      obtain ⟨g, cp, rfl, hg1, hg2, hg4⟩ := ownsRow_slice hrow (List.length_pos_iff.2 hne)
      have HRow : Hid (SpRow w1 (w.heap.size + 1) (.slice (some ⟨g, 0, none⟩) (G (xa, xk)).length cp) (G (xa, xk))) := hrow
      have HB3 : Hid (Below w1.heap.size w1 w3) := hb3
      have HRG3 : Hid (KRange 49 plK w3 w.heap.size R l.length f (fun y => left y && !decide (y = (xa, xk))) cnt') := hrg3
      have h1r : 1 ≤ (G (xa, xk)).length := List.length_pos_iff.2 hne
      have hlen : (G (xa, xk)).length ≤ 1000 := by
        rw [(HR.out.perm (xa, xk)).length_eq]
        have h1 := List.length_filter_le (fun s => s.here xa xk && fullB s) l
        exact Nat.le_trans h1 hl
      have hfr : Hid (Apart l → Steps (G (xa, xk))) := fun h => (rows_apart HR.out HOK.out).1 h (xa, xk)
      generalize hr : G (xa, xk) = r at *
      have HGr : Hid (G (xa, xk) = r) := hr
      clear hr hrow hrg3 hg3 hs3 hb3 hne hg2 hg4
      go_wp2
      clear hen
      go_loopg [5] (r.length - 1) (fun gk i wr => ∃ (k : Nat), 1 ≤ k ∧ k + gk = r.length ∧ i = .int .i64 (k : Int) ∧ Hid (∀ i x y, i + 1 < k → r[i]? = some x → r[i + 1]? = some y → endS x < y.frm) ∧ KRange 49 plK wr w.heap.size R l.length f (fun y => left y && !decide (y = (xa, xk))) cnt' ∧ Below w1.heap.size w1 wr)
      case atStart => exact ⟨1, Nat.le_refl _, by omega, rfl, fun i x y hi => by omega, HRG3.out, HB3.out⟩
      case round =>
        obtain ⟨k, hk1, hk, rfl, hpre, hrgk, hbk⟩ := hrel
        have HRGk : Hid (KRange 49 plK wr w.heap.size R l.length f (fun y => left y && !decide (y = (xa, xk))) cnt') := hrgk
        have HBk : Hid (Below w1.heap.size w1 wr) := hbk
        clear hrgk hbk HB3 HRG3
        by_cases hlt : k < r.length
        case neg =>
          have hke : k = r.length := by omega
          have hge : ¬ ((k : Int) < (r.length : Int)) := by omega
          have HSt : Hid (Steps (G (xa, xk))) := by
            show Steps _
            rw [HGr.out]
            exact fun i x y hx hy => hpre.out i x y (by have := (List.getElem?_eq_some_iff.1 hy).1; omega) hx hy
          clear hpre hlt
          go_wp2
          go_roundg cnt'
          case rel =>
            refine ⟨_, HRGk.out, fun p hp => ?_, HBk.out⟩
            by_cases e : p = (xa, xk)
            · subst e; exact HSt.out
            · exact HST.out p (by simpa [e] using hp)
          case measure => omega
        obtain ⟨y, hy⟩ : ∃ y, r[k]? = some y := ⟨_, List.getElem?_eq_getElem hlt⟩
        obtain ⟨j, hj⟩ : ∃ j, k = j + 1 := ⟨k - 1, by omega⟩
        have HJ : Hid (k = j + 1) := hj
        have hsub : IntKind.i64.wrap ((k : Int) - 1) = (j : Int) := by simp [IntKind.wrap, IntKind.bits, IntKind.signed]; omega
        have hjlt : (j : Int) < (r.length : Int) := by omega
        obtain ⟨x, hx0⟩ : ∃ x, r[j]? = some x := ⟨_, List.getElem?_eq_getElem (by omega)⟩
        obtain ⟨-, -, -, hy3, -, -⟩ := spAt_later (spRow_at HRow.out rfl hy) (HBk.out.mono (Nat.le_refl _))
        have hxA := spAt_later (spRow_at HRow.out rfl hx0) (HBk.out.mono (Nat.le_refl _))
        have HX : Hid (r[j]? = some x) := hx0
        have HY : Hid (r[k]? = some y) := hy
        have HEn := fun W' => end_any x W'
        have HSteps : Hid (y.frm ≤ endS x → apartB l = false) := fun hn => apartB_false fun ha => (Int.not_lt.2 hn) (by have := hfr.out ha; exact this j x y HX.out (by rw [← HJ.out]; exact HY.out))
        have HPre : Hid (endS x < y.frm → ∀ i a b, i + 1 < k + 1 → r[i]? = some a → r[i + 1]? = some b → endS a < b.frm) := fun hn i a b hi ha hb => by
          have hkj := HJ.out
          by_cases e : i = j
          · subst e
            rw [HX.out] at ha
            rw [← hkj, HY.out] at hb
            cases ha; cases hb; exact hn
          · exact hpre.out i a b (by omega) ha hb
        clear hy hx0 hpre hj
        have hltI : ((k : Int) < (r.length : Int)) := by omega
        generalize hE : endS x = E at *
        generalize hF : y.frm = Fy at *
        obtain ⟨x0, x1, x2, x3, x4, x5⟩ := x
        obtain ⟨p0, p1, p2, p3, p4, p5⟩ := hxA
        simp only at p0 p1 p2 p3 p4 p5
        have KC : Hid (∀ wx, Below wr.drew.heap.size wr.drew wx → wx.cell? ⟨g, k * 6 + 3, none⟩ = some (.int .i64 Fy) ∧ wx.cell? ⟨g, j * 6, none⟩ = some (.int .u32 x0) ∧ wx.cell? ⟨g, j * 6 + 1, none⟩ = some (.int .u32 x1) ∧ wx.cell? ⟨g, j * 6 + 2, none⟩ = some (.int .i64 x2) ∧ wx.cell? ⟨g, j * 6 + 3, none⟩ = some (.int .i64 x3) ∧ wx.cell? ⟨g, j * 6 + 4, none⟩ = some (.int .i64 x4) ∧ wx.cell? ⟨g, j * 6 + 5, none⟩ = some (.bool x5)) :=
          fun wx hx => ⟨cell_later (w := wr.drew) hx hy3, cell_later (w := wr.drew) hx p0, cell_later (w := wr.drew) hx p1, cell_later (w := wr.drew) hx p2, cell_later (w := wr.drew) hx p3, cell_later (w := wr.drew) hx p4, cell_later (w := wr.drew) hx p5⟩
        have K1 := KC.out wr.drew (Below.refl _ _)
        clear p0 p1 p2 p3 p4 p5 hy3 hE
        go_wp2_with fail
        go_region_held3 (fun w' => w'.cell? ⟨g, k * 6 + 3, none⟩ = some (.int .i64 Fy) ∧ w'.cell? ⟨g, j * 6, none⟩ = some (.int .u32 x0) ∧ w'.cell? ⟨g, j * 6 + 1, none⟩ = some (.int .u32 x1) ∧ w'.cell? ⟨g, j * 6 + 2, none⟩ = some (.int .i64 x2) ∧ w'.cell? ⟨g, j * 6 + 3, none⟩ = some (.int .i64 x3) ∧ w'.cell? ⟨g, j * 6 + 4, none⟩ = some (.int .i64 x4) ∧ w'.cell? ⟨g, j * 6 + 5, none⟩ = some (.bool x5))
          (first | (with_reducible exact K1) | (with_reducible exact K2))
          (first | (go_at_call 24; refine (HEn _).mono ?_; rintro e w4 ⟨rfl, hB4⟩; have K2 := KC.out _ hB4; have HB4 : Hid (Below wr.drew.heap.size wr.drew w4) := hB4; clear hB4))
        have HRG4 : Hid (KRange 49 plK w4 w.heap.size R l.length f (fun y => left y && !decide (y = (xa, xk))) cnt') := KRange.later (HRGk.out) (below_trans (Below.refl wr.heap.size wr).drew HB4.out)
        have HBk4 : Hid (Below w1.heap.size w1 w4) := HBk.out.trans ((below_trans (Below.refl wr.heap.size wr).drew HB4.out).mono HBk.out.size)
        by_cases hle : E < Fy
        · clear K1 K2 KC
          go_wp2
          go_roundg (r.length - (k + 1))
          case rel => exact ⟨k + 1, by omega, by omega, by go_num, HPre.out hle, HRG4.out, HBk4.out⟩
          case measure => omega
        · have hle' : Fy ≤ E := by omega
          have HA : Hid (apartB l = false) := HSteps.out hle'
          clear K1 K2 KC hle
          go_wp2
          go_ret
          exact ⟨ret_bool HA.out.symm, HB1.out.trans (HBk4.out.mono (by have := HB1.out.size; omega))⟩

end Go.Proofs.Ytkkcpofaiocjpaa
