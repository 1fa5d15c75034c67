/- The document's Apart: of any spans. -/
import Derived.Test.YtkkcpofaiocjpaaTraMeet
set_option maxRecDepth 100000
namespace Go.Proofs.Ytkkcpofaiocjpaa
open Go.RowKit Go.Maps Go.Shelf Go.Sort

/-- No pair ahead of a place meets. -/
def Clear (l : List Sp) (i : Nat) : Prop := ∀ p q x y, p < q → q < i → l[p]? = some x → l[q]? = some y → clash y x = false

theorem clear_apart {l : List Sp} (h : Clear l l.length) : Apart l := by
  unfold Apart
  rw [List.pairwise_iff_getElem]
  intro i j hi hj hij
  rw [clash_comm]
  exact h i j _ _ hij hj (List.getElem?_eq_getElem hi) (List.getElem?_eq_getElem hj)

theorem apart_pair {l : List Sp} (h : Apart l) {p q : Nat} {x y : Sp} (hpq : p < q) (hx : l[p]? = some x) (hy : l[q]? = some y) : clash y x = false := by
  obtain ⟨h1, e1⟩ := List.getElem?_eq_some_iff.1 hx
  obtain ⟨h2, e2⟩ := List.getElem?_eq_some_iff.1 hy
  have := List.pairwise_iff_getElem.1 h p q h1 h2 hpq
  rw [e1, e2] at this
  rw [clash_comm]; exact this

set_option maxHeartbeats 8000000 in
theorem rapart_ok (v : Value) (B O : Nat) (l : List Sp) (w : World) (h : Sps w v B O l) (hl : l.length ≤ 1000) :
    Calls Try.prog 21 #[v] w fun e w' => e = .returned (.bool (apartB l)) ∧ Below w.heap.size w w' := by
  obtain ⟨ad, cap, rfl, h2, h3, h4, h5⟩ := h
  have H5 : Hid (∀ i s, l[i]? = some s → SpAt w B (O + i * 6) s) := h5
  unfold maxLen at h3
  clear h5
  go_enter Try.func21, Try.ntmps21
  go_wp2
  go_loopg [3] l.length (fun gk iv wr => ∃ (i : Nat), i + gk = l.length ∧ iv = .int .i64 (i : Int) ∧ Hid (Clear l i) ∧ Below w.heap.size w wr)
  case atStart => exact ⟨0, by omega, rfl, fun p q x y _ hq => by omega, Below.refl _ _⟩
  case round =>
    obtain ⟨i, hi, rfl, hcl, hbel⟩ := hrel
    have HB : Hid (Below w.heap.size w wr) := hbel
    clear hbel
    by_cases hlt : i < l.length
    case neg =>
      have hie : i = l.length := by omega
      subst hie
      have HA : Hid (apartB l = true) := apartB_true (clear_apart hcl.out)
      clear hcl hlt
      go_wp2
      go_ret
      exact ⟨ret_bool HA.out.symm, HB.out⟩
    obtain ⟨x, hx⟩ : ∃ x, l[i]? = some x := ⟨_, List.getElem?_eq_getElem hlt⟩
    obtain rfl : ad = some ⟨B, O, none⟩ := by
      rcases h4 with h4 | h4
      · exact h4
      · subst h4; simp at hlt
    have HX : Hid (l[i]? = some x) := hx
    have hiI : (i : Int) < (l.length : Int) := by omega
    clear hx hlt
    go_wp2
    go_loopg [4] i (fun gk kv wr => ∃ (k : Nat), k + gk = i ∧ kv = .int .i64 (k : Int) ∧ Hid (∀ p y, p < k → l[p]? = some y → clash x y = false) ∧ Below w.heap.size w wr)
    case atStart => exact ⟨0, by omega, rfl, fun p y hp => by omega, HB.out⟩
    case round =>
      obtain ⟨k, hk, rfl, hpre, hbel⟩ := hrel
      have HBr : Hid (Below w.heap.size w wr) := hbel
      clear HB
      by_cases hlt : k < i
      case neg =>
        have hke : k = i := by omega
        have hge : ¬ ((k : Int) < (i : Int)) := by omega
        have HC : Hid (Clear l (i + 1)) := fun p q a b hpq hq ha hb => by
          by_cases e : q = i
          · subst e
            rw [HX.out] at hb
            cases hb
            exact hpre.out p a (by omega) ha
          · exact hcl.out p q a b hpq (by omega) ha hb
        clear hpre hlt hcl
        go_wp2
        go_roundg (l.length - (i + 1))
        case rel => exact ⟨i + 1, by omega, by go_num, HC, HBr.out⟩
        case measure => omega
      have hki : (k : Int) < (i : Int) := by omega
      have hkl : (k : Int) < (l.length : Int) := by omega
      obtain ⟨y, hy⟩ : ∃ y, l[k]? = some y := ⟨_, List.getElem?_eq_getElem (by omega)⟩
      obtain ⟨p0, p1, p2, p3, p4, p5⟩ := spAt_later (H5.out i x HX.out) hbel
      obtain ⟨q0, q1, q2, q3, q4, q5⟩ := spAt_later (H5.out k y hy) hbel
      have HY : Hid (l[k]? = some y) := hy
      have HM := fun W' => meet_any x y W'
      have HClash : Hid (clash x y = (decide (x.addr = y.addr) && decide (x.block = y.block) && meetB x y)) := rfl
      have HNo : Hid (clash x y = true → apartB l = false) := fun hc => apartB_false fun ha => by
        have := apart_pair ha (by omega : k < i) HY.out HX.out
        rw [hc] at this; cases this
      have HNx : Hid (clash x y = false → ∀ p z, p < k + 1 → l[p]? = some z → clash x z = false) := fun hc p z hp hz => by
        by_cases e : p = k
        · subst e
          rw [HY.out] at hz
          cases hz; exact hc
        · exact hpre.out p z (by omega) hz
      obtain ⟨x0, x1, x2, x3, x4, x5⟩ := x
      obtain ⟨y0, y1, y2, y3, y4, y5⟩ := y
      simp only at p0 p1 p2 p3 p4 p5 q0 q1 q2 q3 q4 q5
      have KC : Hid (∀ wx, Below wr.drew.heap.size wr.drew wx → wx.cell? ⟨B, O + i * 6, none⟩ = some (.int .u32 x0) ∧ wx.cell? ⟨B, O + i * 6 + 1, none⟩ = some (.int .u32 x1) ∧ wx.cell? ⟨B, O + i * 6 + 2, none⟩ = some (.int .i64 x2) ∧ wx.cell? ⟨B, O + i * 6 + 3, none⟩ = some (.int .i64 x3) ∧ wx.cell? ⟨B, O + i * 6 + 4, none⟩ = some (.int .i64 x4) ∧ wx.cell? ⟨B, O + i * 6 + 5, none⟩ = some (.bool x5) ∧ wx.cell? ⟨B, O + k * 6, none⟩ = some (.int .u32 y0) ∧ wx.cell? ⟨B, O + k * 6 + 1, none⟩ = some (.int .u32 y1) ∧ wx.cell? ⟨B, O + k * 6 + 2, none⟩ = some (.int .i64 y2) ∧ wx.cell? ⟨B, O + k * 6 + 3, none⟩ = some (.int .i64 y3) ∧ wx.cell? ⟨B, O + k * 6 + 4, none⟩ = some (.int .i64 y4) ∧ wx.cell? ⟨B, O + k * 6 + 5, none⟩ = some (.bool y5)) :=
        fun wx hx => ⟨cell_later (w := wr.drew) hx p0, cell_later (w := wr.drew) hx p1, cell_later (w := wr.drew) hx p2, cell_later (w := wr.drew) hx p3, cell_later (w := wr.drew) hx p4, cell_later (w := wr.drew) hx p5, cell_later (w := wr.drew) hx q0, cell_later (w := wr.drew) hx q1, cell_later (w := wr.drew) hx q2, cell_later (w := wr.drew) hx q3, cell_later (w := wr.drew) hx q4, cell_later (w := wr.drew) hx q5⟩
      have K1 := KC.out wr.drew (Below.refl _ _)
      clear hpre hbel hlt hy
      by_cases ha : x1 = y1
      case neg =>
        have HC : Hid (clash ⟨x0, x1, x2, x3, x4, x5⟩ ⟨y0, y1, y2, y3, y4, y5⟩ = false) := by show _ = _; rw [HClash.out]; simp [ha]
        have ha' : (x1 == y1) = false := by simp [ha]
        clear K1 KC HM
        go_wp2_with fail
        go_quiet (fail)
        rename Nat => nq
        go_wp2
        go_roundg (i - (k + 1))
        case rel => exact ⟨k + 1, by omega, by go_num, HNx.out HC.out, HBr.out.trans ((below_drewN10 wr nq).mono HBr.out.size)⟩
        case measure => omega
      subst ha
      by_cases hbk : x2 = y2
      case neg =>
        have HC : Hid (clash ⟨x0, x1, x2, x3, x4, x5⟩ ⟨y0, x1, y2, y3, y4, y5⟩ = false) := by show _ = _; rw [HClash.out]; simp [hbk]
        have hbk' : (x2 == y2) = false := by simp [hbk]
        clear K1 KC HM
        go_wp2_with fail
        go_quiet (fail)
        rename Nat => nq
        go_wp2
        go_roundg (i - (k + 1))
        case rel => exact ⟨k + 1, by omega, by go_num, HNx.out HC.out, HBr.out.trans ((below_drewN10 wr nq).mono HBr.out.size)⟩
        case measure => omega
      subst hbk
      have HC : Hid (clash ⟨x0, x1, x2, x3, x4, x5⟩ ⟨y0, x1, x2, y3, y4, y5⟩ = meetB ⟨x0, x1, x2, x3, x4, x5⟩ ⟨y0, x1, x2, y3, y4, y5⟩) := by show _ = _; rw [HClash.out]; simp
      generalize hmm : meetB ⟨x0, x1, x2, x3, x4, x5⟩ ⟨y0, x1, x2, y3, y4, y5⟩ = mb at *
      clear hmm
      have p0g : ∀ n os, (grow (wr.drewN n) os).cell? ⟨B, O + i * 6, none⟩ = some (.int .u32 x0) := cell_grown (by exact World.block_lt_of_cell? wr _ p0) p0
      have p1g : ∀ n os, (grow (wr.drewN n) os).cell? ⟨B, O + i * 6 + 1, none⟩ = some (.int .u32 x1) := cell_grown (by exact World.block_lt_of_cell? wr _ p1) p1
      have p2g : ∀ n os, (grow (wr.drewN n) os).cell? ⟨B, O + i * 6 + 2, none⟩ = some (.int .i64 x2) := cell_grown (by exact World.block_lt_of_cell? wr _ p2) p2
      have p3g : ∀ n os, (grow (wr.drewN n) os).cell? ⟨B, O + i * 6 + 3, none⟩ = some (.int .i64 x3) := cell_grown (by exact World.block_lt_of_cell? wr _ p3) p3
      have p4g : ∀ n os, (grow (wr.drewN n) os).cell? ⟨B, O + i * 6 + 4, none⟩ = some (.int .i64 x4) := cell_grown (by exact World.block_lt_of_cell? wr _ p4) p4
      have p5g : ∀ n os, (grow (wr.drewN n) os).cell? ⟨B, O + i * 6 + 5, none⟩ = some (.bool x5) := cell_grown (by exact World.block_lt_of_cell? wr _ p5) p5
      have q0g : ∀ n os, (grow (wr.drewN n) os).cell? ⟨B, O + k * 6, none⟩ = some (.int .u32 y0) := cell_grown (by exact World.block_lt_of_cell? wr _ q0) q0
      have q1g : ∀ n os, (grow (wr.drewN n) os).cell? ⟨B, O + k * 6 + 1, none⟩ = some (.int .u32 x1) := cell_grown (by exact World.block_lt_of_cell? wr _ q1) q1
      have q2g : ∀ n os, (grow (wr.drewN n) os).cell? ⟨B, O + k * 6 + 2, none⟩ = some (.int .i64 x2) := cell_grown (by exact World.block_lt_of_cell? wr _ q2) q2
      have q3g : ∀ n os, (grow (wr.drewN n) os).cell? ⟨B, O + k * 6 + 3, none⟩ = some (.int .i64 y3) := cell_grown (by exact World.block_lt_of_cell? wr _ q3) q3
      have q4g : ∀ n os, (grow (wr.drewN n) os).cell? ⟨B, O + k * 6 + 4, none⟩ = some (.int .i64 y4) := cell_grown (by exact World.block_lt_of_cell? wr _ q4) q4
      have q5g : ∀ n os, (grow (wr.drewN n) os).cell? ⟨B, O + k * 6 + 5, none⟩ = some (.bool y5) := cell_grown (by exact World.block_lt_of_cell? wr _ q5) q5
      have HMg : ∀ n os, Calls Try.prog 34 #[.agg #[.int .u32 x0, .int .u32 x1, .int .i64 x2, .int .i64 x3, .int .i64 x4, .bool x5], .agg #[.int .u32 y0, .int .u32 x1, .int .i64 x2, .int .i64 y3, .int .i64 y4, .bool y5]] (grow (wr.drewN n) os) fun e w' => e = .returned (.bool mb) ∧ ∃ q os', w' = grow ((grow (wr.drewN n) os).drewN q) os' := fun n os => HM _
      have mixed := mixedT
      clear p0 p1 p2 p3 p4 p5 q0 q1 q2 q3 q4 q5 K1 KC HM
      go_wp2_with fail
      go_quiet_grown (first | (go_at_call 34; refine Calls.grown_of (HMg _ _)))
      have HBn : Hid (Below w.heap.size w (grow (wr.drewN nq) osq)) := HBr.out.trans ((below_grow wr nq osq).mono HBr.out.size)
      obtain ⟨w4, hw4⟩ : ∃ w4, w4 = grow (wr.drewN nq) osq := ⟨_, rfl⟩
      rw [← hw4] at HBn ⊢
      clear hw4 p0g p1g p2g p3g p4g p5g q0g q1g q2g q3g q4g q5g HMg
      cases mb
      · go_wp2
        go_roundg (i - (k + 1))
        case rel => exact ⟨k + 1, by omega, by go_num, HNx.out HC.out, HBn.out⟩
        case measure => omega
      · have HA : Hid (apartB l = false) := HNo.out HC.out
        go_wp2
        go_ret
        exact ⟨ret_bool HA.out.symm, HBn.out⟩

end Go.Proofs.Ytkkcpofaiocjpaa
