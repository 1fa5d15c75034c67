/- TraceKept: for all spans and questions the call returns true: an index keeps what it was made of: what becomes of the list behind changes nothing; what it tells is memory of its own. No condition. -/
import Derived.Test.YtkkcpofaiocjpabTraRwho
import Derived.Test.YtkkcpofaiocjpabTraIndex
import Derived.Test.YtkkcpofaiocjpabTraAwake
import Derived.Test.YtkkcpofaiocjpabRows
set_option maxRecDepth 100000
namespace Go.Proofs.Ytkkcpofaiocjpab.traceKept
open Go.ChangeShapes Go.WideShapes Go.ChangeAt Go.RowKit

/-- A list of spans behind none. -/
theorem append_sps (W : World) (v : Value) (B O : Nat) (l : List Sp) (h : Sps W v B O l) (hl : l.length ≤ 1000) :
    ∃ v' w', (Builtin.append_ #[22, 22] 22 #[.slice (some ⟨W.heap.size, 0, none⟩) 0 0, v]).run Try.prog (W.alloc (.cells #[] 32)) = .ok v' w' ∧ SpRow w' W.heap.size v' l ∧ Below W.heap.size W w' := by
  obtain ⟨i0, hi, hz0, hz1, hz2⟩ := info_parts infoSp
  obtain ⟨a, cap, rfl, h2, h3, h4, h5⟩ := h.later (below_alloc W (.cells #[] 32))
  have hown : (W.alloc (.cells #[] 32)).ownsRow W.heap.size 32 6 (.slice (some ⟨W.heap.size, 0, none⟩) 0 0) 0 [] :=
    ⟨rfl, .inr ⟨W.heap.size, 0, #[], rfl, Nat.le_refl _, heap_alloc_new _ _, Nat.le_refl _, by decide, rfl, rfl⟩⟩
  have core : ∀ ad : Addr, (∀ j u, (l.flatMap spC)[j]? = some u → (W.alloc (.cells #[] 32)).cell? (ad.add j) = some u) →
      ∃ v' w', (Builtin.append_ #[22, 22] 22 #[.slice (some ⟨W.heap.size, 0, none⟩) 0 0, .slice (some ad) l.length cap]).run Try.prog (W.alloc (.cells #[] 32)) = .ok v' w' ∧ SpRow w' W.heap.size v' l ∧ Below W.heap.size W w' := by
    intro ad hcs
    obtain ⟨v', w', hr, ho, hg, -⟩ := run_append_own (P := Try.prog) (W.alloc (.cells #[] 32)) W.heap.size 22 22 32 i0 (.agg #[.int .u32 0, .int .u32 0, .int .i64 0, .int .i64 0, .int .i64 0, .bool false]) 6 40 Try.underlying22 hi hz0 hz1 hz2 rfl (by decide) _ 0 [] hown
      ad l.length cap (l.flatMap spC) (flat_length spC_length l) hcs (by
        intro u hu
        obtain ⟨e, _, hu⟩ := List.mem_flatMap.1 hu
        unfold spC at hu
        simp at hu
        rcases hu with rfl | rfl | rfl | rfl | rfl | rfl <;> rfl) (by unfold maxLen; omega) (by omega) (by simp)
    refine ⟨v', w', hr, by simpa using ho, ((Below.refl _ _).alloc (Nat.le_refl _) _).grown hg (by simp) (fun k hk => by simp [Value.ownBlock] at hk; omega)⟩
  rcases h4 with rfl | rfl
  · refine core ⟨B, O, none⟩ fun j u hj => ?_
    have hjl : j < l.length * 6 := by
      have := (List.getElem?_eq_some_iff.1 hj).1
      rwa [flat_length spC_length] at this
    have hi6 : j / 6 < l.length := by omega
    have hg := flat_get spC_length (l := l) (i := j / 6) (j := j % 6) (List.getElem?_eq_getElem hi6) (Nat.mod_lt _ (by decide))
    rw [show j / 6 * 6 + j % 6 = j by omega, hj] at hg
    obtain ⟨e0, e1, e2, e3, e4, e5⟩ := h5 (j / 6) _ (List.getElem?_eq_getElem hi6)
    rw [add_at, show O + j = O + j / 6 * 6 + j % 6 by omega]
    have : j % 6 = 0 ∨ j % 6 = 1 ∨ j % 6 = 2 ∨ j % 6 = 3 ∨ j % 6 = 4 ∨ j % 6 = 5 := by omega
    rcases this with e | e | e | e | e | e <;> rw [e] at hg ⊢ <;> simp [spC] at hg <;> subst hg <;> assumption
  · cases a with
    | some ad => exact core ad (fun j u hj => by simp at hj)
    | none =>
      refine ⟨_, _, ?_, hown, below_alloc _ _⟩
      simp [Builtin.append_, run_underlying Try.underlying22, sizeOf, typeInfo, hi, Builtin.lenOf, Builtin.firstCells, loadCells, storeCells, Result.andThen]

theorem put6_grown (w : World) (g o : Nat) (s : Sp) : w.grownBy (put6 w g o s) (some g) := by
  unfold put6
  exact grown_both (grown_both (grown_both (grown_both (grown_both (grown_set _) (grown_set _)) (grown_set _)) (grown_set _)) (grown_set _)) (grown_set _)

theorem grown_below {w w' w'' : World} (h : Below w.heap.size w w') {row : Option Nat} (hg : w'.grownBy w'' row) (hr : ∀ k, row = some k → w.heap.size ≤ k) : Below w.heap.size w w'' := h.grown hg h.size hr

theorem us_grown {w w' : World} {v : Value} {B O : Nat} {l : List Int} (h : Us w v B O l) {row : Option Nat} (hg : w.grownBy w' row) (hne : l ≠ [] → some B ≠ row) : Us w' v B O l := by
  obtain ⟨a, cap, h1, h2, h3, h4, h5⟩ := h
  exact ⟨a, cap, h1, h2, h3, h4, fun i hi => grown_cell (a := ⟨B, O + i, none⟩) hg (hne (fun e => by rw [e] at hi; simp at hi)) (h5 i hi)⟩

theorem us_block {w : World} {v : Value} {B O : Nat} {l : List Int} (h : Us w v B O l) (hne : l ≠ []) : B < w.heap.size := by
  obtain ⟨a, cap, h1, h2, h3, h4, h5⟩ := h
  exact World.block_lt_of_cell? w ⟨B, O + 0, none⟩ (h5 0 (List.length_pos_iff.2 hne))

set_option maxHeartbeats 4000000 in
theorem walk (v0 v1 : Value) (w : World) (V0 : IsSps w v0) (V1 : IsAsk w v1) :
    Calls Try.prog 3 #[v0, v1] w fun e w' => e = .returned (.bool true) ∧ Below w.heap.size w w' := by
  obtain ⟨B, O, l, hS, hok⟩ := V0
  obtain ⟨a, k, t, rfl, hP, ht0, ht1⟩ := V1
  have HS : Hid (Sps w v0 B O l) := hS
  have HOK : Hid (OkAll l) := hok
  have HT1 : Hid (t ≤ 9223372036854775807) := ht1
  have HPP : Hid (OkP (a, k)) := hP
  obtain ⟨a0, c0, rfl, g1, g2, g3, g4⟩ := hS
  unfold maxLen at g2
  clear hok hP ht0 ht1 g4 g3
  by_cases hbig : 300 < l.length
  · have hI : (300 : Int) < (l.length : Int) := by omega
    go_enter Try.func3, Try.ntmps3
    go_wp2_with (go_at_call 4; refine (awake10_any _).mono ?_; rintro e w1 ⟨rfl, hb1⟩)
    go_ret
    exact ⟨rfl, below_trans (below_alloc _ _) hb1⟩
  have hI : ¬ (300 : Int) < (l.length : Int) := by omega
  have HL : Hid (l.length ≤ 1000) := by show _ ≤ _; omega
  have HRw := fun W (h : Sps W (.slice a0 l.length c0) B O l) => rwho_ok _ B O l a k t W h HL.out
  have d : (w.alloc (.cells #[.int .u32 a, .int .i64 k, .int .i64 t] 25)).cell? ⟨w.heap.size, 0, none⟩ = some (.int .u32 a) ∧ (w.alloc (.cells #[.int .u32 a, .int .i64 k, .int .i64 t] 25)).cell? ⟨w.heap.size, 1, none⟩ = some (.int .i64 k) ∧ (w.alloc (.cells #[.int .u32 a, .int .i64 k, .int .i64 t] 25)).cell? ⟨w.heap.size, 2, none⟩ = some (.int .i64 t) := ⟨by simp, by simp, by simp⟩
  have D : Hid (∀ wx, Below (w.alloc (.cells #[.int .u32 a, .int .i64 k, .int .i64 t] 25)).heap.size (w.alloc (.cells #[.int .u32 a, .int .i64 k, .int .i64 t] 25)) wx → wx.cell? ⟨w.heap.size, 0, none⟩ = some (.int .u32 a) ∧ wx.cell? ⟨w.heap.size, 1, none⟩ = some (.int .i64 k) ∧ wx.cell? ⟨w.heap.size, 2, none⟩ = some (.int .i64 t)) := fun wx hx => ⟨cell_later hx d.1, cell_later hx d.2.1, cell_later hx d.2.2⟩
  clear d
  go_enter Try.func3, Try.ntmps3
  go_wp2_with fail
  refine (awake10_any _).mono ?_
  rintro e w1 ⟨rfl, hb1⟩
  have HX1 : Hid (Below (w.alloc (.cells #[.int .u32 a, .int .i64 k, .int .i64 t] 25)).heap.size (w.alloc (.cells #[.int .u32 a, .int .i64 k, .int .i64 t] 25)) w1) := hb1
  have HY1 : Hid (Below w.heap.size w w1) := below_trans (below_alloc _ _) hb1
  obtain ⟨d0, d1, d2⟩ := D.out w1 HX1.out
  clear hb1
  have HA1 := HRw w1 (HS.out.later HY1.out)
  clear HRw
  go_wp2_with fail
  refine HA1.mono ?_
  rintro e w2 ⟨v2, c, rfl, hu2, hw2, hb2⟩
  obtain ⟨B2, O2, hus2⟩ := hu2.us
  have HU2 : Hid (Us w2 v2 B2 O2 c) := hus2
  have HW2 : Hid (WhoOf l a k t c) := hw2
  have HX2 : Hid (Below (w.alloc (.cells #[.int .u32 a, .int .i64 k, .int .i64 t] 25)).heap.size (w.alloc (.cells #[.int .u32 a, .int .i64 k, .int .i64 t] 25)) w2) := HX1.out.trans (hb2.mono HX1.out.size)
  have HY2 : Hid (Below w.heap.size w w2) := below_trans HY1.out hb2
  clear hu2 hw2 hb2 hus2 HA1 d0 d1 d2
  obtain ⟨mv, w3, hrun3, hr3, hb3⟩ := append_sps w2 (.slice a0 l.length c0) B O l (HS.out.later HY2.out) HL.out
  have HR3 : Hid (SpRow w3 w2.heap.size mv l) := hr3
  have HB3 : Hid (Below w2.heap.size w2 w3) := hb3
  have HX3 : Hid (Below (w.alloc (.cells #[.int .u32 a, .int .i64 k, .int .i64 t] 25)).heap.size (w.alloc (.cells #[.int .u32 a, .int .i64 k, .int .i64 t] 25)) w3) := HX2.out.trans (hb3.mono HX2.out.size)
  obtain ⟨Bm, hsm, -⟩ := spRow_sps hr3
  have HNw := new_ok mv Bm 0 l w3 hsm HOK.out HL.out
  obtain ⟨ma, mc, rfl, hm1, hm2, hm3⟩ := ownsRow_shape hr3
  clear hr3 hb3 hsm
  go_wp2_with (at_builtin; refine wpl_append_run rfl _ _ _ rfl _ _ rfl rfl hrun3 ?_)
  refine HNw.mono ?_
  rintro e w4 ⟨x, mb, f, rfl, hx0, hxc, hix, hb4⟩
  have HXC : Hid (w4.cell? ⟨x, 0, none⟩ = some (.map (some mb))) := hxc
  have HIX : Hid (IndexOf w4 w3.heap.size mb l.length l f) := hix
  have HB4 : Hid (Below w3.heap.size w3 w4) := hb4
  have HR4 : Hid (SpRow w4 w2.heap.size (.slice ma l.length mc) l) := ownsRow_later HR3.out hb4
  have HX4 : Hid (Below (w.alloc (.cells #[.int .u32 a, .int .i64 k, .int .i64 t] 25)).heap.size (w.alloc (.cells #[.int .u32 a, .int .i64 k, .int .i64 t] 25)) w4) := HX3.out.trans (hb4.mono HX3.out.size)
  have HY4 : Hid (Below w.heap.size w w4) := below_trans HY2.out (HB3.out.trans (hb4.mono HB3.out.size))
  have hxs : x < w4.heap.size := World.block_lt_of_cell? w4 ⟨x, 0, none⟩ hxc
  have HSz : Hid (w.heap.size + 1 ≤ w2.heap.size ∧ w2.heap.size ≤ w3.heap.size ∧ w3.heap.size ≤ w4.heap.size ∧ w3.heap.size ≤ x ∧ x < w4.heap.size) := ⟨by have := HX2.out.size; rw [World.size_alloc] at this; exact this, HB3.out.size, hb4.size, hx0, hxs⟩
  have HOwn : Hid (∀ j, (Value.slice ma l.length mc).ownBlock = some j → w2.heap.size ≤ j ∧ j < w3.heap.size) := fun j hj => ownsRow_lt HR3.out hj
  have HU4 : Hid (Us w4 v2 B2 O2 c) := (HU2.out.later HB3.out).later hb4
  have HUB : Hid (c ≠ [] → B2 < w2.heap.size) := fun h => us_block HU2.out h
  clear hx0 hxc hix hb4 hxs HNw
  go_wp2_with fail
  go_loopg [8] l.length (fun gk iv wr => ∃ (i : Nat) (l' : List Sp), i + gk = l.length ∧ iv = .int .i64 (i : Int) ∧ l'.length = l.length ∧ SpRow wr w2.heap.size (.slice ma l.length mc) l' ∧ w4.grownBy wr (Value.slice ma l.length mc).ownBlock)
  case atStart => exact ⟨0, l, by omega, rfl, rfl, HR4.out, ⟨rfl, rfl, rfl, Nat.le_refl _, fun _ _ _ => rfl⟩⟩
  case round =>
    obtain ⟨i, l', hi, rfl, hl', hr, hg⟩ := hrel
    have hne0 : ∀ j, j < w2.heap.size ∨ w3.heap.size ≤ j → some j ≠ (Value.slice ma l.length mc).ownBlock := fun j hj e => by have := HOwn.out j e.symm; omega
    by_cases hlt : i < l.length
    · have hltI : (i : Int) < (l.length : Int) := by omega
      obtain ⟨gm, rfl⟩ : ∃ gm, ma = some ⟨gm, 0, none⟩ := by
        rcases hm3 with h0 | h0
        · omega
        · exact h0
      have hr' := hr
      unfold SpRow at hr'
      rw [hl'] at hr'
      obtain ⟨q0, q1, q2, q3, q4, q5⟩ := spRow_at hr' hl' (List.getElem?_eq_getElem (by omega : i < l'.length))
      have hf0 := fun j => ownsRow_frozen hr' j
      obtain ⟨d0, d1, d2⟩ := D.out w4 HX4.out
      have hwne : some w.heap.size ≠ (Value.slice (some ⟨gm, 0, none⟩) l.length mc).ownBlock := hne0 _ (.inl (by have := HSz.out; omega))
      have d0 := grown_cell hg hwne d0
      have d1 := grown_cell hg hwne d1
      have d2 := grown_cell hg hwne d2
      have HR' : Hid (wr.ownsRow w2.heap.size 32 6 (.slice (some ⟨gm, 0, none⟩) l.length mc) l.length (l'.flatMap spC)) := hr'
      have HG : Hid (w4.grownBy wr (some gm)) := hg
      clear hr hr' hg hne0 hwne HR4
      go_wp2
      go_roundg (l.length - (i + 1))
      case rel =>
        refine ⟨i + 1, l'.set i ⟨99, a, k, t, t, false⟩, by omega, by go_num, by rw [List.length_set]; exact hl', ?_, ?_⟩
        · show (put6 wr gm (i * 6) ⟨99, a, k, t, t, false⟩).ownsRow _ _ _ _ (l'.set i ⟨99, a, k, t, t, false⟩).length _
          rw [List.length_set, hl']
          exact put6_row HR'.out (by omega) _
        · exact HG.out.andThen (put6_grown wr gm (i * 6) ⟨99, a, k, t, t, false⟩) (fun j e => .inr e)
      case measure => omega
    · have hie : i = l.length := by omega
      have hge : ¬ ((i : Int) < (l.length : Int)) := by omega
      obtain ⟨W5, rfl⟩ : ∃ W5, W5 = wr := ⟨_, rfl⟩
      have hIx5 := HIX.out.same hg.size (fun j h1 h2 => hg.block j h2 (hne0 j (.inr h1)))
      have hxc5 := grown_cell (a := ⟨x, 0, none⟩) hg (hne0 x (.inr HSz.out.2.2.2.1)) HXC.out
      have HA5 := iwho_ok W5 x w3.heap.size mb l.length l f a k t hxc5 hIx5 HPP.out HT1.out
      obtain ⟨d0, d1, d2⟩ := D.out w4 HX4.out
      have hwne : some w.heap.size ≠ (Value.slice ma l.length mc).ownBlock := hne0 _ (.inl (by have := HSz.out; omega))
      have d0 := grown_cell hg hwne d0
      have d1 := grown_cell hg hwne d1
      have d2 := grown_cell hg hwne d2
      have HD5 : Hid (W5.cell? ⟨w.heap.size, 0, none⟩ = some (.int .u32 a) ∧ W5.cell? ⟨w.heap.size, 1, none⟩ = some (.int .i64 k) ∧ W5.cell? ⟨w.heap.size, 2, none⟩ = some (.int .i64 t)) := ⟨d0, d1, d2⟩
      have HIX5 : Hid (IndexOf W5 w3.heap.size mb l.length l f) := hIx5
      have HXC5 : Hid (W5.cell? ⟨x, 0, none⟩ = some (.map (some mb))) := hxc5
      have HU5 : Hid (Us W5 v2 B2 O2 c) := us_grown HU4.out hg (fun h => hne0 _ (.inl (HUB.out h)))
      have HY5 : Hid (Below w.heap.size w W5) := grown_below HY4.out hg (fun j hj => by have := HOwn.out j hj; have := HSz.out; omega)
      have HSz5 : Hid (w.heap.size + 1 ≤ W5.heap.size ∧ x < W5.heap.size ∧ w2.heap.size ≤ W5.heap.size) := ⟨by have := HSz.out; have := hg.size; omega, by have := HSz.out; have := hg.size; omega, by have := HSz.out; have := hg.size; omega⟩
      clear hIx5 hxc5 hg hr hwne hne0 hl' hlt HIX HXC HR4
      go_wp2_with fail
      refine HA5.mono ?_
      rintro e w6 ⟨v6, c6, rfl, hw6, hu6, hb6⟩
      obtain ⟨ba, bc, rfl, hn1, hn2, hn3⟩ := ownsRow_shape hu6
      have HB6 : Hid (Below W5.heap.size W5 w6) := hb6
      have HR6 : Hid (URow w6 W5.heap.size (.slice ba c6.length bc) c6) := hu6
      have HOwn6 : Hid (∀ j, (Value.slice ba c6.length bc).ownBlock = some j → W5.heap.size ≤ j) := fun j hj => (ownsRow_lt hu6 hj).1
      clear hw6 hu6 hb6 HA5 d0 d1 d2
      unfold maxLen at hn2
      go_wp2_with fail
      go_loopg [10] c6.length (fun gk iv wr => ∃ (i : Nat) (r' : List Int), i + gk = c6.length ∧ iv = .int .i64 (i : Int) ∧ r'.length = c6.length ∧ URow wr W5.heap.size (.slice ba c6.length bc) r' ∧ w6.grownBy wr (Value.slice ba c6.length bc).ownBlock)
      case atStart => exact ⟨0, c6, by omega, rfl, rfl, HR6.out, ⟨rfl, rfl, rfl, Nat.le_refl _, fun _ _ _ => rfl⟩⟩
      case round =>
        obtain ⟨i2, r', hi2, rfl, hr', hrr, hg2⟩ := hrel
        by_cases hlt : i2 < c6.length
        · have hltI : (i2 : Int) < (c6.length : Int) := by omega
          obtain ⟨gb, rfl⟩ : ∃ gb, ba = some ⟨gb, 0, none⟩ := by
            rcases hn3 with h0 | h0
            · omega
            · exact h0
          have hq := hrr
          unfold URow at hq
          rw [hr'] at hq
          have q0 : wr.cell? ⟨gb, i2, none⟩ = some (.int .u32 (r'.getD i2 0)) := by
            rw [ownsRow_cell hq i2 (by omega)]
            simp [List.getD, List.getElem?_eq_getElem (by omega : i2 < r'.length)]
          have hf0 := ownsRow_frozen hq i2
          have HQ : Hid (wr.ownsRow W5.heap.size 23 1 (.slice (some ⟨gb, 0, none⟩) c6.length bc) c6.length (r'.map (Value.int .u32))) := hq
          have HG2 : Hid (w6.grownBy wr (some gb)) := hg2
          clear hrr hq hg2
          go_wp2
          go_roundg (c6.length - (i2 + 1))
          case rel =>
            refine ⟨i2 + 1, r'.set i2 98, by omega, by go_num, by rw [List.length_set]; exact hr', ?_, ?_⟩
            · unfold URow
              rw [List.length_set, hr', List.map_set]
              exact ownsRow_set HQ.out i2 (.int .u32 98)
            · exact HG2.out.andThen ⟨rfl, rfl, rfl, by simp [World.setCell], fun j _ hne => heap_setCell_other wr ⟨gb, i2, none⟩ j _ (fun e => hne (by rw [e]))⟩ (fun j e => .inr e)
          case measure => omega
        · have hie2 : i2 = c6.length := by omega
          have hge2 : ¬ ((i2 : Int) < (c6.length : Int)) := by omega
          obtain ⟨W7, rfl⟩ : ∃ W7, W7 = wr := ⟨_, rfl⟩
          have hne6 : ∀ j, j < W5.heap.size → some j ≠ (Value.slice ba c6.length bc).ownBlock := fun j hj e => by have := HOwn6.out j e.symm; omega
          have hs6 := HB6.out.size
          have hIx7 := HIX5.out.same (Nat.le_trans hs6 hg2.size) (fun j h1 h2 => (hg2.block j (by omega) (hne6 j h2)).trans (HB6.out.block j h2))
          have hxc7 := grown_cell (a := ⟨x, 0, none⟩) hg2 (hne6 x HSz5.out.2.1) (cell_later HB6.out HXC5.out)
          have HA7 := iwho_ok W7 x w3.heap.size mb l.length l f a k t hxc7 hIx7 HPP.out HT1.out
          have d0 := grown_cell hg2 (hne6 w.heap.size HSz5.out.1) (cell_later HB6.out HD5.out.1)
          have d1 := grown_cell hg2 (hne6 w.heap.size HSz5.out.1) (cell_later HB6.out HD5.out.2.1)
          have d2 := grown_cell hg2 (hne6 w.heap.size HSz5.out.1) (cell_later HB6.out HD5.out.2.2)
          have HU7 : Hid (Us W7 v2 B2 O2 c) := us_grown (HU5.out.later HB6.out) hg2 (fun h => hne6 _ (by have := HUB.out h; have := HSz5.out; omega))
          have HY7 : Hid (Below w.heap.size w W7) := grown_below (below_trans HY5.out HB6.out) hg2 (fun j hj => by have := HOwn6.out j hj; have := HSz5.out; omega)
          clear hIx7 hxc7 hg2 hrr hne6 hr' hlt hs6
          go_wp2_with fail
          refine HA7.mono ?_
          rintro e w8 ⟨v8, c8, rfl, hw8, hu8, hb8⟩
          obtain rfl : c8 = c := hw8.one HW2.out
          obtain ⟨B8, hus8⟩ := uRow_us hu8
          have HM8 := subs_ok w8 v8 v2 B8 0 B2 O2 c8 hus8 (HU7.out.later hb8)
          have HY8 : Hid (Below w.heap.size w w8) := below_trans HY7.out hb8
          clear hw8 hu8 hus8 hb8 HA7 d0 d1 d2
          go_wp2_with fail
          refine (by exact HM8 : Calls _ _ _ _ _).mono ?_
          rintro e w9 ⟨rfl, nq2, rfl⟩
          go_wp2
          go_ret
          exact ⟨rfl, below_trans HY8.out (below_drewN10 _ _)⟩

set_option maxRecDepth 100000 in
theorem lifted (os : Os) (started : os.Started) (H : Type) (enc : TypeId × Value → H) :
    ReturnsInHanded {} Try.checked os 3 .any (Rows.traceKeptSpec.pre6 enc Try.prog Try.f3 Rows.traceKeptRow.domain false) (Rows.traceKeptSpec.post enc Try.prog Try.f3 false true false false) := by
  refine returnsInHanded_of_change_sized (C := Try.checked) own started (by kernel_rfl) Try.func3
    (ChangeSpec.witness6 (enc := enc) (C := Try.checked) false ⟨#[], #[.slice none 0 0, .agg #[.int .u32 0, .int .i64 0, .int .i64 0]], []⟩ 8 (by kernel_rfl) (by kernel_rfl) (by kernel_rfl) (by kernel_rfl)) ?_
  intro W base args ds gs before hval0 hW hcnd hsz0 _
  have hval : ∀ (j : Nat) t v, Try.f3.params[j]? = some t → args[j]? = some v → Value.okWide Try.prog W .any base t v := hval0
  have hsz : ∀ n ∈ DataW.weightsEach Try.prog (Try.f3.params.toList ++ Rows.traceKeptSpec.plain.varTypes Try.prog) (ds ++ gs), n ≤ reachBytes := fun n hn => by simpa using List.all_eq_true.1 hsz0 n hn
  have hW' := hW
  obtain ⟨p, q, hA0, hV, rfl, hfz, hnd⟩ := hW
  have hA : DataW.TrodAll enc Try.prog W 0 (fun _ => true) true Try.f3.params.toList args.toList ds p := hA0
  rw [Try.params3] at hA hval hsz
  obtain ⟨v0, vs0, d0, ds0, p0, q0, hargs, rfl, rfl, h0, r0⟩ := trodAll_cons hA
  obtain ⟨v1, vs1, d1, ds1, p1, q1, rfl, rfl, rfl, h1, r1⟩ := trodAll_cons r0
  obtain ⟨rfl, rfl, rfl⟩ := trodAll_nil r1
  obtain rfl : args = #[v0, v1] := by cases args; simp_all
  obtain ⟨rfl, rfl⟩ := trodVars_none hV
  have lt0 : ∀ x ∈ p0, x.block < W.heap.size := by obtain ⟨m, hm⟩ := h0; exact DataW.trod_lt m _ _ _ hm
  have V0 := viewSps (hval 0 22 v0 rfl rfl) h0 (fun n hn => hsz n (DataW.weights_mem_each (j := 0) rfl rfl n hn))
  have lt1 : ∀ x ∈ p1, x.block < W.heap.size := by obtain ⟨m, hm⟩ := h1; exact DataW.trod_lt m _ _ _ hm
  have V1 := viewAsk (hval 1 25 v1 rfl rfl) h1 (fun n hn => hsz n (DataW.weights_mem_each (j := 1) rfl rfl n hn))
  clear hA0 hval0 hsz0 hsz
  refine (walk v0 v1 W V0 V1).mono fun e W' ⟨he, bel⟩ => ?_
  subst he
  exact ⟨_, rfl, _, _, _, [], _, [], hW', trodAll_mk1 (shut_bool Try.underlying4 _), (trodAll_cons_mk (Below.trod laidOut (by kernel_rfl) (of_decide_eq_true (by kernel_rfl)) h0 bel lt0) (trodAll_cons_mk (Below.trod laidOut (by kernel_rfl) (of_decide_eq_true (by kernel_rfl)) h1 bel lt1) trodAll_mk0)), rfl, bel.frame _, fun h => by cases h⟩

theorem over : Rows.traceKeptRow.holds Try.pinned (OpenSpec.ofChange Rows.traceKeptSpec) :=
  OpenClaim.holds_of_wide 3 Try.f3 rfl rfl rfl rfl rfl rfl rfl ⟨rfl, rfl, rfl, rfl, rfl⟩ rfl rfl rfl rfl rfl (by kernel_rfl) Try.func3 (by kernel_rfl)
    (of_decide_eq_true (by kernel_rfl)) (by unfold Func.isWrapper; first | (rw [if_pos (by decide +kernel)]; kernel_rfl) | (rw [if_neg (by decide +kernel)]; exact ⟨rfl, rfl⟩))
    (fun os started H enc _ => lifted os started H enc)

end Go.Proofs.Ytkkcpofaiocjpab.traceKept
namespace Go.Proofs.Ytkkcpofaiocjpab
theorem traceKept_holds : Rows.TraceKeptSaid := traceKept.over
#print axioms traceKept_holds
end Go.Proofs.Ytkkcpofaiocjpab
