/- TraceLater: entries behind change nothing of who had a block. The walk, over what the sort does. -/
import Derived.Test.YtkkcpofaiocjpaaTraTurns
import Derived.Test.YtkkcpofaiocjpaaTraWho
set_option maxRecDepth 100000
namespace Go.Proofs.Ytkkcpofaiocjpaa
open Go.ChangeShapes Go.WideShapes Go.ChangeAt Go.RowKit

/-- An entry no earlier than a time. -/
def bump (t : Int) (e : En) : En := ⟨e.kind, max e.time (t + 1), e.sub, e.addr, e.block⟩

theorem bump_ok {t : Int} (h1 : t ≤ 4611686018427387904) {e : En} (he : e.Ok) : (bump t e).Ok :=
  ⟨he.kind0, he.kind1, by show _ ≤ max _ _; have := he.time0; omega, by show max _ _ ≤ _; have := he.time1; omega, he.sub0, he.sub1, he.addr0, he.addr1, he.block0, he.block1⟩

theorem later_who {l more : List En} {a k t : Int} {c c' : List Int} (h0 : -9223372036854775808 ≤ t) (h : WhoOf (spans l) a k t c) (h' : WhoOf (spans (l ++ more.map (bump t))) a k t c') : c' = c := by
  have hs : subsAt (spans (l ++ more.map (bump t))) a k t = subsAt (spans l) a k t := subsAt_more (fun e he => by
    obtain ⟨x, _, rfl⟩ := List.mem_map.1 he
    show t + 1 ≤ max _ _
    omega) h0
  refine rising_unique h'.up h.up fun x => ?_
  rw [h'.mem, h.mem, hs]

/-- A list of entries behind none. -/
theorem append_ens (W : World) (v : Value) (B O : Nat) (l : List En) (h : Ens W v B O l) (hl : l.length ≤ 1000) :
    ∃ v' w', (Builtin.append_ #[25, 25] 25 #[.slice (some ⟨W.heap.size, 0, none⟩) 0 0, v]).run Try.prog (W.alloc (.cells #[] 41)) = .ok v' w' ∧ EnRow w' W.heap.size v' l ∧ Below W.heap.size W w' := by
  obtain ⟨i0, hi, hz0, hz1, hz2⟩ := info_parts infoEn
  obtain ⟨a, cap, rfl, h2, h3, h4, h5⟩ := h.later (below_alloc W (.cells #[] 41))
  have hown : (W.alloc (.cells #[] 41)).ownsRow W.heap.size 41 5 (.slice (some ⟨W.heap.size, 0, none⟩) 0 0) 0 [] :=
    ⟨rfl, .inr ⟨W.heap.size, 0, #[], rfl, Nat.le_refl _, heap_alloc_new _ _, Nat.le_refl _, by decide, rfl, rfl⟩⟩
  have core : ∀ ad : Addr, (∀ j u, (l.flatMap enL)[j]? = some u → (W.alloc (.cells #[] 41)).cell? (ad.add j) = some u) →
      ∃ v' w', (Builtin.append_ #[25, 25] 25 #[.slice (some ⟨W.heap.size, 0, none⟩) 0 0, .slice (some ad) l.length cap]).run Try.prog (W.alloc (.cells #[] 41)) = .ok v' w' ∧ EnRow w' W.heap.size v' l ∧ Below W.heap.size W w' := by
    intro ad hcs
    obtain ⟨v', w', hr, ho, hg, -⟩ := run_append_own (P := Try.prog) (W.alloc (.cells #[] 41)) W.heap.size 25 25 41 i0 (.agg #[.int .i64 0, .int .i64 0, .int .u32 0, .int .u32 0, .int .i64 0]) 5 32 Try.underlying25 hi hz0 hz1 hz2 rfl (by decide) _ 0 [] hown
      ad l.length cap (l.flatMap enL) (flat_length enL_length l) hcs (by
        intro u hu
        obtain ⟨e, _, hu⟩ := List.mem_flatMap.1 hu
        unfold enL at hu
        simp at hu
        rcases hu with rfl | rfl | rfl | rfl | rfl <;> rfl) (by unfold maxLen; omega) (by omega) (by simp)
    refine ⟨v', w', hr, by simpa using ho, ((Below.refl _ _).alloc (Nat.le_refl _) _).grown hg (by simp) (fun k hk => by simp [Value.ownBlock] at hk; omega)⟩
  rcases h4 with rfl | rfl
  · refine core ⟨B, O, none⟩ fun j u hj => ?_
    have hjl : j < l.length * 5 := by
      have := (List.getElem?_eq_some_iff.1 hj).1
      rwa [flat_length enL_length] at this
    have hi5 : j / 5 < l.length := by omega
    have hg := flat_get enL_length (l := l) (i := j / 5) (j := j % 5) (List.getElem?_eq_getElem hi5) (Nat.mod_lt _ (by decide))
    rw [show j / 5 * 5 + j % 5 = j by omega, hj] at hg
    obtain ⟨e0, e1, e2, e3, e4⟩ := h5 (j / 5) _ (List.getElem?_eq_getElem hi5)
    rw [add_at, show O + j = O + j / 5 * 5 + j % 5 by omega]
    have : j % 5 = 0 ∨ j % 5 = 1 ∨ j % 5 = 2 ∨ j % 5 = 3 ∨ j % 5 = 4 := by omega
    rcases this with e | e | e | e | e <;> rw [e] at hg ⊢ <;> simp [enL] at hg <;> subst hg <;> assumption
  · cases a with
    | some ad => exact core ad (fun j u hj => by simp at hj)
    | none =>
      refine ⟨_, _, ?_, hown, below_alloc _ _⟩
      simp [Builtin.append_, run_underlying Try.underlying25, sizeOf, typeInfo, hi, Builtin.lenOf, Builtin.firstCells, loadCells, storeCells, Result.andThen]

set_option maxHeartbeats 8000000 in
theorem later_walk (HSo : SortU 1000) (v0 v1 v2 : Value) (w : World) (V0 : IsEns w v0) (V1 : IsEns w v1) (V2 : IsAsk w v2) :
    Calls Try.prog 7 #[v0, v1, v2] w fun e w' => e = .returned (.bool true) ∧ Below w.heap.size w w' := by
  obtain ⟨B, O, l, hE, hok⟩ := V0
  obtain ⟨B', O', m, hE', hok'⟩ := V1
  obtain ⟨a, k, t, rfl, hP, ht0, ht1⟩ := V2
  have HE : Hid (Ens w v0 B O l) := hE
  have HE' : Hid (Ens w v1 B' O' m) := hE'
  have HOK : Hid (∀ e ∈ l, e.Ok) := hok
  have HOK' : Hid (∀ e ∈ m, e.Ok) := hok'
  have HS : Hid (SortU 1000) := HSo
  have HT0 : Hid (-9223372036854775808 ≤ t) := ht0
  have D : Hid (∀ wx, Below (w.alloc (.cells #[.int .u32 a, .int .i64 k, .int .i64 t] 35)).heap.size (w.alloc (.cells #[.int .u32 a, .int .i64 k, .int .i64 t] 35)) wx → wx.cell? ⟨w.heap.size, 0, none⟩ = some (.int .u32 a) ∧ wx.cell? ⟨w.heap.size, 1, none⟩ = some (.int .i64 k) ∧ wx.cell? ⟨w.heap.size, 2, none⟩ = some (.int .i64 t)) := fun wx hx => ⟨cell_later hx (by simp), cell_later hx (by simp), cell_later hx (by simp)⟩
  obtain ⟨a0, c0, rfl, g1, g2, g3, g4⟩ := hE
  obtain ⟨a1, c1, rfl, f1, f2, f3, f4⟩ := hE'
  unfold maxLen at g2 f2
  clear hok hok' HSo hP g3 g4 f4
  go_enter Try.func7, Try.ntmps7
  go_wp2_with fail
  refine (awake10_any _).mono ?_
  rintro e w1 ⟨rfl, hb1⟩
  have HX1 : Hid (Below (w.alloc (.cells #[.int .u32 a, .int .i64 k, .int .i64 t] 35)).heap.size (w.alloc (.cells #[.int .u32 a, .int .i64 k, .int .i64 t] 35)) w1) := hb1
  have HY1 : Hid (Below w.heap.size w w1) := below_trans (below_alloc _ _) hb1
  clear hb1
  have HF := fair_any _ B O l w1 (HE.out.later HY1.out)
  have HF' := fair_any _ B' O' m w1 (HE'.out.later HY1.out)
  obtain ⟨d0, d1, d2⟩ := D.out w1 HX1.out
  cases hf : fairB l with
  | false =>
    rw [hf] at HF
    clear HF'
    go_wp2_with (go_at_call 15; refine HF.mono ?_; rintro e w2 ⟨rfl, h2⟩; have h2 := h2.symm; subst h2)
    go_ret
    exact ⟨rfl, HY1.out⟩
  | true =>
    rw [hf] at HF
    have HL1 : Hid (l.length ≤ 300) := by show _ ≤ _; unfold fairB at hf; simp at hf; exact hf.1
    clear hf
    go_wp2_with fail
    refine HF.mono ?_
    rintro e w2 ⟨rfl, h2⟩
    have h2 := h2.symm
    subst h2
    clear HF
    cases hf : fairB m with
    | false =>
      rw [hf] at HF'
      go_wp2_with (go_at_call 15; refine HF'.mono ?_; rintro e w2 ⟨rfl, h2⟩; have h2 := h2.symm; subst h2)
      go_ret
      exact ⟨rfl, HY1.out⟩
    | true =>
      rw [hf] at HF'
      have HL2 : Hid (m.length ≤ 300) := by show _ ≤ _; unfold fairB at hf; simp at hf; exact hf.1
      clear hf
      go_wp2_with fail
      refine HF'.mono ?_
      rintro e w2 ⟨rfl, h2⟩
      have h2 := h2.symm
      subst h2
      clear HF'
      by_cases hbig : 4611686018427387904 < t
      · go_wp2
        go_ret
        exact ⟨rfl, HY1.out⟩
      have hsm : t ≤ 4611686018427387904 := by omega
      have HTS : Hid (t ≤ 4611686018427387904) := hsm
      have HSp := fun W (h : Below w.heap.size w W) => spans_ok _ B O l W (HE.out.later h) HOK.out (by have := HL1.out; omega)
      have HSl : Hid ((spans l).length ≤ 300) := Nat.le_trans (spans_length l) HL1.out
      have HSO : Hid (OkAll (spans l)) := ok_spans HOK.out
      have HWd : Hid (∀ W, Below w1.drew.heap.size w1.drew W → Below w.heap.size w W) := fun W h => HY1.out.drew.trans (h.mono HY1.out.size)
      have HX1d : Hid (∀ W, Below w1.drew.heap.size w1.drew W → Below (w.alloc (.cells #[.int .u32 a, .int .i64 k, .int .i64 t] 35)).heap.size (w.alloc (.cells #[.int .u32 a, .int .i64 k, .int .i64 t] 35)) W) := fun W h => HX1.out.drew.trans (h.mono HX1.out.size)
      have KC : Hid (∀ wx, Below w1.drew.heap.size w1.drew wx → wx.cell? ⟨w.heap.size, 0, none⟩ = some (.int .u32 a) ∧ wx.cell? ⟨w.heap.size, 1, none⟩ = some (.int .i64 k) ∧ wx.cell? ⟨w.heap.size, 2, none⟩ = some (.int .i64 t)) := fun wx hx => D.out wx (HX1d.out wx hx)
      have K1 := KC.out w1.drew (Below.refl _ _)
      have HSp1 := HSp w1.drew HY1.out.drew
      clear HSp hbig
      go_wp2_with fail
      clear d0 d1 d2
      go_region_held3 (fun w' => w'.cell? ⟨w.heap.size, 0, none⟩ = some (.int .u32 a) ∧ w'.cell? ⟨w.heap.size, 1, none⟩ = some (.int .i64 k) ∧ w'.cell? ⟨w.heap.size, 2, none⟩ = some (.int .i64 t))
        (first | (with_reducible exact K1) | (with_reducible exact K2) | (with_reducible exact K3))
        (first
          | (go_at_call 10; refine HSp1.mono ?_; rintro e w2 ⟨r, rfl, hr2, hb2⟩; have HB2 : Hid (Below w1.drew.heap.size w1.drew w2) := hb2; have K2 := KC.out w2 hb2; obtain ⟨C2, hs2, -⟩ := spRow_sps hr2; have HW2 := who_ok 1000 HS.out r C2 0 (spans l) a k t w2 hs2 HSO.out (by have := HSl.out; omega) (Nat.le_trans (by unfold subsAt; rw [List.length_map]; exact List.length_filter_le _ _) (by have := HSl.out; omega)) (by have := HTS.out; omega); obtain ⟨ra2, rc2, rfl, -⟩ := ownsRow_shape hr2; clear hr2 hb2 hs2)
          | (go_at_call 12; refine HW2.mono ?_; rintro e w3 ⟨u3, cw, rfl, hu3, hw3, hb3⟩; have HB3 : Hid (Below w1.drew.heap.size w1.drew w3) := HB2.out.trans (hb3.mono HB2.out.size); have K3 := KC.out w3 HB3.out; have HU3 : Hid (URow w3 w2.heap.size u3 cw) := hu3; have HW3 : Hid (WhoOf (spans l) a k t cw) := hw3; obtain ⟨ua3, uc3, rfl, -⟩ := ownsRow_shape hu3; clear hu3 hw3 hb3))
      obtain ⟨v4, w4, hrun4, hr4, hb4⟩ := append_ens w3 (.slice a0 l.length c0) B O l (HE.out.later (HWd.out w3 HB3.out)) (by have := HL1.out; omega)
      have HR4 : Hid (EnRow w4 w3.heap.size v4 l) := hr4
      have HB4 : Hid (Below w3.heap.size w3 w4) := hb4
      clear hr4 hb4 K1 K2 K3 HSp1 HW2
      go_wp2_with (at_builtin; refine append_here _ _ _ rfl ?_; refine wpl_append_run rfl _ _ _ rfl _ _ rfl rfl hrun4 ?_)
      clear hrun4
      go_loopg [8, 9] m.length (fun gk lv jv wr => ∃ (j : Nat) (v : Value), j + gk = m.length ∧ v = lv ∧ jv = .int .i64 (j : Int) ∧ EnRow wr w3.heap.size v (l ++ (m.take j).map (bump t)) ∧ Below w3.heap.size w3 wr)
      case atStart => exact ⟨0, v4, by omega, rfl, rfl, by simpa using HR4.out, HB4.out⟩
      case round =>
        obtain ⟨j, v, hj, rfl, rfl, hrow, hbel⟩ := hrel
        have HR : Hid (EnRow wr w3.heap.size v (l ++ (m.take j).map (bump t))) := hrow
        have HB : Hid (Below w3.heap.size w3 wr) := hbel
        have HBd : Hid (Below w1.drew.heap.size w1.drew wr) := HB3.out.trans (hbel.mono HB3.out.size)
        clear hrow hbel HR4 HB4
        by_cases hlt : j < m.length
        case neg =>
          have HB0 : Hid (Below w3.heap.size w3 wr) := HB.out
          have hje : j = m.length := by omega
          subst hje
          have hge : ¬ ((m.length : Int) < (m.length : Int)) := by omega
          have HRf : Hid (EnRow wr w3.heap.size v (l ++ m.map (bump t))) := by
            have := HR.out
            rwa [List.take_length] at this
          have HOA : Hid (∀ e ∈ l ++ m.map (bump t), e.Ok) := fun e he => by
            rcases List.mem_append.1 he with he | he
            · exact HOK.out e he
            · obtain ⟨x, hx, rfl⟩ := List.mem_map.1 he
              exact bump_ok HTS.out (HOK'.out x hx)
          have HLA : Hid ((l ++ m.map (bump t)).length ≤ 600) := by
            show _ ≤ _
            have := HL1.out; have := HL2.out
            rw [List.length_append, List.length_map]; omega
          have HLt : Hid (∀ c', WhoOf (spans (l ++ m.map (bump t))) a k t c' → c' = cw) := fun c' h => later_who HT0.out HW3.out h
          generalize l ++ m.map (bump t) = al at *
          obtain ⟨C4, hE4⟩ := enRow_ens HRf.out
          have HSp4 := spans_ok v C4 0 al wr.drew (hE4.later (Below.refl wr.heap.size wr).drew) HOA.out (by have := HLA.out; omega)
          have HSl4 : Hid ((spans al).length ≤ 600) := Nat.le_trans (spans_length al) HLA.out
          have HSO4 : Hid (OkAll (spans al)) := ok_spans HOA.out
          obtain ⟨va, vc, rfl, -⟩ := ownsRow_shape HRf.out
          have HBr : Hid (∀ W, Below wr.drew.heap.size wr.drew W → Below w1.drew.heap.size w1.drew W) := fun W h => HBd.out.drew.trans (h.mono HBd.out.size)
          have KC4 : Hid (∀ wx, Below wr.drew.heap.size wr.drew wx → wx.cell? ⟨w.heap.size, 0, none⟩ = some (.int .u32 a) ∧ wx.cell? ⟨w.heap.size, 1, none⟩ = some (.int .i64 k) ∧ wx.cell? ⟨w.heap.size, 2, none⟩ = some (.int .i64 t)) := fun wx hx => KC.out wx (HBr.out wx hx)
          have K1 := KC4.out wr.drew (Below.refl _ _)
          clear hE4 hlt HR HB
          generalize al.length = an at *
          go_wp2_with fail
          go_region_held3 (fun w' => w'.cell? ⟨w.heap.size, 0, none⟩ = some (.int .u32 a) ∧ w'.cell? ⟨w.heap.size, 1, none⟩ = some (.int .i64 k) ∧ w'.cell? ⟨w.heap.size, 2, none⟩ = some (.int .i64 t))
            (first | (with_reducible exact K1) | (with_reducible exact K2) | (with_reducible exact K3))
            (first
              | (go_at_call 10; refine HSp4.mono ?_; rintro e w5 ⟨r, rfl, hr2, hb2⟩; have HB5 : Hid (Below wr.drew.heap.size wr.drew w5) := hb2; have K2 := KC4.out w5 hb2; obtain ⟨C2, hs2, -⟩ := spRow_sps hr2; have HW5 := who_ok 1000 HS.out r C2 0 (spans al) a k t w5 hs2 HSO4.out (by have := HSl4.out; omega) (Nat.le_trans (by unfold subsAt; rw [List.length_map]; exact List.length_filter_le _ _) (by have := HSl4.out; omega)) (by have := HTS.out; omega); obtain ⟨ra5, rc5, rfl, -⟩ := ownsRow_shape hr2; clear hr2 hb2 hs2)
              | (go_at_call 12; refine HW5.mono ?_; rintro e w6 ⟨u6, cn, rfl, hu6, hw6, hb6⟩; have HB6 : Hid (Below wr.drew.heap.size wr.drew w6) := HB5.out.trans (hb6.mono HB5.out.size); have K3 := KC4.out w6 HB6.out; have HU6 : Hid (URow w6 w5.heap.size u6 cn) := hu6; have HEq : Hid (cn = cw) := HLt.out cn hw6; clear hu6 hw6 hb6))
          have HU6' : URow w6 w5.heap.size u6 cw := by have := HU6.out; rw [HEq.out] at this; exact this
          have HBz : Hid (Below w3.heap.size w3 w6) := HB0.out.drew.trans (HB6.out.mono HB0.out.size)
          have HZ : Hid (Below w.heap.size w w6) := HWd.out w6 (HBr.out w6 HB6.out)
          obtain ⟨D6, hU6⟩ := uRow_us HU6'
          obtain ⟨D3, hU3⟩ := uRow_us HU3.out
          have HM := subs_ok w6 _ u6 D3 0 D6 0 cw (hU3.later HBz.out) hU6
          obtain ⟨ua6, uc6, rfl, -⟩ := ownsRow_shape HU6'
          clear K1 K2 K3 HSp4 HW5 HU6' hU6 hU3
          cases hcw : cw with
          | nil =>
            subst hcw
            go_wp2
            go_ret
            exact ⟨rfl, HZ.out⟩
          | cons c1 cr =>
            have hne : ((cw.length : Int) == 0) = false := by rw [hcw]; simp; omega
            rw [← hcw]
            clear hcw
            go_wp2_with (go_at_call 13; refine (by exact HM : Calls _ _ _ _ _).mono ?_; rintro e w7 ⟨rfl, nq, h7⟩; have HB7 : Hid (Below w6.heap.size w6 w7) := (by show Below _ _ _; rw [h7]; exact below_drewN10 _ _); clear h7)
            go_ret
            exact ⟨rfl, HZ.out.trans (HB7.out.mono HZ.out.size)⟩
        obtain ⟨e, he⟩ : ∃ e, m[j]? = some e := ⟨_, List.getElem?_eq_getElem hlt⟩
        obtain rfl : a1 = some ⟨B', O', none⟩ := by
          rcases f3 with f3 | f3
          · exact f3
          · subst f3; simp at hlt
        have hEw : Ens wr (.slice (some ⟨B', O', none⟩) m.length c1) B' O' m := HE'.out.later (HWd.out wr HBd.out)
        obtain ⟨_, _, _, _, _, _, hcell⟩ := hEw
        obtain ⟨p0, p1, p2, p3, p4⟩ := hcell j e he
        obtain ⟨d0, d1, d2⟩ := KC.out wr HBd.out
        have hOe := HOK'.out e (List.mem_of_getElem? he)
        have HTk : Hid ((m.take (j + 1)).map (bump t) = (m.take j).map (bump t) ++ [bump t e]) := by show _ = _; rw [List.take_add_one, he]; simp
        have HLn : Hid ((l ++ (m.take j).map (bump t)).length ≤ 600) := by
          show _ ≤ _
          have := HL1.out; have := HL2.out
          rw [List.length_append, List.length_map, List.length_take]; omega
        have hjI : (j : Int) < (m.length : Int) := by omega
        clear hcell he hlt
        obtain ⟨kd, tm, sb, aa, bb⟩ := e
        simp only at p0 p1 p2 p3 p4
        have htm0 := hOe.time0
        have htm1 := hOe.time1
        simp only at htm0 htm1
        clear hOe
        have x2 := cell_later (below_alloc wr (.cells #[.int .i64 kd, .int .i64 tm, .int .u32 sb, .int .u32 aa, .int .i64 bb] 41)) d2
        obtain ⟨v', w5, hrun5, hR5, hB5⟩ := append_en (wr.alloc (.cells #[.int .i64 kd, .int .i64 (max tm (t + 1)), .int .u32 sb, .int .u32 aa, .int .i64 bb] 41)) w3.heap.size v (l ++ (m.take j).map (bump t)) ⟨kd, (max tm (t + 1)), sb, aa, bb⟩ (ownsRow_later HR.out (below_alloc _ _)) (Nat.le_trans HB.out.size (below_alloc wr _).size) (by have := HLn.out; omega)
        have HR5 : Hid (EnRow w5 w3.heap.size v' (l ++ (m.take (j + 1)).map (bump t))) := by
          show EnRow _ _ _ _
          rw [HTk.out, ← List.append_assoc]
          exact hR5
        have HB5 : Hid (Below w3.heap.size w3 w5) := (HB.out.trans ((below_alloc wr _).mono HB.out.size)).trans hB5
        simp only [World.size_alloc] at hrun5
        clear hR5 hB5
        go_wp2_with (at_builtin; refine append_here _ _ _ rfl ?_; refine wpl_append_run rfl _ _ _ rfl _ _ rfl rfl hrun5 ?_)
        go_roundg (m.length - (j + 1))
        case rel => exact ⟨j + 1, v', by omega, rfl, by go_num, HR5.out, HB5.out⟩
        case measure => omega

end Go.Proofs.Ytkkcpofaiocjpaa
