/- trace.Spans: of any entries. -/
import Derived.Test.YtafkkehcacdodaaGreatTraStep
set_option maxRecDepth 100000
namespace Go.Proofs.YtafkkehcacdodaaGreat
open Go.RowKit Go.Maps

/-- What the map of open spans says. -/
def openF (l : List Sp) (p : Pl) : Option Value := (openI l p.1 p.2).map (fun i : Nat => Value.int .i64 (i : Int))

theorem cell_drewN10 (w : World) (n : Nat) (a : Addr) : (w.drewN n).cell? a = w.cell? a := rfl

theorem openF_grant {l : List Sp} (hU : Uniq l) {e : En} (he : e.kind = 2) (y : Pl) : (if y = (e.addr, e.block) then some (.int .i64 (l.length : Int)) else openF l y) = openF (stepS l e) y := by
  obtain ⟨y1, y2⟩ := y
  unfold openF
  rw [openI_grant hU he]
  by_cases h : y1 = e.addr ∧ y2 = e.block
  · rw [if_pos (by rw [h.1, h.2]), if_pos h]; rfl
  · rw [if_neg (by simpa using h), if_neg h]

theorem openF_release {l : List Sp} (hU : Uniq l) {e : En} (he : e.kind = 3) (y : Pl) : (if y = (e.addr, e.block) then none else openF l y) = openF (stepS l e) y := by
  obtain ⟨y1, y2⟩ := y
  unfold openF
  rw [openI_release hU he]
  by_cases h : y1 = e.addr ∧ y2 = e.block
  · rw [if_pos (by rw [h.1, h.2]), if_pos h]; rfl
  · rw [if_neg (by simpa using h), if_neg h]

theorem shutI_set {l : List Sp} {i : Nat} {s : Sp} {t : Int} (hs : l[i]? = some s) : shutI l (some i) t = l.set i (shutS s t) := by
  show shutAt l i t = _
  unfold shutAt
  rw [List.getD_eq_getElem?_getD, hs]; rfl

set_option maxHeartbeats 8000000 in
theorem spans_ok (v : Value) (B O : Nat) (l : List En) (w : World) (h : Ens w v B O l) (hok : ∀ e ∈ l, e.Ok) (hl : l.length ≤ 1000) :
    Calls Tryz.prog 25 #[v] w fun e w' => ∃ r, e = .returned r ∧ SpRow w' (w.heap.size + 1) r (spans l) ∧ Below w.heap.size w w' := by
  obtain ⟨ad, cap, rfl, h2, h3, h4, h5⟩ := h
  have H5 : Hid (∀ i s, l[i]? = some s → EnAt w B (O + i * 5) s) := h5
  have HOK : Hid (∀ e ∈ l, e.Ok) := hok
  unfold maxLen at h3
  have hmm := @run_makeMap Tryz.prog
  have hz3 := Tryz.zeroValue3
  obtain ⟨i0, hi, hzi0, hzi1, hzi2⟩ := info_parts infoSp
  clear h5 hok
  go_enter Tryz.func25, Tryz.ntmps25
  go_wp2
  go_loopg [3, 13] l.length (fun gk rv i wr => ∃ (t : Nat) (r : Value), t + gk = l.length ∧ r = rv ∧ i = .int .i64 (t : Int) ∧ SpRow wr (w.heap.size + 1) r (spans (l.take t)) ∧ KMap 118 plK wr w.heap.size t (openF (spans (l.take t))) ∧ Below w.heap.size w wr ∧ w.heap.size + 1 ≤ wr.heap.size)
  case atStart => exact ⟨0, _, by omega, rfl, rfl, World.ownsRow_nil _ _ _ _, (KMap.made w).ext (fun p => rfl), (below_alloc w _), by simp⟩
  case round =>
    obtain ⟨t, r, ht, rfl, rfl, hrow, hmap, hbel, hsz⟩ := hrel
    by_cases hlt : t < l.length
    case neg =>
      have hte : t = l.length := by omega
      subst hte
      rw [List.take_length] at hrow
      clear hmap
      have hge : ¬ ((l.length : Int) < (l.length : Int)) := by omega
      have HR : Hid (SpRow wr (w.heap.size + 1) r (spans l)) := hrow
      clear hrow
      go_wp2
      go_ret
      exact ⟨_, rfl, HR.out, hbel⟩
    obtain ⟨e, he⟩ : ∃ e, l[t]? = some e := ⟨_, List.getElem?_eq_getElem hlt⟩
    obtain rfl : ad = some ⟨B, O, none⟩ := by
      rcases h4 with h4 | h4
      · exact h4
      · subst h4; simp at hlt
    have hE := HOK.out e (List.mem_of_getElem? he)
    have HT : Hid (spans (l.take (t + 1)) = stepS (spans (l.take t)) e) := by
      show _ = _
      rw [List.take_add_one, he]; exact spans_snoc _ _
    have HU : Hid (Uniq (spans (l.take t))) := uniq_spans _
    have HLen : Hid ((spans (l.take t)).length ≤ t) := by
      have h1 := spans_length (l.take t)
      rw [List.length_take] at h1
      show _ ≤ _
      omega
    have HSO : Hid (OkAll (spans (l.take t))) := ok_spans (fun x hx => HOK.out x (List.mem_of_mem_take hx))
    obtain ⟨c0, c1, c2, c3, c4⟩ := enAt_later (H5.out t e he) hbel
    have hltI : (t : Int) < (l.length : Int) := by omega
    have hP : OkP (e.addr, e.block) := ⟨hE.addr0, hE.addr1, hE.block0, hE.block1⟩
    clear he hlt
    obtain ⟨kd, tm, sb, aa, bb⟩ := e
    have HTM : Hid (-9223372036854775808 ≤ tm ∧ tm ≤ 9223372036854775807) := ⟨hE.time0, hE.time1⟩
    simp only at c0 c1 c2 c3 c4 hP
    clear hE
    generalize spans (l.take t) = S at *
    -- the entry's variable, the key's variable
    obtain ⟨W, hW⟩ : ∃ W, W = (wr.alloc (.cells #[.int .i64 kd, .int .i64 tm, .int .u32 sb, .int .u32 aa, .int .i64 bb] 73)).alloc (.cells #[.int .u32 aa, .int .i64 bb] 118) := ⟨_, rfl⟩
    have hB1 : Below wr.heap.size wr W := by rw [hW]; exact ((Below.refl _ wr).alloc (Nat.le_refl _) _).alloc (by simp) _
    have hWs : W.heap.size = wr.heap.size + 2 := by rw [hW]; simp
    have d1 : W.cell? ⟨wr.heap.size, 1, none⟩ = some (.int .i64 tm) := by rw [hW]; simp
    have d2 : W.cell? ⟨wr.heap.size, 2, none⟩ = some (.int .u32 sb) := by rw [hW]; simp
    have d3 : W.cell? ⟨wr.heap.size, 3, none⟩ = some (.int .u32 aa) := by rw [hW]; simp
    have d4 : W.cell? ⟨wr.heap.size, 4, none⟩ = some (.int .i64 bb) := by rw [hW]; simp
    have d0 : W.cell? ⟨wr.heap.size, 0, none⟩ = some (.int .i64 kd) := by rw [hW]; simp
    have p0 : W.cell? ⟨wr.heap.size + 1, 0, none⟩ = some (.int .u32 aa) := by rw [hW]; simp
    have p1 : W.cell? ⟨wr.heap.size + 1, 1, none⟩ = some (.int .i64 bb) := by rw [hW]; simp
    have hrowW := ownsRow_later hrow hB1
    have hmapW := hmap.later hB1
    have hbelW := hbel.trans (hB1.mono hbel.size)
    have HW : Hid (W = (wr.alloc (.cells #[.int .i64 kd, .int .i64 tm, .int .u32 sb, .int .u32 aa, .int .i64 bb] 73)).alloc (.cells #[.int .u32 aa, .int .i64 bb] 118)) := hW
    have HRW : Hid (SpRow W (w.heap.size + 1) r S) := hrowW
    have HR0 : Hid (SpRow wr (w.heap.size + 1) r S) := hrow
    have HMW : Hid (KMap 118 plK W w.heap.size t (openF S)) := hmapW
    have HBW : Hid (Below w.heap.size w W) := hbelW
    clear hW hrow hmap hrowW hmapW hbel hbelW hB1
    by_cases hk2 : kd = 2
    · subst hk2
      cases ho : openI S aa bb with
      | some i =>
        have HO : Hid (openI S aa bb = some i) := ho
        have hil := openI_lt ho
        have hf : openF S (aa, bb) = some (.int .i64 (i : Int)) := by simp only [openF, ho, Option.map_some]
        obtain ⟨s, hs⟩ : ∃ s, S[i]? = some s := ⟨_, List.getElem?_eq_getElem hil⟩
        obtain ⟨g, cp, rfl, hg1, hg2, hg3⟩ := ownsRow_slice HRW.out (by omega)
        obtain ⟨q0, q1, q2, q3, q4, q5⟩ := spRow_at HRW.out rfl hs
        have HS : Hid (S[i]? = some s) := hs
        have HL := HLen.out
        clear ho hs
        go_wp2_with (at_lookup; rw [← HW.out]; refine wpl_look_some _ rfl _ _ 116 rfl placeK 3 Tryz.underlying116 (hz3 _) rfl HMW.out (aa, bb) hP _ hf rfl ?_)
        have hgW : g < wr.heap.size := (ownsRow_lt HR0.out rfl).2
        have D0 : Hid (W.cell? ⟨wr.heap.size, 1, none⟩ = some (.int .i64 tm) ∧ W.cell? ⟨wr.heap.size, 2, none⟩ = some (.int .u32 sb) ∧ W.cell? ⟨wr.heap.size, 3, none⟩ = some (.int .u32 aa) ∧ W.cell? ⟨wr.heap.size, 4, none⟩ = some (.int .i64 bb) ∧ W.cell? ⟨wr.heap.size + 1, 0, none⟩ = some (.int .u32 aa) ∧ W.cell? ⟨wr.heap.size + 1, 1, none⟩ = some (.int .i64 bb)) := ⟨d1, d2, d3, d4, p0, p1⟩
        have hA := fun W' => ahead_any tm W' HTM.out.1 HTM.out.2
        have hSh := fun W' => shut_any s (aheadT tm) W'
        obtain ⟨s0, s1, s2, s3, s4, s5⟩ := s
        simp only [spV] at q0 q1 q2 q3 q4 q5 hSh
        have hili : (i : Int) < (S.length : Int) := by omega
        have hf0 := fun j => ownsRow_frozen HRW.out j
        have KC : Hid (∀ wx, Below W.drew.heap.size W.drew wx → wx.cell? ⟨wr.heap.size, 1, none⟩ = some (.int .i64 tm) ∧ wx.cell? ⟨g, i * 6, none⟩ = some (.int .u32 s0) ∧ wx.cell? ⟨g, i * 6 + 1, none⟩ = some (.int .u32 s1) ∧ wx.cell? ⟨g, i * 6 + 2, none⟩ = some (.int .i64 s2) ∧ wx.cell? ⟨g, i * 6 + 3, none⟩ = some (.int .i64 s3) ∧ wx.cell? ⟨g, i * 6 + 4, none⟩ = some (.int .i64 s4) ∧ wx.cell? ⟨g, i * 6 + 5, none⟩ = some (.bool s5)) :=
          fun wx hx => ⟨cell_later (w := W.drew) hx d1, cell_later (w := W.drew) hx q0, cell_later (w := W.drew) hx q1, cell_later (w := W.drew) hx q2, cell_later (w := W.drew) hx q3, cell_later (w := W.drew) hx q4, cell_later (w := W.drew) hx q5⟩
        have KF : Hid (∀ wx, Below W.drew.heap.size W.drew wx → ∀ j, wx.frozen? ⟨g, j, none⟩ = false) := fun wx hx j => ownsRow_frozen (ownsRow_later (w := W.drew) HRW.out hx) j
        have K0 := KC.out W.drew (Below.refl _ _)
        clear K0
        obtain ⟨k1, k2, k3, k4, k5, k6, k7⟩ := KC.out W.drew (Below.refl _ _)
        clear d0 d1 d2 d3 d4 p0 p1 q0 q1 q2 q3 q4 q5 c0 c1 c2 c3 c4
        go_region_law (first
          | (refine step_calls rfl 61 #[.tmp 40] #[2] rfl #[.int .i64 tm] (by go_simp) enters_ahead (by with_reducible exact hA _) ?_; rintro e w1 ⟨rfl, h1⟩; have h1 := h1.symm; subst h1; refine ⟨_, rfl, ?_⟩)
          | (refine step_calls rfl 60 #[.tmp 38, .tmp 41] #[59, 2] rfl #[.agg #[.int .u32 s0, .int .u32 s1, .int .i64 s2, .int .i64 s3, .int .i64 s4, .bool s5], .int .i64 (aheadT tm)] (by go_simp) enters_shut (by with_reducible exact hSh _) ?_; rintro e w1 ⟨rfl, hB2⟩; refine ⟨_, rfl, ?_⟩; have F1 := KF.out _ hB2; obtain ⟨k1, k2, k3, k4, k5, k6, k7⟩ := KC.out _ hB2))
        all_goals
          clear k1 k2 k3 k4 k5 k6 k7 F1
          generalize hW3 : World.setCell _ _ _ = W3
          have hW3 : W3 = put6 w1 g (i * 6) (shutS ⟨s0, s1, s2, s3, s4, s5⟩ (aheadT tm)) := hW3.symm
          have hB3 : Below (w.heap.size + 1) W W3 := by
            rw [hW3]
            exact (below_trans (Below.refl W.heap.size W).drew hB2).mono (by omega) |>.trans (put6_below _ _ _ _ _ hg1)
          have hR3 : SpRow W3 (w.heap.size + 1) (.slice (some ⟨g, 0, none⟩) S.length cp) (S.set i (shutS ⟨s0, s1, s2, s3, s4, s5⟩ (aheadT tm))) := by
            rw [hW3]
            unfold SpRow
            rw [List.length_set]
            exact put6_row (ownsRow_later (w := W.drew) HRW.out hB2) hil _
          rw [← shutI_set HS.out] at hR3
          have HB3 : Hid (Below w.heap.size w W3) := HBW.out.trans (hB3.mono (by omega))
          have hoth : ∀ k, k ≠ g → k < W.heap.size → W3.heap[k]? = W.heap[k]? := fun k hk hlt => by
            rw [hW3, put6_other _ _ _ _ _ hk]
            exact hB2.block k hlt
          have HS1 : Hid ((shutI S (some i) (aheadT tm)).length = S.length) := shutI_length _ _ _
          have HM3 : Hid (KMap 118 plK W3 w.heap.size t (openF S)) := HMW.out.same (hoth _ (by omega) HMW.out.lt)
          have D3 : Hid (W3.cell? ⟨wr.heap.size, 1, none⟩ = some (.int .i64 tm) ∧ W3.cell? ⟨wr.heap.size, 2, none⟩ = some (.int .u32 sb) ∧ W3.cell? ⟨wr.heap.size, 3, none⟩ = some (.int .u32 aa) ∧ W3.cell? ⟨wr.heap.size, 4, none⟩ = some (.int .i64 bb) ∧ W3.cell? ⟨wr.heap.size + 1, 0, none⟩ = some (.int .u32 aa) ∧ W3.cell? ⟨wr.heap.size + 1, 1, none⟩ = some (.int .i64 bb)) := by
            obtain ⟨a1, a2, a3, a4, a5, a6⟩ := D0.out
            have hwr : wr.heap.size ≠ g := by omega
            have hwr1 : wr.heap.size + 1 ≠ g := by omega
            refine ⟨?_, ?_, ?_, ?_, ?_, ?_⟩
            · rw [cell_same_block (hoth _ hwr (by show wr.heap.size < _; omega))]; exact a1
            · rw [cell_same_block (hoth _ hwr (by show wr.heap.size < _; omega))]; exact a2
            · rw [cell_same_block (hoth _ hwr (by show wr.heap.size < _; omega))]; exact a3
            · rw [cell_same_block (hoth _ hwr (by show wr.heap.size < _; omega))]; exact a4
            · rw [cell_same_block (hoth _ hwr1 (by show wr.heap.size + 1 < _; omega))]; exact a5
            · rw [cell_same_block (hoth _ hwr1 (by show wr.heap.size + 1 < _; omega))]; exact a6
          clear hW3 hoth
          have K34 : Hid (∀ w4, W3.mapTurned w4 w.heap.size → w4.cell? ⟨wr.heap.size, 1, none⟩ = some (.int .i64 tm) ∧ w4.cell? ⟨wr.heap.size, 2, none⟩ = some (.int .u32 sb) ∧ w4.cell? ⟨wr.heap.size, 3, none⟩ = some (.int .u32 aa) ∧ w4.cell? ⟨wr.heap.size, 4, none⟩ = some (.int .i64 bb) ∧
              SpRow w4 (w.heap.size + 1) (.slice (some ⟨g, 0, none⟩) S.length cp) (shutI S (some i) (aheadT tm)) ∧ w.heap.size + 1 ≤ w4.heap.size ∧ Below w.heap.size w w4) := fun w4 h4 => by
            have hne : ∀ k : Nat, k ≠ w.heap.size → some k ≠ some w.heap.size := fun k h e => h (Option.some.inj e)
            refine ⟨grown_cell h4.grown (hne _ (by show wr.heap.size ≠ _; omega)) D3.out.1, grown_cell h4.grown (hne _ (by show wr.heap.size ≠ _; omega)) D3.out.2.1, grown_cell h4.grown (hne _ (by show wr.heap.size ≠ _; omega)) D3.out.2.2.1, grown_cell h4.grown (hne _ (by show wr.heap.size ≠ _; omega)) D3.out.2.2.2.1, ?_, ?_, ?_⟩
            · refine ownsRow_same hR3 fun k hk => h4.grown.block k (ownsRow_lt hR3 hk).2 (hne k (by have := (ownsRow_lt hR3 hk).1; omega))
            · have := h4.grown.size; have := HM3.out.lt; omega
            · exact (HB3.out).grown h4.grown HB3.out.size (fun k hk => by injection hk with hk; omega)
          have q1 := D3.out.2.2.2.2.1
          have q2 := D3.out.2.2.2.2.2
          clear hB3 hR3
          go_wp2_with (first
            | (at_mapUpdate; refine wpl_store _ rfl _ _ _ 116 rfl placeK 3 Tryz.underlying116 rfl HM3.out (by unfold maxLen; omega) (aa, bb) hP rfl _ rfl ?_; intro w4 hm4 ht4; obtain ⟨d1, d2, d3, d4, hr4, hs4, hb4⟩ := K34.out w4 ht4; obtain ⟨v', w5, hrun5, hR5, hG5, hB5⟩ := append_sp w4 (w.heap.size + 1) (.slice (some ⟨g, 0, none⟩) S.length cp) _ (newS ⟨2, tm, sb, aa, bb⟩) hr4 hs4 (by rw [HS1.out]; omega); simp only [newS] at hrun5; have HM4 : Hid (KMap 118 plK w4 w.heap.size (t + 1) _) := hm4; have HR4 : Hid (SpRow w4 (w.heap.size + 1) (.slice (some ⟨g, 0, none⟩) S.length cp) (shutI S (some i) (aheadT tm))) := hr4; have HB4 : Hid (Below w.heap.size w w4) := hb4; clear hm4 hr4 hb4 ht4)
            | (at_builtin; refine wpl_append_run rfl _ _ _ rfl _ _ rfl rfl hrun5 ?_))
          have R1 : SpRow w5 (w.heap.size + 1) v' (spans (l.take (t + 1))) := by rw [HT.out]; exact (show stepS S ⟨2, tm, sb, aa, bb⟩ = shutI S (some i) (aheadT tm) ++ [newS ⟨2, tm, sb, aa, bb⟩] from by unfold stepS; rw [if_pos rfl, HO.out]).symm ▸ hR5
          have R2 : KMap 118 plK w5 w.heap.size (t + 1) (openF (spans (l.take (t + 1)))) := by
            rw [HT.out]
            refine ((HM4.out.alloc _).kept hG5 ?_).ext (fun y => openF_grant (e := ⟨2, tm, sb, aa, bb⟩) HU.out rfl y)
            intro e
            have := (ownsRow_lt HR4.out e.symm).1
            omega
          have R3 : Below w.heap.size w w5 := HB4.out.trans (hB5.mono (by omega))
          have R4 : w.heap.size + 1 ≤ w5.heap.size := by have := hB5.size; omega
          clear hR5 hG5 hB5 HM4 HR4 HB4 K34
          go_wp2
          go_roundg (l.length - (t + 1))
          case rel => exact ⟨t + 1, v', by omega, rfl, by go_num, R1, R2, R3, R4⟩
          case measure => omega
      | none =>
        have HO : Hid (openI S aa bb = none) := ho
        have hf : openF S (aa, bb) = none := by simp only [openF, ho, Option.map_none]
        have HL := HLen.out
        obtain ⟨ra, rc, rfl, hr1, hr2, hr3⟩ := ownsRow_shape HRW.out
        have D0 : Hid (W.cell? ⟨wr.heap.size, 1, none⟩ = some (.int .i64 tm) ∧ W.cell? ⟨wr.heap.size, 2, none⟩ = some (.int .u32 sb) ∧ W.cell? ⟨wr.heap.size, 3, none⟩ = some (.int .u32 aa) ∧ W.cell? ⟨wr.heap.size, 4, none⟩ = some (.int .i64 bb)) := ⟨d1, d2, d3, d4⟩
        have K34 : Hid (∀ w4, W.mapTurned w4 w.heap.size → w4.cell? ⟨wr.heap.size, 1, none⟩ = some (.int .i64 tm) ∧ w4.cell? ⟨wr.heap.size, 2, none⟩ = some (.int .u32 sb) ∧ w4.cell? ⟨wr.heap.size, 3, none⟩ = some (.int .u32 aa) ∧ w4.cell? ⟨wr.heap.size, 4, none⟩ = some (.int .i64 bb) ∧
            SpRow w4 (w.heap.size + 1) (.slice ra S.length rc) S ∧ w.heap.size + 1 ≤ w4.heap.size ∧ Below w.heap.size w w4) := fun w4 h4 => by
          have hne : ∀ k : Nat, k ≠ w.heap.size → some k ≠ some w.heap.size := fun k h e => h (Option.some.inj e)
          refine ⟨grown_cell h4.grown (hne _ (by show wr.heap.size ≠ _; omega)) D0.out.1, grown_cell h4.grown (hne _ (by show wr.heap.size ≠ _; omega)) D0.out.2.1, grown_cell h4.grown (hne _ (by show wr.heap.size ≠ _; omega)) D0.out.2.2.1, grown_cell h4.grown (hne _ (by show wr.heap.size ≠ _; omega)) D0.out.2.2.2, ?_, ?_, ?_⟩
          · refine ownsRow_same HRW.out fun k hk => h4.grown.block k (ownsRow_lt HRW.out hk).2 (hne k (by have := (ownsRow_lt HRW.out hk).1; omega))
          · have := h4.grown.size; omega
          · exact (HBW.out).grown h4.grown HBW.out.size (fun k hk => by injection hk with hk; omega)
        clear ho d1 d2 d3 d4
        go_wp2_with (first
          | (at_lookup; rw [← HW.out]; refine wpl_look_none _ rfl _ _ 116 rfl placeK 3 Tryz.underlying116 (hz3 _) rfl HMW.out (aa, bb) hP hf rfl ?_)
          | (at_mapUpdate; refine wpl_store _ rfl _ _ _ 116 rfl placeK 3 Tryz.underlying116 rfl HMW.out (by unfold maxLen; omega) (aa, bb) hP rfl _ rfl ?_; intro w4 hm4 ht4; obtain ⟨d1, d2, d3, d4, hr4, hs4, hb4⟩ := K34.out w4 ht4; obtain ⟨v', w5, hrun5, hR5, hG5, hB5⟩ := append_sp w4 (w.heap.size + 1) (.slice ra S.length rc) _ (newS ⟨2, tm, sb, aa, bb⟩) hr4 hs4 (by omega); simp only [newS] at hrun5; have HM4 : Hid (KMap 118 plK w4 w.heap.size (t + 1) _) := hm4; have HR4 : Hid (SpRow w4 (w.heap.size + 1) (.slice ra S.length rc) S) := hr4; have HB4 : Hid (Below w.heap.size w w4) := hb4; clear hm4 hr4 hb4 ht4)
          | (at_builtin; refine wpl_append_run rfl _ _ _ rfl _ _ rfl rfl hrun5 ?_))
        have R1 : SpRow w5 (w.heap.size + 1) v' (spans (l.take (t + 1))) := by
          rw [HT.out, show stepS S ⟨2, tm, sb, aa, bb⟩ = S ++ [newS ⟨2, tm, sb, aa, bb⟩] from by unfold stepS; rw [if_pos rfl, HO.out]; rfl]
          exact hR5
        have R2 : KMap 118 plK w5 w.heap.size (t + 1) (openF (spans (l.take (t + 1)))) := by
          rw [HT.out]
          refine ((HM4.out.alloc _).kept hG5 ?_).ext (fun y => openF_grant (e := ⟨2, tm, sb, aa, bb⟩) HU.out rfl y)
          intro e
          have := (ownsRow_lt HR4.out e.symm).1
          omega
        have R3 : Below w.heap.size w w5 := HB4.out.trans (hB5.mono (by omega))
        have R4 : w.heap.size + 1 ≤ w5.heap.size := by have := hB5.size; omega
        clear hR5 hG5 hB5 HM4 HR4 HB4 K34
        go_wp2
        go_roundg (l.length - (t + 1))
        case rel => exact ⟨t + 1, v', by omega, rfl, by go_num, R1, R2, R3, R4⟩
        case measure => omega
    · by_cases hk3 : kd = 3
      · subst hk3
        cases ho : openI S aa bb with
        | some i =>
          have HO : Hid (openI S aa bb = some i) := ho
          have hil := openI_lt ho
          have hf : openF S (aa, bb) = some (.int .i64 (i : Int)) := by simp only [openF, ho, Option.map_some]
          obtain ⟨s, hs⟩ : ∃ s, S[i]? = some s := ⟨_, List.getElem?_eq_getElem hil⟩
          obtain ⟨g, cp, rfl, hg1, hg2, hg3⟩ := ownsRow_slice HRW.out (by omega)
          obtain ⟨q0, q1, q2, q3, q4, q5⟩ := spRow_at HRW.out rfl hs
          have HS : Hid (S[i]? = some s) := hs
          have HL := HLen.out
          clear ho hs
          go_wp2_with (at_lookup; rw [← HW.out]; refine wpl_look_some _ rfl _ _ 116 rfl placeK 3 Tryz.underlying116 (hz3 _) rfl HMW.out (aa, bb) hP _ hf rfl ?_)
          have hgW : g < wr.heap.size := (ownsRow_lt HR0.out rfl).2
          have D0 : Hid (W.cell? ⟨wr.heap.size + 1, 0, none⟩ = some (.int .u32 aa) ∧ W.cell? ⟨wr.heap.size + 1, 1, none⟩ = some (.int .i64 bb)) := ⟨p0, p1⟩
          have hSh := fun W' => shut_any s tm W'
          obtain ⟨s0, s1, s2, s3, s4, s5⟩ := s
          simp only [spV] at q0 q1 q2 q3 q4 q5 hSh
          have hili : (i : Int) < (S.length : Int) := by omega
          have KC : Hid (∀ wx, Below W.drew.heap.size W.drew wx → wx.cell? ⟨wr.heap.size, 1, none⟩ = some (.int .i64 tm) ∧ wx.cell? ⟨g, i * 6, none⟩ = some (.int .u32 s0) ∧ wx.cell? ⟨g, i * 6 + 1, none⟩ = some (.int .u32 s1) ∧ wx.cell? ⟨g, i * 6 + 2, none⟩ = some (.int .i64 s2) ∧ wx.cell? ⟨g, i * 6 + 3, none⟩ = some (.int .i64 s3) ∧ wx.cell? ⟨g, i * 6 + 4, none⟩ = some (.int .i64 s4) ∧ wx.cell? ⟨g, i * 6 + 5, none⟩ = some (.bool s5)) :=
            fun wx hx => ⟨cell_later (w := W.drew) hx d1, cell_later (w := W.drew) hx q0, cell_later (w := W.drew) hx q1, cell_later (w := W.drew) hx q2, cell_later (w := W.drew) hx q3, cell_later (w := W.drew) hx q4, cell_later (w := W.drew) hx q5⟩
          have KF : Hid (∀ wx, Below W.drew.heap.size W.drew wx → ∀ j, wx.frozen? ⟨g, j, none⟩ = false) := fun wx hx j => ownsRow_frozen (ownsRow_later (w := W.drew) HRW.out hx) j
          obtain ⟨k1, k2, k3, k4, k5, k6, k7⟩ := KC.out W.drew (Below.refl _ _)
          clear d0 d1 d2 d3 d4 p0 p1 q0 q1 q2 q3 q4 q5 c0 c1 c2 c3 c4
          go_region_law (refine step_calls rfl 60 #[.tmp 68, .tmp 70] #[59, 2] rfl #[.agg #[.int .u32 s0, .int .u32 s1, .int .i64 s2, .int .i64 s3, .int .i64 s4, .bool s5], .int .i64 tm] (by go_simp) enters_shut (by with_reducible exact hSh _) ?_; rintro e w1 ⟨rfl, hB2⟩; refine ⟨_, rfl, ?_⟩; have F1 := KF.out _ hB2; obtain ⟨k1, k2, k3, k4, k5, k6, k7⟩ := KC.out _ hB2)
          all_goals
            clear k1 k2 k3 k4 k5 k6 k7 F1
            generalize hW3 : World.setCell _ _ _ = W3
            have hW3 : W3 = put6 w1 g (i * 6) (shutS ⟨s0, s1, s2, s3, s4, s5⟩ tm) := hW3.symm
            have hB3 : Below (w.heap.size + 1) W W3 := by
              rw [hW3]
              exact (below_trans (Below.refl W.heap.size W).drew hB2).mono (by omega) |>.trans (put6_below _ _ _ _ _ hg1)
            have hR3 : SpRow W3 (w.heap.size + 1) (.slice (some ⟨g, 0, none⟩) S.length cp) (S.set i (shutS ⟨s0, s1, s2, s3, s4, s5⟩ tm)) := by
              rw [hW3]
              unfold SpRow
              rw [List.length_set]
              exact put6_row (ownsRow_later (w := W.drew) HRW.out hB2) hil _
            rw [← shutI_set HS.out] at hR3
            have HB3 : Hid (Below w.heap.size w W3) := HBW.out.trans (hB3.mono (by omega))
            have hoth : ∀ k, k ≠ g → k < W.heap.size → W3.heap[k]? = W.heap[k]? := fun k hk hlt => by
              rw [hW3, put6_other _ _ _ _ _ hk]
              exact hB2.block k hlt
            have HM3 : Hid (KMap 118 plK W3 w.heap.size t (openF S)) := HMW.out.same (hoth _ (by omega) HMW.out.lt)
            have q1 : W3.cell? ⟨wr.heap.size + 1, 0, none⟩ = some (.int .u32 aa) := by rw [cell_same_block (hoth _ (by show wr.heap.size + 1 ≠ _; omega) (by show wr.heap.size + 1 < _; omega))]; exact D0.out.1
            have q2 : W3.cell? ⟨wr.heap.size + 1, 1, none⟩ = some (.int .i64 bb) := by rw [cell_same_block (hoth _ (by show wr.heap.size + 1 ≠ _; omega) (by show wr.heap.size + 1 < _; omega))]; exact D0.out.2
            have HR3 : Hid (SpRow W3 (w.heap.size + 1) (.slice (some ⟨g, 0, none⟩) S.length cp) (shutI S (some i) tm)) := hR3
            have HB3' : Hid (Below (w.heap.size + 1) W W3) := hB3
            clear hW3 hoth hB3 hR3
            go_wp2_with (at_delete; refine wpl_drop _ rfl _ _ 116 rfl placeK 3 Tryz.underlying116 rfl HM3.out (aa, bb) hP rfl ?_; intro w4 hm4 ht4; have HM4 : Hid (KMap 118 plK w4 w.heap.size t _) := hm4; have HT4 : Hid (W3.mapTurned w4 w.heap.size) := ht4; clear hm4 ht4)
            have R1 : SpRow w4 (w.heap.size + 1) (.slice (some ⟨g, 0, none⟩) S.length cp) (spans (l.take (t + 1))) := by
              rw [HT.out, show stepS S ⟨3, tm, sb, aa, bb⟩ = shutI S (some i) tm from by unfold stepS; rw [if_neg (show ¬ (3 : Int) = 2 by decide), if_pos rfl, HO.out]]
              exact ownsRow_same HR3.out fun k hk => HT4.out.grown.block k (ownsRow_lt HR3.out hk).2 (fun e => by have := (ownsRow_lt HR3.out hk).1; have := Option.some.inj e; omega)
            have R2 : KMap 118 plK w4 w.heap.size (t + 1) (openF (spans (l.take (t + 1)))) := by
              rw [HT.out]
              exact (HM4.out.ext (fun y => openF_release (e := ⟨3, tm, sb, aa, bb⟩) HU.out rfl y)).mono (by omega)
            have R3 : Below w.heap.size w w4 := HB3.out.grown HT4.out.grown HB3.out.size (fun k hk => by injection hk with hk; omega)
            have R4 : w.heap.size + 1 ≤ w4.heap.size := by have := HT4.out.grown.size; have := HM3.out.lt; omega
            clear HM4 HT4 HR3 HB3'
            go_wp2
            go_roundg (l.length - (t + 1))
            case rel => exact ⟨t + 1, _, by omega, rfl, by go_num, R1, R2, R3, R4⟩
            case measure => omega
        | none =>
          have hf : openF S (aa, bb) = none := by simp only [openF, ho, Option.map_none]
          have R1 : Hid (SpRow W (w.heap.size + 1) r (spans (l.take (t + 1)))) := by
            show SpRow _ _ _ _
            rw [HT.out, show stepS S ⟨3, tm, sb, aa, bb⟩ = S from by unfold stepS; rw [if_neg (show ¬ (3 : Int) = 2 by decide), if_pos rfl, ho]; rfl]
            exact HRW.out
          have R2 : Hid (KMap 118 plK W w.heap.size (t + 1) (openF (spans (l.take (t + 1))))) := by
            show KMap _ _ _ _ _ _
            rw [HT.out, show stepS S ⟨3, tm, sb, aa, bb⟩ = S from by unfold stepS; rw [if_neg (show ¬ (3 : Int) = 2 by decide), if_pos rfl, ho]; rfl]
            exact HMW.out.mono (by omega)
          clear ho
          go_wp2_with (at_lookup; rw [← HW.out]; refine wpl_look_none _ rfl _ _ 116 rfl placeK 3 Tryz.underlying116 (hz3 _) rfl HMW.out (aa, bb) hP hf rfl ?_)
          go_roundg (l.length - (t + 1))
          case rel => exact ⟨t + 1, _, by omega, rfl, by go_num, R1.out, R2.out, HBW.out, by omega⟩
          case measure => omega
      · have HS0 : Hid (stepS S ⟨kd, tm, sb, aa, bb⟩ = S) := by
          show _ = _
          unfold stepS; rw [if_neg hk2, if_neg hk3]
        have R1 : Hid (SpRow W (w.heap.size + 1) r (spans (l.take (t + 1)))) := by
          show SpRow _ _ _ _
          rw [HT.out, HS0.out]; exact HRW.out
        have R2 : Hid (KMap 118 plK W w.heap.size (t + 1) (openF (spans (l.take (t + 1))))) := by
          show KMap _ _ _ _ _ _
          rw [HT.out, HS0.out]; exact HMW.out.mono (by omega)
        go_wp2_with (at_lookup; rw [← HW.out]; refine wpl_look_ok _ rfl _ _ 116 rfl placeK 3 Tryz.underlying116 (hz3 _) rfl HMW.out (aa, bb) hP rfl ?_; generalize (openF S (aa, bb)).getD (.int .i64 0) = zz; generalize (openF S (aa, bb)).isSome = bz)
        go_roundg (l.length - (t + 1))
        case rel => exact ⟨t + 1, _, by omega, rfl, by go_num, R1.out, R2.out, HBW.out, by omega⟩
        case measure => omega

end Go.Proofs.YtafkkehcacdodaaGreat
