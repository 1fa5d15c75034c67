/- Calls as steps of a region that draws its order. -/
import Derived.Test.YtafkkehcacdodaaGreatTraSame
import Derived.Deep.RegionLaw
import Derived.Shelf.Abstract
import Derived.Maps.AppendAt
set_option maxRecDepth 100000
namespace Go.Proofs.YtafkkehcacdodaaGreat
open Go.RowKit Go.Shelf

/-- A call of a function of the program, as one step of a region that draws its order. -/
theorem step_calls {P : Program} {ops : Array Oper} {o : Oper} {a : Act} {w : World} {K : Act → World → Prop} {Q : Exit → Act → World → Prop} {E : Prop} (hgd : o.guard = none) (f : Nat) (xs : Array Operand) (ts : Array TypeId)
    (ho : o.op = .call { callee := .value (.func f), args := xs, argTypes := ts }) (vs : Array Value) (hx : xs.map a.eval = vs) (he : ∀ args w, (callFunc f args).run P w = .ok (.enter f args) w) {R : Ending → World → Prop} (hc : Calls P f vs w R)
    (h : ∀ e w', R e w' → ∃ v', e = .returned v' ∧ K (a.put o.dst v') w') : if Region.wanted o (yielded ops a.tmps) = true then Oper.wp P o a w K Q else E := by
  have hw : Region.wanted o (yielded ops a.tmps) = true := by simp [Region.wanted, hgd]
  rw [if_pos hw]
  unfold Oper.wp
  have hf : a.eval (.func f) = .func (.func f) #[] #[] := rfl
  simp [execOp, ho, resolve, invoke, hx, he, hf, Deferred.ofValue, Oper.upon]
  refine hc.mono ?_
  intro e w' hr
  obtain ⟨v', rfl, hk⟩ := h e w' hr
  exact hk

/-- The operation at hand is an append. -/
theorem append_here {P : Program} {w : World} {ops : Array Oper} {rest : List Oper} {o : Oper} {a : Act} {Q : Exit → Act → World → Prop} (s x : Operand) (t : TypeId) (_ : o.op = .call { callee := .builtin .append, args := #[s, x], argTypes := #[t, t] })
    (h : wpList P ops Q (o :: rest) a w) : wpList P ops Q (o :: rest) a w := h

theorem enters_ahead : ∀ (args : Array Value) (w : World), (callFunc 61 args).run Tryz.prog w = .ok (.enter 61 args) w := enters_of Tryz.func61 (by kernel_rfl) rfl

theorem enters_shut : ∀ (args : Array Value) (w : World), (callFunc 60 args).run Tryz.prog w = .ok (.enter 60 args) w := enters_of Tryz.func60 (by kernel_rfl) rfl

end Go.Proofs.YtafkkehcacdodaaGreat

namespace Go.Proofs.YtafkkehcacdodaaGreat
open Go.RowKit Go.Maps

/-- What the map of open spans says. -/
def openF (l : List Sp) (p : Pl) : Option Value := (openI l p.1 p.2).map (fun i : Nat => Value.int .i64 (i : Int))

theorem cell_drewN10 (w : World) (n : Nat) (a : Addr) : (w.drewN n).cell? a = w.cell? a := rfl

theorem openF_grant {l : List Sp} (hU : Uniq l) {e : En} (he : e.kind = 2) (y : Pl) : (if y = (e.addr, e.block) then some (.int .i64 (l.length : Int)) else openF l y) = openF (stepS l e) y := by
  obtain ⟨y1, y2⟩ := y
  unfold openF
  rw [openI_grant hU he]
  by_cases h : y1 = e.addr ∧ y2 = e.block
  · rw [if_pos (by rw [h.1, h.2]), if_pos h]; rfl
  · rw [if_neg (by simpa using h), if_neg h]

theorem openF_release {l : List Sp} (hU : Uniq l) {e : En} (he : e.kind = 3) (y : Pl) : (if y = (e.addr, e.block) then none else openF l y) = openF (stepS l e) y := by
  obtain ⟨y1, y2⟩ := y
  unfold openF
  rw [openI_release hU he]
  by_cases h : y1 = e.addr ∧ y2 = e.block
  · rw [if_pos (by rw [h.1, h.2]), if_pos h]; rfl
  · rw [if_neg (by simpa using h), if_neg h]

theorem shutI_set {l : List Sp} {i : Nat} {s : Sp} {t : Int} (hs : l[i]? = some s) : shutI l (some i) t = l.set i (shutS s t) := by
  show shutAt l i t = _
  unfold shutAt
  rw [List.getD_eq_getElem?_getD, hs]; rfl

set_option maxHeartbeats 8000000 in
theorem spans_ok (v : Value) (B O : Nat) (l : List En) (w : World) (h : Ens w v B O l) (hok : ∀ e ∈ l, e.Ok) (hl : l.length ≤ 1000) :
    Calls Tryz.prog 25 #[v] w fun e w' => ∃ r, e = .returned r ∧ SpRow w' (w.heap.size + 1) r (spans l) ∧ Below w.heap.size w w' := by
  obtain ⟨ad, cap, rfl, h2, h3, h4, h5⟩ := h
  have H5 : Hid (∀ i s, l[i]? = some s → EnAt w B (O + i * 5) s) := h5
  have HOK : Hid (∀ e ∈ l, e.Ok) := hok
  unfold maxLen at h3
  have hmm := @run_makeMap Tryz.prog
  have hz3 := Tryz.zeroValue3
  obtain ⟨i0, hi, hzi0, hzi1, hzi2⟩ := info_parts infoSp
  clear h5 hok
  go_enter Tryz.func25, Tryz.ntmps25
  go_wp2
  go_loopg [3, 13] l.length (fun gk rv i wr => ∃ (t : Nat) (r : Value), t + gk = l.length ∧ r = rv ∧ i = .int .i64 (t : Int) ∧ SpRow wr (w.heap.size + 1) r (spans (l.take t)) ∧ KMap 118 plK wr w.heap.size t (openF (spans (l.take t))) ∧ Below w.heap.size w wr ∧ w.heap.size + 1 ≤ wr.heap.size)
  case atStart => exact ⟨0, _, by omega, rfl, rfl, World.ownsRow_nil _ _ _ _, (KMap.made w).ext (fun p => rfl), (below_alloc w _), by simp⟩
  case round =>
    obtain ⟨t, r, ht, rfl, rfl, hrow, hmap, hbel, hsz⟩ := hrel
    by_cases hlt : t < l.length
    case neg =>
      have hte : t = l.length := by omega
      subst hte
      rw [List.take_length] at hrow
      clear hmap
      have hge : ¬ ((l.length : Int) < (l.length : Int)) := by omega
      have HR : Hid (SpRow wr (w.heap.size + 1) r (spans l)) := hrow
      clear hrow
      go_wp2
      go_ret
      exact ⟨_, rfl, HR.out, hbel⟩
    obtain ⟨e, he⟩ : ∃ e, l[t]? = some e := ⟨_, List.getElem?_eq_getElem hlt⟩
    obtain rfl : ad = some ⟨B, O, none⟩ := by
      rcases h4 with h4 | h4
      · exact h4
      · subst h4; simp at hlt
    have hE := HOK.out e (List.mem_of_getElem? he)
    have HT : Hid (spans (l.take (t + 1)) = stepS (spans (l.take t)) e) := by
      show _ = _
      rw [List.take_add_one, he]; exact spans_snoc _ _
    have HU : Hid (Uniq (spans (l.take t))) := uniq_spans _
    have HLen : Hid ((spans (l.take t)).length ≤ t) := by
      have h1 := spans_length (l.take t)
      rw [List.length_take] at h1
      show _ ≤ _
      omega
    have HSO : Hid (OkAll (spans (l.take t))) := ok_spans (fun x hx => HOK.out x (List.mem_of_mem_take hx))
    obtain ⟨c0, c1, c2, c3, c4⟩ := enAt_later (H5.out t e he) hbel
    have hltI : (t : Int) < (l.length : Int) := by omega
    have hP : OkP (e.addr, e.block) := ⟨hE.addr0, hE.addr1, hE.block0, hE.block1⟩
    clear he hlt
    obtain ⟨kd, tm, sb, aa, bb⟩ := e
    have HTM : Hid (-9223372036854775808 ≤ tm ∧ tm ≤ 9223372036854775807) := ⟨hE.time0, hE.time1⟩
    simp only at c0 c1 c2 c3 c4 hP
    clear hE
    generalize spans (l.take t) = S at *
    -- the entry's variable, the key's variable
    obtain ⟨W, hW⟩ : ∃ W, W = (wr.alloc (.cells #[.int .i64 kd, .int .i64 tm, .int .u32 sb, .int .u32 aa, .int .i64 bb] 73)).alloc (.cells #[.int .u32 aa, .int .i64 bb] 118) := ⟨_, rfl⟩
    have hB1 : Below wr.heap.size wr W := by rw [hW]; exact ((Below.refl _ wr).alloc (Nat.le_refl _) _).alloc (by simp) _
    have hWs : W.heap.size = wr.heap.size + 2 := by rw [hW]; simp
    have d1 : W.cell? ⟨wr.heap.size, 1, none⟩ = some (.int .i64 tm) := by rw [hW]; simp
    have d2 : W.cell? ⟨wr.heap.size, 2, none⟩ = some (.int .u32 sb) := by rw [hW]; simp
    have d3 : W.cell? ⟨wr.heap.size, 3, none⟩ = some (.int .u32 aa) := by rw [hW]; simp
    have d4 : W.cell? ⟨wr.heap.size, 4, none⟩ = some (.int .i64 bb) := by rw [hW]; simp
    have d0 : W.cell? ⟨wr.heap.size, 0, none⟩ = some (.int .i64 kd) := by rw [hW]; simp
    have p0 : W.cell? ⟨wr.heap.size + 1, 0, none⟩ = some (.int .u32 aa) := by rw [hW]; simp
    have p1 : W.cell? ⟨wr.heap.size + 1, 1, none⟩ = some (.int .i64 bb) := by rw [hW]; simp
    have hrowW := ownsRow_later hrow hB1
    have hmapW := hmap.later hB1
    have hbelW := hbel.trans (hB1.mono hbel.size)
    have HW : Hid (W = (wr.alloc (.cells #[.int .i64 kd, .int .i64 tm, .int .u32 sb, .int .u32 aa, .int .i64 bb] 73)).alloc (.cells #[.int .u32 aa, .int .i64 bb] 118)) := hW
    have HRW : Hid (SpRow W (w.heap.size + 1) r S) := hrowW
    have HR0 : Hid (SpRow wr (w.heap.size + 1) r S) := hrow
    have HMW : Hid (KMap 118 plK W w.heap.size t (openF S)) := hmapW
    have HBW : Hid (Below w.heap.size w W) := hbelW
    clear hW hrow hmap hrowW hmapW hbel hbelW hB1
    by_cases hk2 : kd = 2
    · subst hk2
      cases ho : openI S aa bb with
      | some i =>
        have HO : Hid (openI S aa bb = some i) := ho
        have hil := openI_lt ho
        have hf : openF S (aa, bb) = some (.int .i64 (i : Int)) := by simp only [openF, ho, Option.map_some]
        obtain ⟨s, hs⟩ : ∃ s, S[i]? = some s := ⟨_, List.getElem?_eq_getElem hil⟩
        obtain ⟨g, cp, rfl, hg1, hg2, hg3⟩ := ownsRow_slice HRW.out (by omega)
        obtain ⟨q0, q1, q2, q3, q4, q5⟩ := spRow_at HRW.out rfl hs
        have HS : Hid (S[i]? = some s) := hs
        have HL := HLen.out
        clear ho hs
        go_wp2_with (at_lookup; rw [← HW.out]; refine wpl_look_some _ rfl _ _ 116 rfl placeK 3 Tryz.underlying116 (hz3 _) rfl HMW.out (aa, bb) hP _ hf rfl ?_)
        have hgW : g < wr.heap.size := (ownsRow_lt HR0.out rfl).2
        have D0 : Hid (W.cell? ⟨wr.heap.size, 1, none⟩ = some (.int .i64 tm) ∧ W.cell? ⟨wr.heap.size, 2, none⟩ = some (.int .u32 sb) ∧ W.cell? ⟨wr.heap.size, 3, none⟩ = some (.int .u32 aa) ∧ W.cell? ⟨wr.heap.size, 4, none⟩ = some (.int .i64 bb) ∧ W.cell? ⟨wr.heap.size + 1, 0, none⟩ = some (.int .u32 aa) ∧ W.cell? ⟨wr.heap.size + 1, 1, none⟩ = some (.int .i64 bb)) := ⟨d1, d2, d3, d4, p0, p1⟩
        have hA := fun W' => ahead_any tm W' HTM.out.1 HTM.out.2
        have hSh := fun W' => shut_any s (aheadT tm) W'
        obtain ⟨s0, s1, s2, s3, s4, s5⟩ := s
        simp only [spV] at q0 q1 q2 q3 q4 q5 hSh
        have hili : (i : Int) < (S.length : Int) := by omega
        have hf0 := fun j => ownsRow_frozen HRW.out j
        have KC : Hid (∀ wx, Below W.drew.heap.size W.drew wx → wx.cell? ⟨wr.heap.size, 1, none⟩ = some (.int .i64 tm) ∧ wx.cell? ⟨g, i * 6, none⟩ = some (.int .u32 s0) ∧ wx.cell? ⟨g, i * 6 + 1, none⟩ = some (.int .u32 s1) ∧ wx.cell? ⟨g, i * 6 + 2, none⟩ = some (.int .i64 s2) ∧ wx.cell? ⟨g, i * 6 + 3, none⟩ = some (.int .i64 s3) ∧ wx.cell? ⟨g, i * 6 + 4, none⟩ = some (.int .i64 s4) ∧ wx.cell? ⟨g, i * 6 + 5, none⟩ = some (.bool s5)) :=
          fun wx hx => ⟨cell_later (w := W.drew) hx d1, cell_later (w := W.drew) hx q0, cell_later (w := W.drew) hx q1, cell_later (w := W.drew) hx q2, cell_later (w := W.drew) hx q3, cell_later (w := W.drew) hx q4, cell_later (w := W.drew) hx q5⟩
        have KF : Hid (∀ wx, Below W.drew.heap.size W.drew wx → ∀ j, wx.frozen? ⟨g, j, none⟩ = false) := fun wx hx j => ownsRow_frozen (ownsRow_later (w := W.drew) HRW.out hx) j
        have K0 := KC.out W.drew (Below.refl _ _)
        clear K0
        obtain ⟨k1, k2, k3, k4, k5, k6, k7⟩ := KC.out W.drew (Below.refl _ _)
        clear d0 d1 d2 d3 d4 p0 p1 q0 q1 q2 q3 q4 q5 c0 c1 c2 c3 c4
        go_region_law (first
          | (refine step_calls rfl 61 #[.tmp 40] #[2] rfl #[.int .i64 tm] (by go_simp) enters_ahead (by with_reducible exact hA _) ?_; rintro e w1 ⟨rfl, h1⟩; have h1 := h1.symm; subst h1; refine ⟨_, rfl, ?_⟩)
          | (refine step_calls rfl 60 #[.tmp 38, .tmp 41] #[59, 2] rfl #[.agg #[.int .u32 s0, .int .u32 s1, .int .i64 s2, .int .i64 s3, .int .i64 s4, .bool s5], .int .i64 (aheadT tm)] (by go_simp) enters_shut (by with_reducible exact hSh _) ?_; rintro e w1 ⟨rfl, hB2⟩; refine ⟨_, rfl, ?_⟩; have F1 := KF.out _ hB2; obtain ⟨k1, k2, k3, k4, k5, k6, k7⟩ := KC.out _ hB2))
        all_goals
          clear k1 k2 k3 k4 k5 k6 k7 F1
          generalize hW3 : World.setCell _ _ _ = W3
          have hW3 : W3 = put6 w1 g (i * 6) (shutS ⟨s0, s1, s2, s3, s4, s5⟩ (aheadT tm)) := hW3.symm
          have hB3 : Below (w.heap.size + 1) W W3 := by
            rw [hW3]
            exact (below_trans (Below.refl W.heap.size W).drew hB2).mono (by omega) |>.trans (put6_below _ _ _ _ _ hg1)
          have hR3 : SpRow W3 (w.heap.size + 1) (.slice (some ⟨g, 0, none⟩) S.length cp) (S.set i (shutS ⟨s0, s1, s2, s3, s4, s5⟩ (aheadT tm))) := by
            rw [hW3]
            unfold SpRow
            rw [List.length_set]
            exact put6_row (ownsRow_later (w := W.drew) HRW.out hB2) hil _
          rw [← shutI_set HS.out] at hR3
          have HB3 : Hid (Below w.heap.size w W3) := HBW.out.trans (hB3.mono (by omega))
          have hoth : ∀ k, k ≠ g → k < W.heap.size → W3.heap[k]? = W.heap[k]? := fun k hk hlt => by
            rw [hW3, put6_other _ _ _ _ _ hk]
            exact hB2.block k hlt
          have HS1 : Hid ((shutI S (some i) (aheadT tm)).length = S.length) := shutI_length _ _ _
          have HM3 : Hid (KMap 118 plK W3 w.heap.size t (openF S)) := HMW.out.same (hoth _ (by omega) HMW.out.lt)
          have D3 : Hid (W3.cell? ⟨wr.heap.size, 1, none⟩ = some (.int .i64 tm) ∧ W3.cell? ⟨wr.heap.size, 2, none⟩ = some (.int .u32 sb) ∧ W3.cell? ⟨wr.heap.size, 3, none⟩ = some (.int .u32 aa) ∧ W3.cell? ⟨wr.heap.size, 4, none⟩ = some (.int .i64 bb) ∧ W3.cell? ⟨wr.heap.size + 1, 0, none⟩ = some (.int .u32 aa) ∧ W3.cell? ⟨wr.heap.size + 1, 1, none⟩ = some (.int .i64 bb)) := by
            obtain ⟨a1, a2, a3, a4, a5, a6⟩ := D0.out
            have hwr : wr.heap.size ≠ g := by omega
            have hwr1 : wr.heap.size + 1 ≠ g := by omega
            refine ⟨?_, ?_, ?_, ?_, ?_, ?_⟩
            · rw [cell_same_block (hoth _ hwr (by show wr.heap.size < _; omega))]; exact a1
            · rw [cell_same_block (hoth _ hwr (by show wr.heap.size < _; omega))]; exact a2
            · rw [cell_same_block (hoth _ hwr (by show wr.heap.size < _; omega))]; exact a3
            · rw [cell_same_block (hoth _ hwr (by show wr.heap.size < _; omega))]; exact a4
            · rw [cell_same_block (hoth _ hwr1 (by show wr.heap.size + 1 < _; omega))]; exact a5
            · rw [cell_same_block (hoth _ hwr1 (by show wr.heap.size + 1 < _; omega))]; exact a6
          clear hW3 hoth
          have K34 : Hid (∀ w4, W3.mapTurned w4 w.heap.size → w4.cell? ⟨wr.heap.size, 1, none⟩ = some (.int .i64 tm) ∧ w4.cell? ⟨wr.heap.size, 2, none⟩ = some (.int .u32 sb) ∧ w4.cell? ⟨wr.heap.size, 3, none⟩ = some (.int .u32 aa) ∧ w4.cell? ⟨wr.heap.size, 4, none⟩ = some (.int .i64 bb) ∧
              SpRow w4 (w.heap.size + 1) (.slice (some ⟨g, 0, none⟩) S.length cp) (shutI S (some i) (aheadT tm)) ∧ w.heap.size + 1 ≤ w4.heap.size ∧ Below w.heap.size w w4) := fun w4 h4 => by
            have hne : ∀ k : Nat, k ≠ w.heap.size → some k ≠ some w.heap.size := fun k h e => h (Option.some.inj e)
            refine ⟨grown_cell h4.grown (hne _ (by show wr.heap.size ≠ _; omega)) D3.out.1, grown_cell h4.grown (hne _ (by show wr.heap.size ≠ _; omega)) D3.out.2.1, grown_cell h4.grown (hne _ (by show wr.heap.size ≠ _; omega)) D3.out.2.2.1, grown_cell h4.grown (hne _ (by show wr.heap.size ≠ _; omega)) D3.out.2.2.2.1, ?_, ?_, ?_⟩
            · refine ownsRow_same hR3 fun k hk => h4.grown.block k (ownsRow_lt hR3 hk).2 (hne k (by have := (ownsRow_lt hR3 hk).1; omega))
            · have := h4.grown.size; have := HM3.out.lt; omega
            · exact (HB3.out).grown h4.grown HB3.out.size (fun k hk => by injection hk with hk; omega)
          have q1 := D3.out.2.2.2.2.1
          have q2 := D3.out.2.2.2.2.2
          clear hB3 hR3
          go_wp2_with (first
            | (at_mapUpdate; refine wpl_store _ rfl _ _ _ 116 rfl placeK 3 Tryz.underlying116 rfl HM3.out (by unfold maxLen; omega) (aa, bb) hP rfl _ rfl ?_; intro w4 hm4 ht4; obtain ⟨d1, d2, d3, d4, hr4, hs4, hb4⟩ := K34.out w4 ht4; obtain ⟨v', w5, hrun5, hR5, hG5, hB5⟩ := append_sp w4 (w.heap.size + 1) (.slice (some ⟨g, 0, none⟩) S.length cp) _ (newS ⟨2, tm, sb, aa, bb⟩) hr4 hs4 (by rw [HS1.out]; omega); simp only [newS] at hrun5; have HM4 : Hid (KMap 118 plK w4 w.heap.size (t + 1) _) := hm4; have HR4 : Hid (SpRow w4 (w.heap.size + 1) (.slice (some ⟨g, 0, none⟩) S.length cp) (shutI S (some i) (aheadT tm))) := hr4; have HB4 : Hid (Below w.heap.size w w4) := hb4; clear hm4 hr4 hb4 ht4)
            | (at_builtin; refine wpl_append_run rfl _ _ _ rfl _ _ rfl rfl hrun5 ?_))
          have R1 : SpRow w5 (w.heap.size + 1) v' (spans (l.take (t + 1))) := by rw [HT.out]; exact (show stepS S ⟨2, tm, sb, aa, bb⟩ = shutI S (some i) (aheadT tm) ++ [newS ⟨2, tm, sb, aa, bb⟩] from by unfold stepS; rw [if_pos rfl, HO.out]).symm ▸ hR5
          have R2 : KMap 118 plK w5 w.heap.size (t + 1) (openF (spans (l.take (t + 1)))) := by
            rw [HT.out]
            refine ((HM4.out.alloc _).kept hG5 ?_).ext (fun y => openF_grant (e := ⟨2, tm, sb, aa, bb⟩) HU.out rfl y)
            intro e
            have := (ownsRow_lt HR4.out e.symm).1
            omega
          have R3 : Below w.heap.size w w5 := HB4.out.trans (hB5.mono (by omega))
          have R4 : w.heap.size + 1 ≤ w5.heap.size := by have := hB5.size; omega
          clear hR5 hG5 hB5 HM4 HR4 HB4 K34
          go_wp2
          go_roundg (l.length - (t + 1))
          case rel => exact ⟨t + 1, v', by omega, rfl, by go_num, R1, R2, R3, R4⟩
          case measure => omega
      | none =>
        have HO : Hid (openI S aa bb = none) := ho
        have hf : openF S (aa, bb) = none := by simp only [openF, ho, Option.map_none]
        have HL := HLen.out
        obtain ⟨ra, rc, rfl, hr1, hr2, hr3⟩ := ownsRow_shape HRW.out
        have D0 : Hid (W.cell? ⟨wr.heap.size, 1, none⟩ = some (.int .i64 tm) ∧ W.cell? ⟨wr.heap.size, 2, none⟩ = some (.int .u32 sb) ∧ W.cell? ⟨wr.heap.size, 3, none⟩ = some (.int .u32 aa) ∧ W.cell? ⟨wr.heap.size, 4, none⟩ = some (.int .i64 bb)) := ⟨d1, d2, d3, d4⟩
        have K34 : Hid (∀ w4, W.mapTurned w4 w.heap.size → w4.cell? ⟨wr.heap.size, 1, none⟩ = some (.int .i64 tm) ∧ w4.cell? ⟨wr.heap.size, 2, none⟩ = some (.int .u32 sb) ∧ w4.cell? ⟨wr.heap.size, 3, none⟩ = some (.int .u32 aa) ∧ w4.cell? ⟨wr.heap.size, 4, none⟩ = some (.int .i64 bb) ∧
            SpRow w4 (w.heap.size + 1) (.slice ra S.length rc) S ∧ w.heap.size + 1 ≤ w4.heap.size ∧ Below w.heap.size w w4) := fun w4 h4 => by
          have hne : ∀ k : Nat, k ≠ w.heap.size → some k ≠ some w.heap.size := fun k h e => h (Option.some.inj e)
          refine ⟨grown_cell h4.grown (hne _ (by show wr.heap.size ≠ _; omega)) D0.out.1, grown_cell h4.grown (hne _ (by show wr.heap.size ≠ _; omega)) D0.out.2.1, grown_cell h4.grown (hne _ (by show wr.heap.size ≠ _; omega)) D0.out.2.2.1, grown_cell h4.grown (hne _ (by show wr.heap.size ≠ _; omega)) D0.out.2.2.2, ?_, ?_, ?_⟩
          · refine ownsRow_same HRW.out fun k hk => h4.grown.block k (ownsRow_lt HRW.out hk).2 (hne k (by have := (ownsRow_lt HRW.out hk).1; omega))
          · have := h4.grown.size; omega
          · exact (HBW.out).grown h4.grown HBW.out.size (fun k hk => by injection hk with hk; omega)
        clear ho d1 d2 d3 d4
        go_wp2_with (first
          | (at_lookup; rw [← HW.out]; refine wpl_look_none _ rfl _ _ 116 rfl placeK 3 Tryz.underlying116 (hz3 _) rfl HMW.out (aa, bb) hP hf rfl ?_)
          | (at_mapUpdate; refine wpl_store _ rfl _ _ _ 116 rfl placeK 3 Tryz.underlying116 rfl HMW.out (by unfold maxLen; omega) (aa, bb) hP rfl _ rfl ?_; intro w4 hm4 ht4; obtain ⟨d1, d2, d3, d4, hr4, hs4, hb4⟩ := K34.out w4 ht4; obtain ⟨v', w5, hrun5, hR5, hG5, hB5⟩ := append_sp w4 (w.heap.size + 1) (.slice ra S.length rc) _ (newS ⟨2, tm, sb, aa, bb⟩) hr4 hs4 (by omega); simp only [newS] at hrun5; have HM4 : Hid (KMap 118 plK w4 w.heap.size (t + 1) _) := hm4; have HR4 : Hid (SpRow w4 (w.heap.size + 1) (.slice ra S.length rc) S) := hr4; have HB4 : Hid (Below w.heap.size w w4) := hb4; clear hm4 hr4 hb4 ht4)
          | (at_builtin; refine wpl_append_run rfl _ _ _ rfl _ _ rfl rfl hrun5 ?_))
        have R1 : SpRow w5 (w.heap.size + 1) v' (spans (l.take (t + 1))) := by
          rw [HT.out, show stepS S ⟨2, tm, sb, aa, bb⟩ = S ++ [newS ⟨2, tm, sb, aa, bb⟩] from by unfold stepS; rw [if_pos rfl, HO.out]; rfl]
          exact hR5
        have R2 : KMap 118 plK w5 w.heap.size (t + 1) (openF (spans (l.take (t + 1)))) := by
          rw [HT.out]
          refine ((HM4.out.alloc _).kept hG5 ?_).ext (fun y => openF_grant (e := ⟨2, tm, sb, aa, bb⟩) HU.out rfl y)
          intro e
          have := (ownsRow_lt HR4.out e.symm).1
          omega
        have R3 : Below w.heap.size w w5 := HB4.out.trans (hB5.mono (by omega))
        have R4 : w.heap.size + 1 ≤ w5.heap.size := by have := hB5.size; omega
        clear hR5 hG5 hB5 HM4 HR4 HB4 K34
        go_wp2
        go_roundg (l.length - (t + 1))
        case rel => exact ⟨t + 1, v', by omega, rfl, by go_num, R1, R2, R3, R4⟩
        case measure => omega
    · by_cases hk3 : kd = 3
      · subst hk3
        cases ho : openI S aa bb with
        | some i =>
          have HO : Hid (openI S aa bb = some i) := ho
          have hil := openI_lt ho
          have hf : openF S (aa, bb) = some (.int .i64 (i : Int)) := by simp only [openF, ho, Option.map_some]
          obtain ⟨s, hs⟩ : ∃ s, S[i]? = some s := ⟨_, List.getElem?_eq_getElem hil⟩
          obtain ⟨g, cp, rfl, hg1, hg2, hg3⟩ := ownsRow_slice HRW.out (by omega)
          obtain ⟨q0, q1, q2, q3, q4, q5⟩ := spRow_at HRW.out rfl hs
          have HS : Hid (S[i]? = some s) := hs
          have HL := HLen.out
          clear ho hs
          go_wp2_with (at_lookup; rw [← HW.out]; refine wpl_look_some _ rfl _ _ 116 rfl placeK 3 Tryz.underlying116 (hz3 _) rfl HMW.out (aa, bb) hP _ hf rfl ?_)
          have hgW : g < wr.heap.size := (ownsRow_lt HR0.out rfl).2
          have D0 : Hid (W.cell? ⟨wr.heap.size + 1, 0, none⟩ = some (.int .u32 aa) ∧ W.cell? ⟨wr.heap.size + 1, 1, none⟩ = some (.int .i64 bb)) := ⟨p0, p1⟩
          have hSh := fun W' => shut_any s tm W'
          obtain ⟨s0, s1, s2, s3, s4, s5⟩ := s
          simp only [spV] at q0 q1 q2 q3 q4 q5 hSh
          have hili : (i : Int) < (S.length : Int) := by omega
          have KC : Hid (∀ wx, Below W.drew.heap.size W.drew wx → wx.cell? ⟨wr.heap.size, 1, none⟩ = some (.int .i64 tm) ∧ wx.cell? ⟨g, i * 6, none⟩ = some (.int .u32 s0) ∧ wx.cell? ⟨g, i * 6 + 1, none⟩ = some (.int .u32 s1) ∧ wx.cell? ⟨g, i * 6 + 2, none⟩ = some (.int .i64 s2) ∧ wx.cell? ⟨g, i * 6 + 3, none⟩ = some (.int .i64 s3) ∧ wx.cell? ⟨g, i * 6 + 4, none⟩ = some (.int .i64 s4) ∧ wx.cell? ⟨g, i * 6 + 5, none⟩ = some (.bool s5)) :=
            fun wx hx => ⟨cell_later (w := W.drew) hx d1, cell_later (w := W.drew) hx q0, cell_later (w := W.drew) hx q1, cell_later (w := W.drew) hx q2, cell_later (w := W.drew) hx q3, cell_later (w := W.drew) hx q4, cell_later (w := W.drew) hx q5⟩
          have KF : Hid (∀ wx, Below W.drew.heap.size W.drew wx → ∀ j, wx.frozen? ⟨g, j, none⟩ = false) := fun wx hx j => ownsRow_frozen (ownsRow_later (w := W.drew) HRW.out hx) j
          obtain ⟨k1, k2, k3, k4, k5, k6, k7⟩ := KC.out W.drew (Below.refl _ _)
          clear d0 d1 d2 d3 d4 p0 p1 q0 q1 q2 q3 q4 q5 c0 c1 c2 c3 c4
          go_region_law (refine step_calls rfl 60 #[.tmp 68, .tmp 70] #[59, 2] rfl #[.agg #[.int .u32 s0, .int .u32 s1, .int .i64 s2, .int .i64 s3, .int .i64 s4, .bool s5], .int .i64 tm] (by go_simp) enters_shut (by with_reducible exact hSh _) ?_; rintro e w1 ⟨rfl, hB2⟩; refine ⟨_, rfl, ?_⟩; have F1 := KF.out _ hB2; obtain ⟨k1, k2, k3, k4, k5, k6, k7⟩ := KC.out _ hB2)
          all_goals
            clear k1 k2 k3 k4 k5 k6 k7 F1
            generalize hW3 : World.setCell _ _ _ = W3
            have hW3 : W3 = put6 w1 g (i * 6) (shutS ⟨s0, s1, s2, s3, s4, s5⟩ tm) := hW3.symm
            have hB3 : Below (w.heap.size + 1) W W3 := by
              rw [hW3]
              exact (below_trans (Below.refl W.heap.size W).drew hB2).mono (by omega) |>.trans (put6_below _ _ _ _ _ hg1)
            have hR3 : SpRow W3 (w.heap.size + 1) (.slice (some ⟨g, 0, none⟩) S.length cp) (S.set i (shutS ⟨s0, s1, s2, s3, s4, s5⟩ tm)) := by
              rw [hW3]
              unfold SpRow
              rw [List.length_set]
              exact put6_row (ownsRow_later (w := W.drew) HRW.out hB2) hil _
            rw [← shutI_set HS.out] at hR3
            have HB3 : Hid (Below w.heap.size w W3) := HBW.out.trans (hB3.mono (by omega))
            have hoth : ∀ k, k ≠ g → k < W.heap.size → W3.heap[k]? = W.heap[k]? := fun k hk hlt => by
              rw [hW3, put6_other _ _ _ _ _ hk]
              exact hB2.block k hlt
            have HM3 : Hid (KMap 118 plK W3 w.heap.size t (openF S)) := HMW.out.same (hoth _ (by omega) HMW.out.lt)
            have q1 : W3.cell? ⟨wr.heap.size + 1, 0, none⟩ = some (.int .u32 aa) := by rw [cell_same_block (hoth _ (by show wr.heap.size + 1 ≠ _; omega) (by show wr.heap.size + 1 < _; omega))]; exact D0.out.1
            have q2 : W3.cell? ⟨wr.heap.size + 1, 1, none⟩ = some (.int .i64 bb) := by rw [cell_same_block (hoth _ (by show wr.heap.size + 1 ≠ _; omega) (by show wr.heap.size + 1 < _; omega))]; exact D0.out.2
            have HR3 : Hid (SpRow W3 (w.heap.size + 1) (.slice (some ⟨g, 0, none⟩) S.length cp) (shutI S (some i) tm)) := hR3
            have HB3' : Hid (Below (w.heap.size + 1) W W3) := hB3
            clear hW3 hoth hB3 hR3
            go_wp2_with (at_delete; refine wpl_drop _ rfl _ _ 116 rfl placeK 3 Tryz.underlying116 rfl HM3.out (aa, bb) hP rfl ?_; intro w4 hm4 ht4; have HM4 : Hid (KMap 118 plK w4 w.heap.size t _) := hm4; have HT4 : Hid (W3.mapTurned w4 w.heap.size) := ht4; clear hm4 ht4)
            have R1 : SpRow w4 (w.heap.size + 1) (.slice (some ⟨g, 0, none⟩) S.length cp) (spans (l.take (t + 1))) := by
              rw [HT.out, show stepS S ⟨3, tm, sb, aa, bb⟩ = shutI S (some i) tm from by unfold stepS; rw [if_neg (show ¬ (3 : Int) = 2 by decide), if_pos rfl, HO.out]]
              exact ownsRow_same HR3.out fun k hk => HT4.out.grown.block k (ownsRow_lt HR3.out hk).2 (fun e => by have := (ownsRow_lt HR3.out hk).1; have := Option.some.inj e; omega)
            have R2 : KMap 118 plK w4 w.heap.size (t + 1) (openF (spans (l.take (t + 1)))) := by
              rw [HT.out]
              exact (HM4.out.ext (fun y => openF_release (e := ⟨3, tm, sb, aa, bb⟩) HU.out rfl y)).mono (by omega)
            have R3 : Below w.heap.size w w4 := HB3.out.grown HT4.out.grown HB3.out.size (fun k hk => by injection hk with hk; omega)
            have R4 : w.heap.size + 1 ≤ w4.heap.size := by have := HT4.out.grown.size; have := HM3.out.lt; omega
            clear HM4 HT4 HR3 HB3'
            go_wp2
            go_roundg (l.length - (t + 1))
            case rel => exact ⟨t + 1, _, by omega, rfl, by go_num, R1, R2, R3, R4⟩
            case measure => omega
        | none =>
          have hf : openF S (aa, bb) = none := by simp only [openF, ho, Option.map_none]
          have R1 : Hid (SpRow W (w.heap.size + 1) r (spans (l.take (t + 1)))) := by
            show SpRow _ _ _ _
            rw [HT.out, show stepS S ⟨3, tm, sb, aa, bb⟩ = S from by unfold stepS; rw [if_neg (show ¬ (3 : Int) = 2 by decide), if_pos rfl, ho]; rfl]
            exact HRW.out
          have R2 : Hid (KMap 118 plK W w.heap.size (t + 1) (openF (spans (l.take (t + 1))))) := by
            show KMap _ _ _ _ _ _
            rw [HT.out, show stepS S ⟨3, tm, sb, aa, bb⟩ = S from by unfold stepS; rw [if_neg (show ¬ (3 : Int) = 2 by decide), if_pos rfl, ho]; rfl]
            exact HMW.out.mono (by omega)
          clear ho
          go_wp2_with (at_lookup; rw [← HW.out]; refine wpl_look_none _ rfl _ _ 116 rfl placeK 3 Tryz.underlying116 (hz3 _) rfl HMW.out (aa, bb) hP hf rfl ?_)
          go_roundg (l.length - (t + 1))
          case rel => exact ⟨t + 1, _, by omega, rfl, by go_num, R1.out, R2.out, HBW.out, by omega⟩
          case measure => omega
      · have HS0 : Hid (stepS S ⟨kd, tm, sb, aa, bb⟩ = S) := by
          show _ = _
          unfold stepS; rw [if_neg hk2, if_neg hk3]
        have R1 : Hid (SpRow W (w.heap.size + 1) r (spans (l.take (t + 1)))) := by
          show SpRow _ _ _ _
          rw [HT.out, HS0.out]; exact HRW.out
        have R2 : Hid (KMap 118 plK W w.heap.size (t + 1) (openF (spans (l.take (t + 1))))) := by
          show KMap _ _ _ _ _ _
          rw [HT.out, HS0.out]; exact HMW.out.mono (by omega)
        go_wp2_with (at_lookup; rw [← HW.out]; refine wpl_look_ok _ rfl _ _ 116 rfl placeK 3 Tryz.underlying116 (hz3 _) rfl HMW.out (aa, bb) hP rfl ?_; generalize (openF S (aa, bb)).getD (.int .i64 0) = zz; generalize (openF S (aa, bb)).isSome = bz)
        go_roundg (l.length - (t + 1))
        case rel => exact ⟨t + 1, _, by omega, rfl, by go_num, R1.out, R2.out, HBW.out, by omega⟩
        case measure => omega

end Go.Proofs.YtafkkehcacdodaaGreat

namespace Go.Proofs.YtafkkehcacdodaaGreat
open Go.RowKit Go.Maps

/-- One span behind a row of the call's own: where the new row lies. -/
theorem append_sp_at (W : World) (base : Nat) (v : Value) (l : List Sp) (s : Sp) (b : Nat) (hv : SpRow W base v l) (hs : SpAt W b 0 s) (hbase : base ≤ W.heap.size) (hlen : l.length ≤ 1000000) :
    ∃ v' w', (Builtin.append_ #[57, 57] 57 #[v, .slice (some ⟨b, 0, none⟩) 1 1]).run Tryz.prog W = .ok v' w' ∧ SpRow w' base v' (l ++ [s]) ∧ W.grownBy w' v.ownBlock ∧ Below base W w' ∧
      (v'.ownBlock = v.ownBlock ∨ v'.ownBlock = some W.heap.size) := by
  obtain ⟨i0, hi, hz0, hz1, hz2⟩ := info_parts infoSp
  obtain ⟨v', w', hr, ho, hg, -, hat⟩ := run_append_own_at (P := Tryz.prog) W base 57 57 59 i0 (.agg #[.int .u32 0, .int .u32 0, .int .i64 0, .int .i64 0, .int .i64 0, .bool false]) 6 40 Tryz.underlying57 hi hz0 hz1 hz2 rfl (by decide) v l.length (l.flatMap spC) hv
    ⟨b, 0, none⟩ 1 1 (spC s) rfl (by
      intro j u hj
      rw [add_at, Nat.zero_add]
      obtain ⟨c0, c1, c2, c3, c4, c5⟩ := hs
      have hj6 : j < 6 := (List.getElem?_eq_some_iff.1 hj).1
      have : j = 0 ∨ j = 1 ∨ j = 2 ∨ j = 3 ∨ j = 4 ∨ j = 5 := by omega
      rcases this with rfl | rfl | rfl | rfl | rfl | rfl <;> simp [spC] at hj <;> subst hj <;> assumption) (by
      intro u hu
      unfold spC at hu
      simp at hu
      rcases hu with rfl | rfl | rfl | rfl | rfl | rfl <;> rfl) (by unfold maxLen; omega) (by omega) hbase
  refine ⟨v', w', hr, ?_, hg, (Below.refl _ _).grown hg hbase (fun k hk => (hv.lt k hk).1), hat⟩
  show w'.ownsRow base _ 6 v' (l ++ [s]).length ((l ++ [s]).flatMap spC)
  rw [List.flatMap_append, List.length_append]
  simpa using ho

/-- Each block's row in memory of its own, apart from all others. -/
structure Grp (w : World) (base : Nat) (f : Pl → Option Value) (G : Pl → List Sp) : Prop where
  row : ∀ p rv, f p = some rv → SpRow w base rv (G p) ∧ G p ≠ []
  off : ∀ p, f p = none → G p = []
  apart : ∀ p q rv rv', f p = some rv → f q = some rv' → p ≠ q → ∀ g, rv.ownBlock = some g → rv'.ownBlock ≠ some g

theorem Grp.later {w w' : World} {base : Nat} {f : Pl → Option Value} {G : Pl → List Sp} (h : Grp w base f G) (hb : Below w.heap.size w w') : Grp w' base f G :=
  ⟨fun p rv hp => ⟨ownsRow_later (h.row p rv hp).1 hb, (h.row p rv hp).2⟩, h.off, h.apart⟩

theorem Grp.same {w w' : World} {base : Nat} {f : Pl → Option Value} {G : Pl → List Sp} (h : Grp w base f G) (hb : ∀ k, base ≤ k → k < w.heap.size → w'.heap[k]? = w.heap[k]?) : Grp w' base f G :=
  ⟨fun p rv hp => ⟨ownsRow_same (h.row p rv hp).1 (fun g hg => hb g (ownsRow_lt (h.row p rv hp).1 hg).1 (ownsRow_lt (h.row p rv hp).1 hg).2), (h.row p rv hp).2⟩, h.off, h.apart⟩

theorem grp_none (w : World) (base : Nat) : Grp w base (fun _ => none) (fun _ => []) :=
  ⟨fun p rv h => (by cases h), fun p _ => rfl, fun p q rv rv' h => (by cases h)⟩

theorem Grp.ext {w : World} {base : Nat} {f f' : Pl → Option Value} {G G' : Pl → List Sp} (h : Grp w base f G) (hf : ∀ p, f p = f' p) (hG : ∀ p, G p = G' p) : Grp w base f' G' := by
  have e1 : f = f' := funext hf
  have e2 : G = G' := funext hG
  exact e1 ▸ e2 ▸ h

/-- The row at a block, nil where there is none. -/
theorem Grp.get {w : World} {base : Nat} {f : Pl → Option Value} {G : Pl → List Sp} (h : Grp w base f G) (p : Pl) : SpRow w base ((f p).getD (.slice none 0 0)) (G p) := by
  cases hf : f p with
  | none => rw [h.off p hf]; exact World.ownsRow_nil _ _ _ _
  | some rv => exact (h.row p rv hf).1

/-- One row has grown. -/
theorem Grp.grow {w w' : World} {base : Nat} {f : Pl → Option Value} {G : Pl → List Sp} (h : Grp w base f G) (p : Pl) (v' : Value) (s : Sp) (hr : SpRow w' base v' (G p ++ [s])) (hg : w.grownBy w' ((f p).getD (.slice none 0 0)).ownBlock)
    (hat : v'.ownBlock = ((f p).getD (.slice none 0 0)).ownBlock ∨ v'.ownBlock = some w.heap.size) : Grp w' base (fun y => if y = p then some v' else f y) (fun y => if y = p then G y ++ [s] else G y) := by
  refine ⟨fun q rv hq => ?_, fun q hq => ?_, fun q q' rv rv' hq hq' hne => ?_⟩
  · by_cases e : q = p
    · subst e
      simp at hq
      subst hq
      simp only [if_pos]
      exact ⟨hr, by simp⟩
    · simp only [if_neg e] at hq ⊢
      obtain ⟨h1, h2⟩ := h.row q rv hq
      refine ⟨ownsRow_same h1 fun g hgb => hg.block g (ownsRow_lt h1 hgb).2 fun he => ?_, h2⟩
      cases hf : f p with
      | none => rw [hf] at he; cases he
      | some u =>
        rw [hf] at he
        exact h.apart q p rv u hq hf e g hgb he.symm
  · by_cases e : q = p
    · simp [e] at hq
    · simp only [if_neg e] at hq ⊢
      exact h.off q hq
  · have key : ∀ q rv, q ≠ p → f q = some rv → ∀ g, rv.ownBlock = some g → v'.ownBlock ≠ some g := fun q rv e hq g hgb he => by
      obtain ⟨h1, h2⟩ := h.row q rv hq
      have hlt := (ownsRow_lt h1 hgb).2
      rcases hat with ha | ha
      · rw [he] at ha
        cases hf : f p with
        | none => rw [hf] at ha; cases ha
        | some u =>
          rw [hf] at ha
          exact h.apart q p rv u hq hf e g hgb ha.symm
      · rw [he] at ha
        injection ha with ha
        omega
    by_cases e : q = p
    · subst e
      have e' : ¬ q' = q := fun h => hne h.symm
      simp only [if_pos] at hq
      simp only [if_neg e'] at hq'
      injection hq with hq
      subst hq
      intro g hgb he
      exact key q' rv' e' hq' g he hgb
    · simp only [if_neg e] at hq
      by_cases e' : q' = p
      · subst e'
        simp only [if_pos] at hq'
        injection hq' with hq'
        subst hq'
        intro g hgb
        exact key q rv e hq g hgb
      · simp only [if_neg e'] at hq'
        exact h.apart q q' rv rv' hq hq' hne

/-- One row has been put in another order. -/
theorem Grp.turn {w w' : World} {base : Nat} {f : Pl → Option Value} {G : Pl → List Sp} (h : Grp w base f G) (p : Pl) (rv : Value) (hp : f p = some rv) (r : List Sp) (hr : SpRow w' base rv r) (hne : r ≠ []) (hg : w.grownBy w' rv.ownBlock) :
    Grp w' base f (fun y => if y = p then r else G y) := by
  refine ⟨fun q rv' hq => ?_, fun q hq => ?_, h.apart⟩
  · by_cases e : q = p
    · subst e
      rw [hp] at hq
      injection hq with hq
      subst hq
      simp only [if_pos]
      exact ⟨hr, hne⟩
    · simp only [if_neg e]
      obtain ⟨h1, h2⟩ := h.row q rv' hq
      exact ⟨ownsRow_same h1 fun g hgb => hg.block g (ownsRow_lt h1 hgb).2 fun he => h.apart q p rv' rv hq hp e g hgb he.symm, h2⟩
  · by_cases e : q = p
    · subst e
      rw [hp] at hq
      cases hq
    · simp only [if_neg e]
      exact h.off q hq

theorem lawPlK : Go.WideMaps.KeyLaw Tryz.prog 118 :=
  deep_law_laid laidOut (m := 3) (by omega) rowPl (by kernel_rfl) (by rw [Tryz.underlying118])

end Go.Proofs.YtafkkehcacdodaaGreat

namespace Go.Proofs.YtafkkehcacdodaaGreat
open Go.RowKit Go.Maps

/-- What rows hands back. -/
structure RowsOf (w : World) (base mb : Nat) (l : List Sp) (f : Pl → Option Value) (G : Pl → List Sp) : Prop where
  map : KMap 118 plK w mb l.length f
  grp : Grp w base f G
  perm : ∀ p, (G p).Perm (rowOf l p.1 p.2)
  up : ∀ p, (G p).Pairwise (fun x y => x.frm ≤ y.frm)

end Go.Proofs.YtafkkehcacdodaaGreat
