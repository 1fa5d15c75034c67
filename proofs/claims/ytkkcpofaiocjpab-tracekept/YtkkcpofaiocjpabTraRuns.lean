/- trace.runs: the spans of one subscriber joined, where they meet. -/
import Derived.Test.YtkkcpofaiocjpabTraRunRow
import Derived.Test.YtkkcpofaiocjpabTraKey
import Derived.Test.YtkkcpofaiocjpabTraStep
set_option maxRecDepth 100000
namespace Go.Proofs.Ytkkcpofaiocjpab
open Go.RowKit Go.Shelf Go.Maps

/-- An append whose run is known, as one step of a region that draws its order. -/
theorem step_append_run {P : Program} {ops : Array Oper} {o : Oper} {a : Act} {w : World} {K : Act → World → Prop} {Q : Exit → Act → World → Prop} {E : Prop} (hg : o.guard = none) (s x : Operand) (t : TypeId)
    (hop : o.op = Op.call { callee := Callee.builtin Builtin.append, args := #[s, x], argTypes := #[t, t] }) (V X : Value) (hs : a.eval s = V) (hx : a.eval x = X) {v' : Value} {w' : World}
    (hrun : (Builtin.append_ #[t, t] o.type #[V, X]).run P w = .ok v' w') (hK : K (a.put o.dst v') w') : if Region.wanted o (yielded ops a.tmps) = true then Oper.wp P o a w K Q else E := by
  have hw : Region.wanted o (yielded ops a.tmps) = true := by simp [Region.wanted, hg]
  rw [if_pos hw]
  unfold Oper.wp
  simp [execOp, hop, resolve, invoke, builtin, hs, hx, hrun, Result.andThen]
  exact hK

theorem enters_end : ∀ (args : Array Value) (w : World), (callFunc 19 args).run Try.prog w = .ok (.enter 19 args) w := enters_of Try.func19 (by kernel_rfl) rfl

def ixF (ix : Int → Option Nat) (u : Int) : Option Value := (ix u).map (fun (i : Nat) => Value.int .i64 (i : Int))

set_option maxHeartbeats 8000000 in
theorem runs_ok (v : Value) (B O : Nat) (l : List Sp) (w : World) (h : Sps w v B O l) (hok : OkAll l) (hl : l.length ≤ 1000) (hup : l.Pairwise (fun x y => x.frm ≤ y.frm)) (hfull : ∀ s ∈ l, s.frm ≤ endS s) :
    Calls Try.prog 13 #[v] w fun e w' => ∃ r out, e = .returned r ∧ RuRow w' (w.heap.size + 1) r out ∧ RunsOf l out ∧ out.length ≤ l.length ∧ Below w.heap.size w w' := by
  obtain ⟨ad, cap, rfl, h2, h3, h4, h5⟩ := h
  have H5 : Hid (∀ i s, l[i]? = some s → SpAt w B (O + i * 6) s) := h5
  have HOK : Hid (OkAll l) := hok
  have HUP : Hid (l.Pairwise (fun x y => x.frm ≤ y.frm)) := hup
  have HFU : Hid (∀ s ∈ l, s.frm ≤ endS s) := hfull
  unfold maxLen at h3
  have hmm := @run_makeMap Try.prog
  have hz3 := Try.zeroValue3
  clear h5 hok hup hfull
  go_enter Try.func13, Try.ntmps13
  go_wp2
  go_loopg [3, 12] l.length (fun gk rv i wr => ∃ (t : Nat) (r : Value) (out : List Ru) (ix : Int → Option Nat), t + gk = l.length ∧ r = rv ∧ i = .int .i64 (t : Int) ∧ out.length ≤ t ∧ RuRow wr (w.heap.size + 1) r out ∧ RunsOf (l.take t) out ∧ (∀ u, IdxOf out u (ix u)) ∧
    KMap 23 subK wr w.heap.size t (ixF ix) ∧ Below w.heap.size w wr ∧ w.heap.size + 1 ≤ wr.heap.size)
  case atStart => exact ⟨0, _, [], fun _ => none, by omega, rfl, rfl, by simp, World.ownsRow_nil _ _ _ _, runsOf_nil, idx_nil, (KMap.made w).ext (fun p => rfl), (below_alloc w _), by simp⟩
  case round =>
    obtain ⟨t, r, out, ix, ht, rfl, rfl, hol, hrow, hro, hix, hmap, hbel, hsz⟩ := hrel
    by_cases hlt : t < l.length
    case neg =>
      have hte : t = l.length := by omega
      subst hte
      rw [List.take_length] at hro
      have hge : ¬ ((l.length : Int) < (l.length : Int)) := by omega
      have HR : Hid (RuRow wr (w.heap.size + 1) r out) := hrow
      have HRO : Hid (RunsOf l out) := hro
      have HIX : Hid (∀ u, IdxOf out u (ix u)) := hix
      clear hrow hro hix hmap
      go_wp2
      go_ret
      exact ⟨_, rfl, out, HR.out, HRO.out, hol, hbel⟩
    obtain ⟨s, hs⟩ : ∃ s, l[t]? = some s := ⟨_, List.getElem?_eq_getElem hlt⟩
    obtain rfl : ad = some ⟨B, O, none⟩ := by
      rcases h4 with h4 | h4
      · exact h4
      · subst h4; simp at hlt
    have hsm := List.mem_of_getElem? hs
    have hOs := HOK.out s hsm
    have hFs := HFU.out s hsm
    have hUs : ∀ x ∈ l.take t, x.frm ≤ s.frm := by
      intro x hx
      obtain ⟨j, hj⟩ := List.getElem?_of_mem hx
      have hjt : j < t := by have := (List.getElem?_eq_some_iff.1 hj).1; rw [List.length_take] at this; omega
      rw [List.getElem?_take_of_lt hjt] at hj
      obtain ⟨q1, q2⟩ := List.getElem?_eq_some_iff.1 hj
      obtain ⟨q3, q4⟩ := List.getElem?_eq_some_iff.1 hs
      have := List.pairwise_iff_getElem.1 HUP.out j t q1 q3 hjt
      rw [q2, q4] at this
      exact this
    have HT : Hid (l.take (t + 1) = l.take t ++ [s]) := by
      show _ = _
      rw [List.take_add_one, hs]; rfl
    have HADD : Hid (∀ o, IdxOf out s.sub o → (∀ i x, o = some i → out[i]? = some x → x.til < s.frm) → RunsOf (l.take (t + 1)) (out ++ [⟨s.sub, s.frm, endS s, 0⟩])) := fun o hi hl => by
      rw [HT.out]; exact hro.add hOs hFs hUs hi hl
    have HJOIN : Hid (∀ i x, IdxOf out s.sub (some i) → out[i]? = some x → s.frm ≤ x.til → RunsOf (l.take (t + 1)) (out.set i { x with til := max x.til (endS s) })) := fun i x hi hx hle => by
      rw [HT.out]; exact hro.join hOs hFs hUs hi hx hle
    obtain ⟨c0, c1, c2, c3, c4, c5⟩ := spAt_later (H5.out t s hs) hbel
    have hltI : (t : Int) < (l.length : Int) := by omega
    have hSU : OkU s.sub := ⟨hOs.sub0, hOs.sub1⟩
    have HEn := fun W' => end_any s W'
    have HLn : Hid (out.length ≤ t) := hol
    have HIX : Hid (∀ u, IdxOf out u (ix u)) := hix
    clear hs hlt hsm hOs hFs hUs hro hix
    obtain ⟨s0, s1, s2, s3, s4, s5⟩ := s
    simp only at c0 c1 c2 c3 c4 c5 HADD HJOIN HT hSU
    simp only [spV] at HEn
    generalize hE : endS ⟨s0, s1, s2, s3, s4, s5⟩ = E at *
    clear hE
    obtain ⟨W, hW⟩ : ∃ W, W = wr.alloc (.cells #[.int .u32 s0, .int .u32 s1, .int .i64 s2, .int .i64 s3, .int .i64 s4, .bool s5] 32) := ⟨_, rfl⟩
    have hB1 : Below wr.heap.size wr W := by rw [hW]; exact below_alloc _ _
    have hWs : W.heap.size = wr.heap.size + 1 := by rw [hW]; simp
    have K0 : SpAt W wr.heap.size 0 ⟨s0, s1, s2, s3, s4, s5⟩ := by
      rw [hW]
      exact ⟨by simp, by simp, by simp, by simp, by simp, by simp⟩
    have HK0 : Hid (SpAt W wr.heap.size 0 ⟨s0, s1, s2, s3, s4, s5⟩) := K0
    have HW : Hid (W = wr.alloc (.cells #[.int .u32 s0, .int .u32 s1, .int .i64 s2, .int .i64 s3, .int .i64 s4, .bool s5] 32)) := hW
    have HR0 : Hid (RuRow wr (w.heap.size + 1) r out) := hrow
    have HRW : Hid (RuRow W (w.heap.size + 1) r out) := ownsRow_later hrow hB1
    have HMW : Hid (KMap 23 subK W w.heap.size t (ixF ix)) := hmap.later hB1
    have HBW : Hid (Below w.heap.size w W) := hbel.trans (hB1.mono hbel.size)
    have HM2 : Hid (∀ wx, Below W.heap.size W wx → wx.heap.size ≥ wr.heap.size + 1) := fun wx hx => by have := hx.size; omega
    have HBq : Hid (∀ wx, Below W.heap.size W wx → SpAt wx wr.heap.size 0 ⟨s0, s1, s2, s3, s4, s5⟩ ∧ RuRow wx (w.heap.size + 1) r out ∧ KMap 23 subK wx w.heap.size t (ixF ix) ∧ Below w.heap.size w wx) :=
      fun wx hx => ⟨spAt_later HK0.out hx, ownsRow_later HRW.out hx, HMW.out.later hx, HBW.out.trans (hx.mono HBW.out.size)⟩
    obtain ⟨k0, -, -, k3, -, -⟩ := K0
    clear hW hrow hmap hbel hB1
    cases hio : ix s0 with
    | some i =>
      have HIO : Hid (ix s0 = some i) := hio
      have hf : ixF ix s0 = some (.int .i64 (i : Int)) := by simp only [ixF, hio, Option.map_some]
      have hI := HIX.out s0
      rw [hio] at hI
      obtain ⟨⟨x, hx, hxu⟩, hI2⟩ := hI
      have hil : i < out.length := (List.getElem?_eq_some_iff.1 hx).1
      obtain ⟨g, cp, rfl, hg1, hg2, hg3⟩ := ownsRow_slice HRW.out (by omega)
      obtain ⟨q0, q1, q2, q3⟩ := ruRow_at HRW.out rfl hx
      have hgW : g < wr.heap.size := (ownsRow_lt HR0.out rfl).2
      have HX : Hid (out[i]? = some x) := hx
      have hili : (i : Int) < (out.length : Int) := by omega
      have hf0 := fun j => ownsRow_frozen HRW.out j
      clear hio hx hxu hI2
      go_wp2_with (at_lookup; rw [← HW.out]; refine wpl_look_some _ rfl _ _ 64 rfl subKey 3 Try.underlying64 (hz3 _) rfl HMW.out s0 hSU _ hf rfl ?_)
      clear c0 c1 c2 c3 c4 c5
      by_cases hle : s3 ≤ x.til
      · go_quiet (fail)
        have HB2 : Hid (Below W.heap.size W (W.drewN nq)) := below_drewN10 _ _
        generalize W.drewN nq = W2 at HB2 ⊢
        clear nq k0 k3 q0 q1 q2 q3 hf0
        have KC : Hid (∀ wx, Below W2.drew.heap.size W2.drew wx → wx.cell? ⟨wr.heap.size, 0, none⟩ = some (.int .u32 s0) ∧ wx.cell? ⟨wr.heap.size, 1, none⟩ = some (.int .u32 s1) ∧ wx.cell? ⟨wr.heap.size, 2, none⟩ = some (.int .i64 s2) ∧ wx.cell? ⟨wr.heap.size, 3, none⟩ = some (.int .i64 s3) ∧ wx.cell? ⟨wr.heap.size, 4, none⟩ = some (.int .i64 s4) ∧ wx.cell? ⟨wr.heap.size, 5, none⟩ = some (.bool s5) ∧
            wx.cell? ⟨g, i * 4 + 2, none⟩ = some (.int .i64 x.til) ∧ wx.frozen? ⟨g, i * 4 + 2, none⟩ = false) := fun wx hx => by
          have hx : Below W2.heap.size W2 wx := below_trans (Below.refl _ _).drew hx
          obtain ⟨hk, hr, -, -⟩ := HBq.out wx (below_trans HB2.out hx)
          obtain ⟨a0, a1, a2, a3, a4, a5⟩ := hk
          exact ⟨a0, a1, a2, a3, a4, a5, (ruRow_at hr rfl HX.out).2.2.1, ownsRow_frozen hr _⟩
        obtain ⟨k0, k1, k2, k3, k4, k5, k6, k7⟩ := KC.out W2.drew (Below.refl _ _)
        go_wp2
        go_region_law (first
          | (refine step_calls rfl 19 #[.tmp 41] #[32] rfl #[.agg #[.int .u32 s0, .int .u32 s1, .int .i64 s2, .int .i64 s3, .int .i64 s4, .bool s5]] (by go_simp) enters_end (by with_reducible exact HEn _) ?_; rintro e w1 ⟨rfl, hB3⟩; refine ⟨_, rfl, ?_⟩; obtain ⟨k0, k1, k2, k3, k4, k5, k6, k7⟩ := KC.out _ hB3))
        all_goals
          clear k0 k1 k2 k3 k4 k5 k6 k7
          have hB4 : Below W2.heap.size W2 w1 := below_trans (Below.refl _ _).drew hB3
          obtain ⟨-, hr, hm, hb⟩ := HBq.out w1 (below_trans HB2.out hB4)
          generalize hW3 : World.setCell _ _ _ = W3
          have hmx : (if x.til < E then E else x.til) = max x.til E := by rw [Int.max_def]; split <;> split <;> omega
          generalize (if x.til < E then E else x.til) = mx at hmx hW3 ⊢
          subst hmx
          have hW3 : W3 = w1.setCell ⟨g, i * 4 + 2, none⟩ (.int .i64 (max x.til E)) := hW3.symm
          have R1 : RuRow W3 (w.heap.size + 1) (.slice (some ⟨g, 0, none⟩) out.length cp) (out.set i { x with til := max x.til E }) := by
            rw [hW3]
            unfold RuRow
            rw [List.length_set]
            exact ruRow_til hr HX.out _
          have R2 : KMap 23 subK W3 w.heap.size (t + 1) (ixF ix) := by
            rw [hW3]
            exact (hm.same (heap_setCell_other _ _ _ _ (by show w.heap.size ≠ g; omega))).mono (by omega)
          have R3 : Below w.heap.size w W3 := by
            rw [hW3]
            exact hb.setCell (p := ⟨g, i * 4 + 2, none⟩) (by show w.heap.size ≤ g; omega) _
          have hlt3 : g < W3.heap.size := (ownsRow_lt R1 rfl).2
          have R4 : w.heap.size + 1 ≤ W3.heap.size := by omega
          have R5 : RunsOf (l.take (t + 1)) (out.set i { x with til := max x.til E }) := HJOIN.out i x (by rw [← HIO.out]; exact HIX.out s0) HX.out hle
          have R6 : ∀ u, IdxOf (out.set i { x with til := max x.til E }) u (ix u) := fun u => idx_set (HIX.out u) HX.out rfl
          clear hW3 hr hm hb hB3 hB4 KC HBq HK0 HR0 HRW HMW HBW HM2 HW
          go_wp2
          go_roundg (l.length - (t + 1))
          case rel => exact ⟨t + 1, _, out.set i { x with til := max x.til E }, ix, by omega, rfl, by go_num, by rw [List.length_set]; have := HLn.out; omega, R1, R5, R6, R2, R3, R4⟩
          case measure => omega
      · go_quiet (fail)
        have HB2 : Hid (Below W.heap.size W (W.drewN nq)) := below_drewN10 _ _
        generalize W.drewN nq = W2 at HB2 ⊢
        clear nq k0 k3 q0 q1 q2 q3 hf0
        have HK2 : Hid (∀ w4, W2.mapTurned w4 w.heap.size → SpAt w4 wr.heap.size 0 ⟨s0, s1, s2, s3, s4, s5⟩ ∧ RuRow w4 (w.heap.size + 1) (.slice (some ⟨g, 0, none⟩) out.length cp) out ∧ Below w.heap.size w w4 ∧ w.heap.size + 1 ≤ w4.heap.size) := fun w4 h4 => by
          obtain ⟨hk, hr, -, hb⟩ := HBq.out W2 HB2.out
          have hne : ∀ k : Nat, k ≠ w.heap.size → some k ≠ some w.heap.size := fun k h e => h (Option.some.inj e)
          obtain ⟨a0, a1, a2, a3, a4, a5⟩ := hk
          refine ⟨⟨grown_cell h4.grown (hne _ (by show wr.heap.size ≠ _; omega)) a0, grown_cell h4.grown (hne _ (by show wr.heap.size ≠ _; omega)) a1, grown_cell h4.grown (hne _ (by show wr.heap.size ≠ _; omega)) a2, grown_cell h4.grown (hne _ (by show wr.heap.size ≠ _; omega)) a3, grown_cell h4.grown (hne _ (by show wr.heap.size ≠ _; omega)) a4, grown_cell h4.grown (hne _ (by show wr.heap.size ≠ _; omega)) a5⟩, ?_, ?_, ?_⟩
          · exact ownsRow_same hr fun k hk => h4.grown.block k (ownsRow_lt hr hk).2 (hne k (by have := (ownsRow_lt hr hk).1; omega))
          · exact hb.grown h4.grown hb.size (fun k hk => by injection hk with hk; omega)
          · have := h4.grown.size; have := hb.size; have := HB2.out.size; omega
        have HMq := (HBq.out W2 HB2.out).2.2.1
        have HMQ : Hid (KMap 23 subK W2 w.heap.size t (ixF ix)) := HMq
        clear HMq
        have hk0 := (HBq.out W2 HB2.out).1.1
        go_wp2_with (at_mapUpdate; refine wpl_store _ rfl _ _ _ 64 rfl subKey 3 Try.underlying64 rfl HMQ.out (by unfold maxLen; omega) s0 hSU rfl _ rfl ?_; intro w4 hm4 ht4; have HT4 : Hid (W2.mapTurned w4 w.heap.size) := ht4; have HM4 : Hid (KMap 23 subK w4 w.heap.size (t + 1) _) := hm4; clear hm4 ht4)
        obtain ⟨hk4, hr4, hb4, hs4⟩ := HK2.out w4 HT4.out
        have HR4 : Hid (RuRow w4 (w.heap.size + 1) (.slice (some ⟨g, 0, none⟩) out.length cp) out) := hr4
        have HB4 : Hid (Below w.heap.size w w4) := hb4
        have HS4 : Hid (w.heap.size + 1 ≤ w4.heap.size) := hs4
        have KC : Hid (∀ wx, Below w4.drew.heap.size w4.drew wx → SpAt wx wr.heap.size 0 ⟨s0, s1, s2, s3, s4, s5⟩) := fun wx hx => spAt_later hk4 (below_trans (Below.refl _ _).drew hx)
        have HAP : Hid (∀ wx, Below w4.drew.heap.size w4.drew wx → ∃ v' w5, (Builtin.append_ #[47, 47] 47 #[.slice (some ⟨g, 0, none⟩) out.length cp, .slice (some ⟨wx.heap.size, 0, none⟩) 1 1]).run Try.prog (wx.alloc (.cells #[.int .u32 s0, .int .i64 s3, .int .i64 E, .int .i64 0] 66)) = .ok v' w5 ∧
            RuRow w5 (w.heap.size + 1) v' (out ++ [⟨s0, s3, E, 0⟩]) ∧ KMap 23 subK w5 w.heap.size (t + 1) (fun y => if y = s0 then some (.int .i64 (out.length : Int)) else ixF ix y) ∧ Below w.heap.size w w5 ∧ w.heap.size + 1 ≤ w5.heap.size) := fun wx hx => by
          have hx : Below w4.heap.size w4 wx := below_trans (Below.refl _ _).drew hx
          have hsx : w.heap.size + 1 ≤ wx.heap.size := Nat.le_trans HS4.out hx.size
          obtain ⟨v', w5, e1, e2, e3, e4⟩ := append_ru wx (w.heap.size + 1) _ out s0 s3 E (ownsRow_later HR4.out hx) hsx (by have := HLn.out; omega)
          refine ⟨v', w5, e1, e2, ?_, (HB4.out.trans (hx.mono HB4.out.size)).trans (e4.mono (by omega)), Nat.le_trans hsx e4.size⟩
          refine (((HM4.out.later hx).alloc _).kept e3 ?_).ext fun y => by first | rfl | simp
          intro e
          have := (ownsRow_lt HR4.out e.symm).1
          omega
        obtain ⟨k0, k1, k2, k3, k4, k5⟩ := KC.out w4.drew (Below.refl _ _)
        clear hk4 hr4 hb4 hs4 HK2 hk0 HMQ
        go_wp2
        go_region_law (first
          | (refine step_calls rfl 19 #[.tmp 56] #[32] rfl #[.agg #[.int .u32 s0, .int .u32 s1, .int .i64 s2, .int .i64 s3, .int .i64 s4, .bool s5]] (by go_simp) enters_end (by with_reducible exact HEn _) ?_; rintro e w1 ⟨rfl, hB3⟩; refine ⟨_, rfl, ?_⟩; obtain ⟨k0, k1, k2, k3, k4, k5⟩ := KC.out _ hB3; obtain ⟨v', w5, hrun5, hR5, hM5, hB5, hS5⟩ := HAP.out _ hB3)
          | (refine step_append_run rfl (.tmp 51) (.tmp 59) 47 rfl _ _ rfl rfl hrun5 ?_))
        all_goals
          clear k0 k1 k2 k3 k4 k5 KC HAP HBq HK0 HR0 HRW HMW HBW HM2 HW hrun5 HM4 HT4 HR4 HB4 HS4
          have R5 : RunsOf (l.take (t + 1)) (out ++ [⟨s0, s3, E, 0⟩]) := HADD.out _ (HIX.out s0) (fun i2 x2 e2 h2 => by rw [HIO.out] at e2; cases e2; rw [HX.out] at h2; cases h2; omega)
          have R6 : ∀ u, IdxOf (out ++ [⟨s0, s3, E, 0⟩]) u (if u = s0 then some out.length else ix u) := fun u => idx_snoc (HIX.out u) _
          have R2 : KMap 23 subK w5 w.heap.size (t + 1) (ixF (fun u => if u = s0 then some out.length else ix u)) := hM5.ext fun y => by
            unfold ixF
            by_cases hy : y = s0
            · simp [hy]
            · simp [hy]
          clear hM5
          go_wp2
          go_roundg (l.length - (t + 1))
          case rel => exact ⟨t + 1, _, out ++ [⟨s0, s3, E, 0⟩], _, by omega, rfl, by go_num, by rw [List.length_append]; have := HLn.out; simp; omega, hR5, R5, R6, R2, hB5, hS5⟩
          case measure => omega
    | none =>
      have HIO : Hid (ix s0 = none) := hio
      obtain ⟨ra, rc, rfl, -, -, -⟩ := ownsRow_shape HRW.out
      have hf : ixF ix s0 = none := by simp only [ixF, hio, Option.map_none]
      clear hio
      go_wp2_with (at_lookup; rw [← HW.out]; refine wpl_look_none _ rfl _ _ 64 rfl subKey 3 Try.underlying64 (hz3 _) rfl HMW.out s0 hSU hf rfl ?_)
      clear c0 c1 c2 c3 c4 c5
      go_quiet (fail)
      have HB2 : Hid (Below W.heap.size W (W.drewN nq)) := below_drewN10 _ _
      generalize W.drewN nq = W2 at HB2 ⊢
      clear nq k0 k3
      have HK2 : Hid (∀ w4, W2.mapTurned w4 w.heap.size → SpAt w4 wr.heap.size 0 ⟨s0, s1, s2, s3, s4, s5⟩ ∧ RuRow w4 (w.heap.size + 1) (.slice ra out.length rc) out ∧ Below w.heap.size w w4 ∧ w.heap.size + 1 ≤ w4.heap.size) := fun w4 h4 => by
        obtain ⟨hk, hr, -, hb⟩ := HBq.out W2 HB2.out
        have hne : ∀ k : Nat, k ≠ w.heap.size → some k ≠ some w.heap.size := fun k h e => h (Option.some.inj e)
        obtain ⟨a0, a1, a2, a3, a4, a5⟩ := hk
        refine ⟨⟨grown_cell h4.grown (hne _ (by show wr.heap.size ≠ _; omega)) a0, grown_cell h4.grown (hne _ (by show wr.heap.size ≠ _; omega)) a1, grown_cell h4.grown (hne _ (by show wr.heap.size ≠ _; omega)) a2, grown_cell h4.grown (hne _ (by show wr.heap.size ≠ _; omega)) a3, grown_cell h4.grown (hne _ (by show wr.heap.size ≠ _; omega)) a4, grown_cell h4.grown (hne _ (by show wr.heap.size ≠ _; omega)) a5⟩, ?_, ?_, ?_⟩
        · exact ownsRow_same hr fun k hk => h4.grown.block k (ownsRow_lt hr hk).2 (hne k (by have := (ownsRow_lt hr hk).1; omega))
        · exact hb.grown h4.grown hb.size (fun k hk => by injection hk with hk; omega)
        · have := h4.grown.size; have := hb.size; have := HB2.out.size; omega
      have HMq := (HBq.out W2 HB2.out).2.2.1
      have HMQ : Hid (KMap 23 subK W2 w.heap.size t (ixF ix)) := HMq
      clear HMq
      have hk0 := (HBq.out W2 HB2.out).1.1
      go_wp2_with (at_mapUpdate; refine wpl_store _ rfl _ _ _ 64 rfl subKey 3 Try.underlying64 rfl HMQ.out (by unfold maxLen; omega) s0 hSU rfl _ rfl ?_; intro w4 hm4 ht4; have HT4 : Hid (W2.mapTurned w4 w.heap.size) := ht4; have HM4 : Hid (KMap 23 subK w4 w.heap.size (t + 1) _) := hm4; clear hm4 ht4)
      obtain ⟨hk4, hr4, hb4, hs4⟩ := HK2.out w4 HT4.out
      have HR4 : Hid (RuRow w4 (w.heap.size + 1) (.slice ra out.length rc) out) := hr4
      have HB4 : Hid (Below w.heap.size w w4) := hb4
      have HS4 : Hid (w.heap.size + 1 ≤ w4.heap.size) := hs4
      have KC : Hid (∀ wx, Below w4.drew.heap.size w4.drew wx → SpAt wx wr.heap.size 0 ⟨s0, s1, s2, s3, s4, s5⟩) := fun wx hx => spAt_later hk4 (below_trans (Below.refl _ _).drew hx)
      have HAP : Hid (∀ wx, Below w4.drew.heap.size w4.drew wx → ∃ v' w5, (Builtin.append_ #[47, 47] 47 #[.slice ra out.length rc, .slice (some ⟨wx.heap.size, 0, none⟩) 1 1]).run Try.prog (wx.alloc (.cells #[.int .u32 s0, .int .i64 s3, .int .i64 E, .int .i64 0] 66)) = .ok v' w5 ∧
          RuRow w5 (w.heap.size + 1) v' (out ++ [⟨s0, s3, E, 0⟩]) ∧ KMap 23 subK w5 w.heap.size (t + 1) (fun y => if y = s0 then some (.int .i64 (out.length : Int)) else ixF ix y) ∧ Below w.heap.size w w5 ∧ w.heap.size + 1 ≤ w5.heap.size) := fun wx hx => by
        have hx : Below w4.heap.size w4 wx := below_trans (Below.refl _ _).drew hx
        have hsx : w.heap.size + 1 ≤ wx.heap.size := Nat.le_trans HS4.out hx.size
        obtain ⟨v', w5, e1, e2, e3, e4⟩ := append_ru wx (w.heap.size + 1) _ out s0 s3 E (ownsRow_later HR4.out hx) hsx (by have := HLn.out; omega)
        refine ⟨v', w5, e1, e2, ?_, (HB4.out.trans (hx.mono HB4.out.size)).trans (e4.mono (by omega)), Nat.le_trans hsx e4.size⟩
        refine (((HM4.out.later hx).alloc _).kept e3 ?_).ext fun y => by first | rfl | simp
        intro e
        have := (ownsRow_lt HR4.out e.symm).1
        omega
      obtain ⟨k0, k1, k2, k3, k4, k5⟩ := KC.out w4.drew (Below.refl _ _)
      clear hk4 hr4 hb4 hs4 HK2 hk0 HMQ
      go_wp2
      go_region_law (first
        | (refine step_calls rfl 19 #[.tmp 56] #[32] rfl #[.agg #[.int .u32 s0, .int .u32 s1, .int .i64 s2, .int .i64 s3, .int .i64 s4, .bool s5]] (by go_simp) enters_end (by with_reducible exact HEn _) ?_; rintro e w1 ⟨rfl, hB3⟩; refine ⟨_, rfl, ?_⟩; obtain ⟨k0, k1, k2, k3, k4, k5⟩ := KC.out _ hB3; obtain ⟨v', w5, hrun5, hR5, hM5, hB5, hS5⟩ := HAP.out _ hB3)
        | (refine step_append_run rfl (.tmp 51) (.tmp 59) 47 rfl _ _ rfl rfl hrun5 ?_))
      all_goals
        clear k0 k1 k2 k3 k4 k5 KC HAP HBq HK0 HR0 HRW HMW HBW HM2 HW hrun5 HM4 HT4 HR4 HB4 HS4
        have R5 : RunsOf (l.take (t + 1)) (out ++ [⟨s0, s3, E, 0⟩]) := HADD.out _ (HIX.out s0) (fun i2 x2 e2 h2 => by rw [HIO.out] at e2; cases e2)
        have R6 : ∀ u, IdxOf (out ++ [⟨s0, s3, E, 0⟩]) u (if u = s0 then some out.length else ix u) := fun u => idx_snoc (HIX.out u) _
        have R2 : KMap 23 subK w5 w.heap.size (t + 1) (ixF (fun u => if u = s0 then some out.length else ix u)) := hM5.ext fun y => by
          unfold ixF
          by_cases hy : y = s0
          · simp [hy]
          · simp [hy]
        clear hM5
        go_wp2
        go_roundg (l.length - (t + 1))
        case rel => exact ⟨t + 1, _, out ++ [⟨s0, s3, E, 0⟩], _, by omega, rfl, by go_num, by rw [List.length_append]; have := HLn.out; simp; omega, hR5, R5, R6, R2, hB5, hS5⟩
        case measure => omega

end Go.Proofs.Ytkkcpofaiocjpab
