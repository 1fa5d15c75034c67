/- release, Grant, Release. -/
import Derived.Test.YtafkkehcacdodaaGreatBokCalls
set_option maxRecDepth 100000
namespace Go.Proofs.YtafkkehcacdodaaGreat
open Go.RowKit Go.Shelf

theorem put_ready (b : Bm) (e : En) : (b.readyE e ≠ 0 ∧ b.putE e = b.readyE e ∧ b.put e = b.ready e) ∨ (b.readyE e = 0 ∧ checkE e = 0 ∧ b.payE = 0 ∧ b.ready e = b.pay ∧ b.putE e = wrtE b.pay.s b.pay.t [e] ∧ b.put e = b.pay.wrote e) := by
  unfold Bm.readyE Bm.ready Bm.putE Bm.put
  by_cases hc : checkE e = 0
  · have hc' : ¬ checkE e ≠ 0 := by simpa using hc
    rw [if_neg hc', if_neg hc', if_neg hc', if_neg hc']
    by_cases hp : b.payE = 0
    · have hp' : ¬ b.payE ≠ 0 := by simpa using hp
      rw [if_neg hp', if_neg hp']
      exact .inr ⟨hp, hc, hp, rfl, rfl, rfl⟩
    · rw [if_pos hp, if_pos hp]
      exact .inl ⟨hp, rfl, rfl⟩
  · rw [if_pos hc, if_pos hc, if_pos hc, if_pos hc]
    exact .inl ⟨hc, rfl, rfl⟩

set_option maxHeartbeats 400000 in
theorem brel_ok (w : World) (now addr block : Int) : Calls Tryz.prog 46 #[.int .i64 now, .int .u32 addr, .int .i64 block] w fun r w' => r = .returned (enV ⟨3, now, 0, addr, block⟩) ∧ Below w.heap.size w w' := by
  go_enter Tryz.func46, Tryz.ntmps46
  go_wp2
  simp [bodyPost, results, Tryz.results46, go_sem]
  exact below_alloc _ _

theorem enters_rel : ∀ (args : Array Value) (w : World), (callFunc 46 args).run Tryz.prog w = .ok (.enter 46 args) w := enters_of Tryz.func46 (by kernel_rfl) rfl

theorem wrote_same {b : Bm} {e : En} (h : ¬ (wrtE b.s b.t [e] ≠ 0 ∧ e.kind = 2 ∧ wrtE b.s b.t [e] ≠ 6)) : b.wrote e = wrB b [e] := by
  unfold Bm.wrote wrB
  rw [if_neg h]

theorem wrote_owe {b : Bm} {e : En} (h : wrtE b.s b.t [e] ≠ 0 ∧ e.kind = 2 ∧ wrtE b.s b.t [e] ≠ 6) : b.wrote e = ⟨(wrB b [e]).s, (wrB b [e]).t, (wrB b [e]).L, (wrB b [e]).D ++ [relE e]⟩ := by
  unfold Bm.wrote wrB
  rw [if_pos h]

/-- A slice of one entry that was just made. -/
theorem far_one {w : World} {tag : Nat → Nat} {base o D B : Nat} {b : Bm} (h : BK w tag base o D B b) (ho : 1 ≤ o) (hbase : base ≤ w.heap.size) (e : En) :
    BK (w.alloc (.cells (enC e) 73)) (clip tag w.heap.size) base o D B b ∧ Far (w.alloc (.cells (enC e) 73)) (clip tag w.heap.size) o (o + 1) (.slice (some ⟨w.heap.size, 0, none⟩) 1 1) [e] ∧
    StepR tag (clip tag w.heap.size) base o (o + 2) w (w.alloc (.cells (enC e) 73)) ∧ base ≤ (w.alloc (.cells (enC e) 73)).heap.size := by
  have hB := below_alloc w (.cells (enC e) 73)
  refine ⟨h.new hB, ⟨?_, fun g hg => ?_⟩, stepR_clip tag base o (o + 2) hbase hB, Nat.le_trans hbase hB.size⟩
  · have := win_one w (enC e) 73 rfl
    rw [List.flatMap_cons, List.flatMap_nil, List.append_nil]
    exact this
  · simp [Value.ownBlock] at hg
    subst hg
    simp [clip]; omega

set_option maxHeartbeats 1000000 in
theorem brelease_ok (w : World) (tag : Nat → Nat) (base o D B : Nat) (ho : 1 ≤ o) (b : Bm) (h : BK w tag base o D B b) (hbase : base ≤ w.heap.size) (now addr block : Int) (hok : En.Ok ⟨3, now, 0, addr, block⟩) (q : Nat) (hb : b.Ok q)
    (hq : q ≤ 700000) (hout : b.s.outs.length ≤ 900000) (hrec : b.t.recs.length ≤ 700000) (hL : b.L.length ≤ 700000) :
    Calls Tryz.prog 17 #[.pointer (some ⟨B, 0, none⟩), .int .i64 now, .int .u32 addr, .int .i64 block] w fun r w' => r = .returned (.int .i64 (b.putE ⟨3, now, 0, addr, block⟩)) ∧ ∃ tag', StepR tag tag' base o (o + 2) w w' ∧ BK w' tag' base o D B (b.put ⟨3, now, 0, addr, block⟩) := by
  have HRel := fun w1 => brel_ok w1 now addr block
  obtain ⟨e, he⟩ : ∃ e : En, e = ⟨3, now, 0, addr, block⟩ := ⟨_, rfl⟩
  rw [← he] at HRel hok ⊢
  have HK : Hid (e.kind = 3) := by show _ = _; rw [he]
  have HH : Hid (BK w tag base o D B b) := h
  have HPR : Hid ((b.readyE e ≠ 0 ∧ b.putE e = b.readyE e ∧ b.put e = b.ready e) ∨ (b.readyE e = 0 ∧ checkE e = 0 ∧ b.payE = 0 ∧ b.ready e = b.pay ∧ b.putE e = wrtE b.pay.s b.pay.t [e] ∧ b.put e = b.pay.wrote e)) := put_ready b e
  have HReady : ∀ w1 tag1, Hid (StepR tag tag1 base o (o + 2) w w1 → BK w1 tag1 base o D B b → Calls Tryz.prog 45 #[.pointer (some ⟨B, 0, none⟩), enV e] w1 fun r w' => r = .returned (.int .i64 (b.readyE e)) ∧ ∃ tag', StepR tag1 tag' base o (o + 2) w1 w' ∧ BK w' tag' base o D B (b.ready e)) :=
    fun w1 tag1 hs hbk => bready_ok w1 tag1 base o D B ho b hbk (Nat.le_trans hbase hs.below.size) e q hb (by omega) hout (by omega) (by omega)
  clear h he
  obtain ⟨k0, k1, k2, k3, k4⟩ := e
  go_enter Tryz.func17, Tryz.ntmps17
  go_wp2_with fail
  refine (by exact HRel _ : Calls _ _ _ _ _).mono ?_
  rintro r wr ⟨rfl, hBr⟩
  obtain ⟨W, hW⟩ : ∃ W, W = wr.alloc (.cells #[.int .i64 k0, .int .i64 k1, .int .u32 k2, .int .u32 k3, .int .i64 k4] 73) := ⟨_, rfl⟩
  have hBW : Below w.heap.size w W := by rw [hW]; exact hBr.trans ((below_alloc _ _).mono hBr.size)
  have hbW := HH.out.new hBW
  have hR := (HReady W _).out (stepR_clip tag base o (o + 2) hbase hBW) hbW
  have c0 : W.cell? ⟨wr.heap.size, 0, none⟩ = some (.int .i64 k0) := by rw [hW]; simp
  have c1 : W.cell? ⟨wr.heap.size, 1, none⟩ = some (.int .i64 k1) := by rw [hW]; simp
  have c2 : W.cell? ⟨wr.heap.size, 2, none⟩ = some (.int .u32 k2) := by rw [hW]; simp
  have c3 : W.cell? ⟨wr.heap.size, 3, none⟩ = some (.int .u32 k3) := by rw [hW]; simp
  have c4 : W.cell? ⟨wr.heap.size, 4, none⟩ = some (.int .i64 k4) := by rw [hW]; simp
  have hWs : W.heap.size = wr.heap.size + 1 := by rw [hW]; simp
  have hwr := hBr.size
  have htw : clip tag w.heap.size wr.heap.size / 16 < o := by simp [clip, Nat.not_lt.2 hwr]; omega
  have HS0 : Hid (StepR tag (clip tag w.heap.size) base o (o + 2) w W) := stepR_clip tag base o (o + 2) hbase hBW
  have HC : Hid (∀ w2 tag2, StepR (clip tag w.heap.size) tag2 base o (o + 2) W w2 → w2.cell? ⟨wr.heap.size, 0, none⟩ = some (.int .i64 k0) ∧ w2.cell? ⟨wr.heap.size, 1, none⟩ = some (.int .i64 k1) ∧ w2.cell? ⟨wr.heap.size, 2, none⟩ = some (.int .u32 k2) ∧ w2.cell? ⟨wr.heap.size, 3, none⟩ = some (.int .u32 k3) ∧ w2.cell? ⟨wr.heap.size, 4, none⟩ = some (.int .i64 k4)) := fun w2 tag2 h2 =>
    ⟨((stepR_cell h2 (by omega) htw 0).1).trans c0, ((stepR_cell h2 (by omega) htw 1).1).trans c1, ((stepR_cell h2 (by omega) htw 2).1).trans c2, ((stepR_cell h2 (by omega) htw 3).1).trans c3, ((stepR_cell h2 (by omega) htw 4).1).trans c4⟩
  rw [hW] at hR
  go_wp2_with fail
  refine (by exact hR : Calls _ _ _ _ _).mono ?_
  rintro r w2 ⟨rfl, tag2, hS2, hB2⟩
  rw [← hW] at hS2
  obtain ⟨c0, c1, c2, c3, c4⟩ := HC.out w2 tag2 hS2
  have HS2 : Hid (StepR tag tag2 base o (o + 2) w w2) := HS0.out.trans hS2
  have hbw2 : base ≤ w2.heap.size := Nat.le_trans hbase HS2.out.below.size
  clear hR HC HReady hBW hbW hS2 hWs htw
  rcases HPR.out with ⟨p1, p2, p3⟩ | ⟨p1, p2, p3, p4, p5, p6⟩
  · have HB2 : Hid (BK w2 tag2 base o D B (b.put ⟨k0, k1, k2, k3, k4⟩)) := by rw [p3]; exact hB2
    have HP2 : Hid (b.putE ⟨k0, k1, k2, k3, k4⟩ = b.readyE ⟨k0, k1, k2, k3, k4⟩) := p2
    clear hB2 p2 p3
    generalize b.readyE ⟨k0, k1, k2, k3, k4⟩ = X at *
    go_wp2
    go_ret
    exact ⟨by rw [HP2.out]; rfl, tag2, HS2.out, HB2.out⟩
  · rw [p1]
    have HP5 : Hid (b.putE ⟨k0, k1, k2, k3, k4⟩ = wrtE b.pay.s b.pay.t [⟨k0, k1, k2, k3, k4⟩]) := p5
    have HP6 : Hid (b.put ⟨k0, k1, k2, k3, k4⟩ = b.pay.wrote ⟨k0, k1, k2, k3, k4⟩) := p6
    rw [p4] at hB2
    obtain ⟨f1, f2, f3, f4⟩ := far_one hB2 ho hbw2 ⟨k0, k1, k2, k3, k4⟩
    obtain ⟨hpo, hgr, hpd⟩ := hb.pay
    have hgn := hgr.sn
    have hgo := hgr.outs
    have hgr1 := hgr.recs
    have hgl := hgr.L
    have HWr := bwrite_ok _ _ base o D B ho b.pay f1 f4 (.slice (some ⟨w2.heap.size, 0, none⟩) 1 1) [⟨k0, k1, k2, k3, k4⟩] f2 (.one (checkE_zero p2) hok) (q + 2) hpo.nb (by simp; omega) (by omega) (by simp; omega) (by simp; omega)
    have HF : Hid (b.pay.wrote ⟨k0, k1, k2, k3, k4⟩ = wrB b.pay [⟨k0, k1, k2, k3, k4⟩]) := wrote_same (fun h => by have h2 : k0 = 2 := h.2.1; have h3 : k0 = 3 := HK.out; omega)
    have HSt : Hid (StepR tag2 (clip tag2 w2.heap.size) base o (o + 2) w2 (w2.alloc (.cells (enC ⟨k0, k1, k2, k3, k4⟩) 73))) := f3
    clear f1 f2 f3 f4 hB2 hb hpo hgr p1 p2 p3 p4 p5 p6
    go_wp2_with fail
    refine (by exact HWr : Calls _ _ _ _ _).mono ?_
    rintro r w3 ⟨rfl, tag3, hS3, hB3⟩
    have HB3 : Hid (BK w3 tag3 base o D B (wrB b.pay [⟨k0, k1, k2, k3, k4⟩])) := hB3
    have HS3 : Hid (StepR tag tag3 base o (o + 2) w w3) := (HS2.out.trans HSt.out).trans hS3
    clear hB3 hS3 HWr
    go_wp2
    go_ret
    exact ⟨by rw [HP5.out]; rfl, tag3, HS3.out, by rw [HP6.out, HF.out]; exact HB3.out⟩

/-- A debt more. -/
theorem owe_row (w3 : World) (tag3 : Nat → Nat) (base o D B : Nat) (b : Bm) (h : BK w3 tag3 base o D B b) (hbase : base ≤ w3.heap.size) (hD : b.D.length ≤ 1000) (r : En) :
    ∃ a c, w3.cell? ⟨B, 2, none⟩ = some (.slice a b.D.length c) ∧ ∀ w4, Below w3.heap.size w3 w4 → ∃ a5 c5 w5, (Builtin.append_ #[63, 63] 63 #[.slice a b.D.length c, .slice (some ⟨w4.heap.size, 0, none⟩) 1 1]).run Tryz.prog (w4.alloc (.cells (enC r) 73)) = .ok (.slice a5 (b.D.length + 1) c5) w5 ∧
      w5.cell? ⟨B, 2, none⟩ = some (.slice a b.D.length c) ∧ w5.frozen? ⟨B, 2, none⟩ = false ∧ ∃ tag', StepR tag3 tag' base o (o + 2) w3 (w5.setCell ⟨B, 2, none⟩ (.slice a5 (b.D.length + 1) c5)) ∧ BK (w5.setCell ⟨B, 2, none⟩ (.slice a5 (b.D.length + 1) c5)) tag' base o D B ⟨b.s, b.t, b.L, b.D ++ [r]⟩ := by
  obtain ⟨p, q', kv, dv, hDD, hP, hPo, hPb⟩ := h
  obtain ⟨a, c, rfl, hc1, hc2⟩ := win_form hPb.wD
  refine ⟨a, c, hPb.s2, fun w4 hB4 => ?_⟩
  obtain ⟨W4, hW4⟩ : ∃ W4, W4 = w4.alloc (.cells (enC r) 73) := ⟨_, rfl⟩
  have hBW : Below w3.heap.size w3 W4 := by rw [hW4]; exact hB4.trans ((below_alloc _ _).mono hB4.size)
  have hP4 : PD W4 (clip tag3 w3.heap.size) base o b.s p := hP.clip hBW
  have hPo4 : PO W4 (clip tag3 w3.heap.size) base (o + 1) D b.t q' := hPo.clip hBW
  have hPb4 : PB W4 (clip tag3 w3.heap.size) base (o + 2) q'.S b.L b.D B kv (.slice a b.D.length c) := hPb.keep (fun k hk _ => hBW.block k hk) (fun k hk => clip_lt _ _ _ hk)
  have hS4 : StepR tag3 (clip tag3 w3.heap.size) base o (o + 2) w3 W4 := stepR_clip tag3 base o (o + 2) hbase hBW
  have hwin : Win W4 5 (.slice (some ⟨w4.heap.size, 0, none⟩) 1 1) [r].length ([r].flatMap eL5) := by
    rw [List.flatMap_cons, List.flatMap_nil, List.append_nil, hW4]
    exact win_one w4 (enC r) 73 rfl
  obtain ⟨v', w5, tag5, hr, hwin5, hst, htag, hkp⟩ := append_own9 hPb4.wD hPb4.tD (o := o + 2) (by omega) (Nat.le_trans hbase hBW.size) _ [r] hwin (by simp; omega)
  obtain ⟨a5, c5, rfl, _⟩ := win_form hwin5
  have hl5 : (b.D ++ [r]).length = b.D.length + 1 := by simp
  rw [hl5] at hr htag
  rw [hW4] at hr
  have hBl := hPb4.bB.lt
  have hBd : (Value.slice a b.D.length c).ownBlock ≠ some B := fun e => by have := (hPb4.tD B e).1; have := hPb4.tB.1; omega
  have hb5 : Blk w5 B [.pointer (some ⟨q'.S, 0, none⟩), kv, .slice a b.D.length c] := hPb4.bB.same (hkp B hBl hBd)
  have htB : tag5 B = 16 * (o + 2) + 1 := by rw [hst.tags B hBl]; exact hPb4.tB.1
  have hvB : (Value.slice a5 (b.D.length + 1) c5).ownBlock ≠ some B := fun e => by have := (htag B e).1; omega
  have hst2 : Step (clip tag3 w3.heap.size) tag5 base (o + 2) W4 (w5.setCell ⟨B, 2, none⟩ (.slice a5 (b.D.length + 1) c5)) := hst.set hPb4.tB.2 (by omega) 2 _
  have hsR : StepR (clip tag3 w3.heap.size) tag5 base (o + 2) (o + 2) W4 (w5.setCell ⟨B, 2, none⟩ (.slice a5 (b.D.length + 1) c5)) := hst2.range (Nat.le_refl _) (Nat.le_refl _)
  refine ⟨a5, c5, w5, hr, hb5.cell 2, hb5.frozen 2, tag5, hS4.trans (hsR.wide (by omega) (Nat.le_refl _)), ⟨p, q', kv, _, hDD, hP4.otherR hsR (by omega), hPo4.otherR hsR (by omega), ⟨?_, ?_, ?_, ⟨htB, hPb4.tB.2⟩, ?_, htag⟩⟩⟩
  · simpa using hb5.set 2 (.slice a5 (b.D.length + 1) c5)
  · refine hPb4.wK.same (fun g hg => ?_)
    have ht := (hPb4.tK g hg).1
    rw [heap_setCell_other _ _ g _ (fun e => by have : g = B := e; rw [this] at ht; have := hPb4.tB.1; omega)]
    exact hkp g (hPb4.wK.lt g hg) (fun e => by have := (hPb4.tD g e).1; omega)
  · rw [hl5] at hwin5 ⊢
    exact hwin5.same (fun g hg => heap_setCell_other _ _ g _ (fun e => hvB (by rw [hg, show g = B from e])))
  · exact fun g hg => ⟨by rw [hst.tags g (hPb4.wK.lt g hg)]; exact (hPb4.tK g hg).1, (hPb4.tK g hg).2⟩

/-- append, as one step of a region that draws its order. -/
theorem step_app_run {P : Program} {ops : Array Oper} {o : Oper} {a : Act} {w : World} {K : Act → World → Prop} {Q : Exit → Act → World → Prop} {E : Prop} (hgd : o.guard = none) (s x : Operand) (t : TypeId)
    (ho : o.op = .call { callee := .builtin .append, args := #[s, x], argTypes := #[t, t] }) (v u : Value) (hs : a.eval s = v) (hx : a.eval x = u) {v' : Value} {w' : World}
    (hr : (Builtin.append_ #[t, t] o.type #[v, u]).run P w = .ok v' w') (h : K (a.put o.dst v') w') : if Region.wanted o (yielded ops a.tmps) = true then Oper.wp P o a w K Q else E := by
  have hw : Region.wanted o (yielded ops a.tmps) = true := by simp [Region.wanted, hgd]
  rw [if_pos hw]
  unfold Oper.wp execOp
  simp only [ho, resolve, invoke, builtin, Sem.run_bind, Sem.run_pure, Result.andThen_ok, List.map_toArray, List.map_cons, List.map_nil, hs, hx, hr]
  exact h

set_option maxHeartbeats 2000000 in
theorem bgrant_ok (w : World) (tag : Nat → Nat) (base o D B : Nat) (ho : 1 ≤ o) (b : Bm) (h : BK w tag base o D B b) (hbase : base ≤ w.heap.size) (now sub addr block : Int) (hok : En.Ok ⟨2, now, sub, addr, block⟩) (q : Nat) (hb : b.Ok q)
    (hq : q ≤ 700000) (hout : b.s.outs.length ≤ 900000) (hrec : b.t.recs.length ≤ 700000) (hL : b.L.length ≤ 700000) :
    Calls Tryz.prog 15 #[.pointer (some ⟨B, 0, none⟩), .int .i64 now, .int .u32 sub, .int .u32 addr, .int .i64 block] w fun r w' => r = .returned (.int .i64 (b.putE ⟨2, now, sub, addr, block⟩)) ∧ ∃ tag', StepR tag tag' base o (o + 2) w w' ∧ BK w' tag' base o D B (b.put ⟨2, now, sub, addr, block⟩) := by
  have HRel := fun w1 => brel_ok w1 now addr block
  have HH : Hid (BK w tag base o D B b) := h
  have HPR : Hid (_ ∨ _) := put_ready b ⟨2, now, sub, addr, block⟩
  have HReady : ∀ w1 tag1, Hid (StepR tag tag1 base o (o + 2) w w1 → BK w1 tag1 base o D B b → Calls Tryz.prog 45 #[.pointer (some ⟨B, 0, none⟩), enV ⟨2, now, sub, addr, block⟩] w1 fun r w' => r = .returned (.int .i64 (b.readyE ⟨2, now, sub, addr, block⟩)) ∧ ∃ tag', StepR tag1 tag' base o (o + 2) w1 w' ∧ BK w' tag' base o D B (b.ready ⟨2, now, sub, addr, block⟩)) :=
    fun w1 tag1 hs hbk => bready_ok w1 tag1 base o D B ho b hbk (Nat.le_trans hbase hs.below.size) ⟨2, now, sub, addr, block⟩ q hb (by omega) hout (by omega) (by omega)
  clear h
  obtain ⟨W, hW⟩ : ∃ W, W = w.alloc (.cells #[.int .i64 2, .int .i64 now, .int .u32 sub, .int .u32 addr, .int .i64 block] 73) := ⟨_, rfl⟩
  have hBW : Below w.heap.size w W := by rw [hW]; exact below_alloc _ _
  have hbW := HH.out.new hBW
  have hR := (HReady W _).out (stepR_clip tag base o (o + 2) hbase hBW) hbW
  have c0 : W.cell? ⟨w.heap.size, 0, none⟩ = some (.int .i64 2) := by rw [hW]; simp
  have c1 : W.cell? ⟨w.heap.size, 1, none⟩ = some (.int .i64 now) := by rw [hW]; simp
  have c2 : W.cell? ⟨w.heap.size, 2, none⟩ = some (.int .u32 sub) := by rw [hW]; simp
  have c3 : W.cell? ⟨w.heap.size, 3, none⟩ = some (.int .u32 addr) := by rw [hW]; simp
  have c4 : W.cell? ⟨w.heap.size, 4, none⟩ = some (.int .i64 block) := by rw [hW]; simp
  have hWs : W.heap.size = w.heap.size + 1 := by rw [hW]; simp
  have htw : clip tag w.heap.size w.heap.size / 16 < o := by simp [clip]; omega
  have HS0 : Hid (StepR tag (clip tag w.heap.size) base o (o + 2) w W) := stepR_clip tag base o (o + 2) hbase hBW
  have HC : Hid (∀ w2 tag2, StepR (clip tag w.heap.size) tag2 base o (o + 2) W w2 → w2.cell? ⟨w.heap.size, 0, none⟩ = some (.int .i64 2) ∧ w2.cell? ⟨w.heap.size, 1, none⟩ = some (.int .i64 now) ∧ w2.cell? ⟨w.heap.size, 2, none⟩ = some (.int .u32 sub) ∧ w2.cell? ⟨w.heap.size, 3, none⟩ = some (.int .u32 addr) ∧ w2.cell? ⟨w.heap.size, 4, none⟩ = some (.int .i64 block)) := fun w2 tag2 h2 =>
    ⟨((stepR_cell h2 (by omega) htw 0).1).trans c0, ((stepR_cell h2 (by omega) htw 1).1).trans c1, ((stepR_cell h2 (by omega) htw 2).1).trans c2, ((stepR_cell h2 (by omega) htw 3).1).trans c3, ((stepR_cell h2 (by omega) htw 4).1).trans c4⟩
  clear c0 c1 c2 c3 c4
  rw [hW] at hR
  go_enter Tryz.func15, Tryz.ntmps15
  go_wp2_with fail
  refine (by exact hR : Calls _ _ _ _ _).mono ?_
  rintro r w2 ⟨rfl, tag2, hS2, hB2⟩
  rw [← hW] at hS2
  obtain ⟨c0, c1, c2, c3, c4⟩ := HC.out w2 tag2 hS2
  have HS2 : Hid (StepR tag tag2 base o (o + 2) w w2) := HS0.out.trans hS2
  have hbw2 : base ≤ w2.heap.size := Nat.le_trans hbase HS2.out.below.size
  clear hR HC HReady hBW hbW hS2 hWs htw HS0
  rcases HPR.out with ⟨p1, p2, p3⟩ | ⟨p1, p2, p3, p4, p5, p6⟩
  · have HB2 : Hid (BK w2 tag2 base o D B (b.put ⟨2, now, sub, addr, block⟩)) := by rw [p3]; exact hB2
    have HP2 : Hid (b.putE ⟨2, now, sub, addr, block⟩ = b.readyE ⟨2, now, sub, addr, block⟩) := p2
    clear hB2 p2 p3
    generalize b.readyE ⟨2, now, sub, addr, block⟩ = X at *
    go_wp2
    go_ret
    exact ⟨by rw [HP2.out]; rfl, tag2, HS2.out, HB2.out⟩
  · rw [p1]
    have HP5 : Hid (b.putE ⟨2, now, sub, addr, block⟩ = wrtE b.pay.s b.pay.t [⟨2, now, sub, addr, block⟩]) := p5
    have HP6 : Hid (b.put ⟨2, now, sub, addr, block⟩ = b.pay.wrote ⟨2, now, sub, addr, block⟩) := p6
    rw [p4] at hB2
    obtain ⟨f1, f2, f3, f4⟩ := far_one hB2 ho hbw2 ⟨2, now, sub, addr, block⟩
    obtain ⟨hpo, hgr, hpd⟩ := hb.pay
    have hgn := hgr.sn
    have hgo := hgr.outs
    have hgr1 := hgr.recs
    have hgl := hgr.L
    have hpD : b.pay.D = [] := hpd p3
    have HWr := bwrite_ok _ _ base o D B ho b.pay f1 f4 (.slice (some ⟨w2.heap.size, 0, none⟩) 1 1) [⟨2, now, sub, addr, block⟩] f2 (.one (checkE_zero p2) hok) (q + 2) hpo.nb (by simp; omega) (by omega) (by simp; omega) (by simp; omega)
    have HF1 : Hid (¬ (wrtE b.pay.s b.pay.t [⟨2, now, sub, addr, block⟩] ≠ 0 ∧ wrtE b.pay.s b.pay.t [⟨2, now, sub, addr, block⟩] ≠ 6) → b.pay.wrote ⟨2, now, sub, addr, block⟩ = wrB b.pay [⟨2, now, sub, addr, block⟩]) := fun hn => wrote_same (fun h => hn ⟨h.1, h.2.2⟩)
    have HF2 : Hid (wrtE b.pay.s b.pay.t [⟨2, now, sub, addr, block⟩] ≠ 0 ∧ wrtE b.pay.s b.pay.t [⟨2, now, sub, addr, block⟩] ≠ 6 → b.pay.wrote ⟨2, now, sub, addr, block⟩ = ⟨(wrB b.pay [⟨2, now, sub, addr, block⟩]).s, (wrB b.pay [⟨2, now, sub, addr, block⟩]).t, (wrB b.pay [⟨2, now, sub, addr, block⟩]).L, (wrB b.pay [⟨2, now, sub, addr, block⟩]).D ++ [⟨3, now, 0, addr, block⟩]⟩) := fun hn => wrote_owe ⟨hn.1, rfl, hn.2⟩
    have HSt : Hid (StepR tag2 (clip tag2 w2.heap.size) base o (o + 2) w2 (w2.alloc (.cells (enC ⟨2, now, sub, addr, block⟩) 73))) := f3
    have hwD : (wrB b.pay [⟨2, now, sub, addr, block⟩]).D.length ≤ 1000 := by show b.pay.D.length ≤ _; rw [hpD]; simp
    clear f1 f2 f3 f4 hB2 hb hpo hgr p1 p2 p3 p4 p5 p6
    generalize wrtE b.pay.s b.pay.t [⟨2, now, sub, addr, block⟩] = X at *
    generalize wrB b.pay [⟨2, now, sub, addr, block⟩] = b2 at *
    go_wp2_with fail
    refine (by exact HWr : Calls _ _ _ _ _).mono ?_
    rintro r w3 ⟨rfl, tag3, hS3, hB3⟩
    have HS3 : Hid (StepR tag tag3 base o (o + 2) w w3) := (HS2.out.trans HSt.out).trans hS3
    have HB3 : Hid (BK w3 tag3 base o D B b2) := hB3
    by_cases hX : X ≠ 0 ∧ X ≠ 6
    · obtain ⟨x1, x2⟩ := hX
      have b1 : (X != 0) = true := by simpa using x1
      have b6 : (X != 6) = true := by simpa using x2
      have hF2 := HF2.out ⟨x1, x2⟩
      have HFF : Hid (b.put ⟨2, now, sub, addr, block⟩ = ⟨b2.s, b2.t, b2.L, b2.D ++ [⟨3, now, 0, addr, block⟩]⟩) := HP6.out.trans hF2
      obtain ⟨da, dc, g2, hAp⟩ := owe_row w3 tag3 base o D B b2 hB3 (Nat.le_trans hbase HS3.out.below.size) hwD ⟨3, now, 0, addr, block⟩
      have hbd : ∀ w4, Below w3.drew.heap.size w3.drew w4 → Below w3.heap.size w3 w4 := fun w4 h4 => (Below.refl _ w3).drew.trans h4
      have HAp : Hid (∀ w4, Below w3.drew.heap.size w3.drew w4 → _) := fun w4 h4 => hAp w4 (hbd w4 h4)
      have KC : Hid (∀ wx, Below w3.drew.heap.size w3.drew wx → wx.cell? ⟨B, 2, none⟩ = some (.slice da b2.D.length dc)) := fun wx hx => cell_later (hbd wx hx) g2
      have hBlt : B < w3.drew.heap.size := by obtain ⟨_, _, _, _, _, _, _, hPb⟩ := HB3.out; exact hPb.bB.lt
      clear hbd
      clear hB3 hS3 HWr hF2 hAp c0 c1 c2 c3 c4 HSt x1 x2
      go_wp2_with fail
      clear HP6 HF1 HF2 HPR HH HS2
      go_region_law (first
        | (refine step_calls rfl 46 #[.tmp 40, .tmp 41, .tmp 42] #[2, 38, 3] rfl #[.int .i64 now, .int .u32 addr, .int .i64 block] (by go_simp) enters_rel (by with_reducible exact HRel _) ?_; rintro e w4 ⟨rfl, hB4⟩; refine ⟨_, rfl, ?_⟩; have g4 := KC.out w4 hB4; have hsz4 : B < w4.heap.size := Nat.lt_of_lt_of_le hBlt hB4.size; obtain ⟨a5, c5, w5, hr5, h5a, h5b, tag5, hS5, hB5⟩ := HAp.out w4 hB4)
        | (refine step_app_run rfl (.tmp 39) (.tmp 44) 63 rfl _ _ (by rfl) (by rfl) (by exact hr5) ?_))
      all_goals
        go_wp2
        go_ret
        exact ⟨by rw [HP5.out]; rfl, tag5, HS3.out.trans hS5, by rw [HFF.out]; exact hB5⟩
    · have HFF : Hid (b.put ⟨2, now, sub, addr, block⟩ = b2) := HP6.out.trans (HF1.out hX)
      have hX' : X = 0 ∨ X = 6 := by omega
      clear hB3 hS3 HWr hX
      rcases hX' with rfl | rfl
      all_goals
        go_wp2
        go_ret
        exact ⟨by rw [HP5.out]; rfl, tag3, HS3.out, by rw [HFF.out]; exact HB3.out⟩

end Go.Proofs.YtafkkehcacdodaaGreat
