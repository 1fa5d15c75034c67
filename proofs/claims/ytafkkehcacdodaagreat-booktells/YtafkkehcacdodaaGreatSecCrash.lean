/- Crash. -/
import Derived.Test.YtafkkehcacdodaaGreatSecSync
set_option maxRecDepth 100000
namespace Go.Proofs.YtafkkehcacdodaaGreat
open Go.RowKit

theorem step_copy_run {P : Program} {ops : Array Oper} {o : Oper} {a : Act} {w : World} {K : Act → World → Prop} {Q : Exit → Act → World → Prop} {E : Prop} (hgd : o.guard = none) (s x : Operand) (t : TypeId)
    (ho : o.op = .call { callee := .builtin .copy, args := #[s, x], argTypes := #[t, t] }) (v u : Value) (hs : a.eval s = v) (hx : a.eval x = u) {v' : Value} {w' : World}
    (hr : (Builtin.copy_ #[t, t] o.type #[v, u]).run P w = .ok v' w') (h : K (a.put o.dst v') w') : if Region.wanted o (yielded ops a.tmps) = true then Oper.wp P o a w K Q else E := by
  have hw : Region.wanted o (yielded ops a.tmps) = true := by simp [Region.wanted, hgd]
  rw [if_pos hw]
  unfold Oper.wp execOp
  simp only [ho, resolve, invoke, builtin, Sem.run_bind, Sem.run_pure, Result.andThen_ok, List.map_toArray, List.map_cons, List.map_nil, hs, hx, hr]
  exact h

theorem copy_part (w : World) (b o N m : Nat) (cs : List Value) (hm : m ≤ 64) (hcs : cs.length = 64) (hr : w.rangeAt N 1 cs) (hth : w.there b o 64) (h1 : ∀ v ∈ cs, v.oneCell' = true) :
    (Builtin.copy_ #[39, 39] 3 #[.slice (some ⟨b, o, none⟩) m 64, .slice (some ⟨N, 1, none⟩) m 64]).run Tryz.prog w = .ok (.int .i64 m) (w.setCells b o (cs.take m)) := by
  have hl : (cs.take m).length = m := by simp; omega
  have := run_copy_cells (P := Tryz.prog) w 39 39 3 5 b o m 64 ⟨N, 1, none⟩ m 64 (cs.take m) Tryz.underlying39 size5 (by rw [hl]; exact (Nat.min_self m).symm)
    (fun j v hv => by
      rw [add_at]
      rw [List.getElem?_take] at hv
      split at hv
      · exact hr j v hv
      · cases hv) (fun j hj => (hth j (by omega)).1) (fun j hj => (hth j (by omega)).2) (fun v hv => h1 v (List.mem_of_mem_take hv))
  rw [this, hl]; rfl

set_option maxHeartbeats 4000000 in
theorem crash_ok (w : World) (tag : Nat → Nat) (base o o' : Nat) (s : St) (p : PL) (h : PD w tag base o s p) (hbase : base ≤ w.heap.size) (hsin : s.since.length ≤ 1000000) (v : Value) (ch : List Int) (hv : Bts w v ch) :
    Calls Tryz.prog 13 #[.pointer (some ⟨p.D, 0, none⟩), v] w fun e w' => ∃ p2 tag', e = .returned (.pointer (some ⟨p2.D, 0, none⟩)) ∧ PD w' tag' base o' (s.crash ch) p2 ∧ (∀ k, k < w.heap.size → tag' k = tag k) ∧ Below w.heap.size w w' := by
  have h4 := h.d4
  have h2 := h.d2
  obtain ⟨ua, uc, hU, hU2, hU3⟩ := h.uform
  rw [hU] at h4
  have HU : Hid (p.uv = .slice ua s.since.length uc) := hU
  clear hU
  unfold maxLen at hU3
  have HP : Hid (PD w tag base o s p) := h
  have HB : Hid (base ≤ w.heap.size) := hbase
  have HMd := made_ok w tag base o s p h
  have hn1 := h.ok.n1
  have hn2 := h.ok.n2
  have HC := clone_ok w p.C p.cC s.n (bytesV s.sure) h.rC hn1 hn2 (ones_bytes _)
  obtain ⟨va, vc, hvs, _, _, _⟩ := bts_src hv
  subst hvs
  have HV : Hid (Bts w (.slice va ch.length vc) ch) := hv
  clear h hbase hv
  go_enter Tryz.func13, Tryz.ntmps13
  go_wp2_with (first
    | (go_at_call 41; refine HMd.mono ?_; rintro e w' ⟨rfl, hx⟩; have HX1 : Hid (w' = w) := hx; clear hx; rw [HX1.out])
    | (go_at_call 43; refine HC.mono ?_; rintro e w1 ⟨G, c, rfl, hG, hRG, hB⟩; have g4 := cell_later hB h4; have HR : Hid (Row w1 64 G c s.n (bytesV s.sure)) := hRG; have HB1 : Hid (Below w.heap.size w w1) := hB; have HG : Hid (w.heap.size ≤ G) := hG; clear hRG hB hG))
  go_loopw [22] (fun i wr => ∃ k : Nat, k ≤ s.since.length ∧ i = .int .i64 k ∧ Row wr 64 G c s.n (bytesV (torn ch s.sure s.since k)) ∧ Below w.heap.size w wr) (fun i _ => s.since.length - (intOf i).toNat)
  case atStart => exact ⟨0, Nat.zero_le _, rfl, HR.out, HB1.out⟩
  case round =>
    obtain ⟨k, hk, rfl, hrow, hbel⟩ := hrel
    by_cases hlt : k < s.since.length
    · have hltI : (k : Int) < (s.since.length : Int) := by omega
      obtain ⟨g, oo, cap, hvv, _, _, hr⟩ := HP.out.uAt (by omega)
      rw [HU.out] at hvv
      simp only [Value.slice.injEq, true_and] at hvv
      obtain ⟨rfl, rfl⟩ := hvv
      obtain ⟨wa, wb, wc⟩ := wr_at HP.out.ok k hlt
      have hrk := hr k hlt
      rw [wcell_arr] at hrk
      have HL1 : Hid (bytesV (torn ch s.sure s.since (k + 1)) = splice (bytesV (torn ch s.sure s.since k)) ((s.since.getD k (0, [])).1 * 64) ((bytesV (s.since.getD k (0, [])).2).take (leftN ch k))) := by
        show _ = _
        rw [← List.map_take]
        exact splice_map _ _ _ _
      have h1 : ∀ v ∈ bytesV (s.since.getD k (0, [])).2, v.oneCell' = true := ones_bytes _
      have hcs : (bytesV (s.since.getD k (0, [])).2).length = 64 := by rw [List.length_map]; exact wb
      have hm := leftN_le ch k
      have hsz := hbel.size
      generalize (s.since.getD k (0, [])).1 = a at *
      generalize bytesV (s.since.getD k (0, [])).2 = cs at *
      have haI : (a : Int) < (s.n : Int) := by omega
      have hW : (wArr a cs.toArray).size = 65 := wArr_size a _ (by simpa using hcs)
      have hW1 : (wArr a cs.toArray).all (·.oneCell') = true := by
        unfold wArr
        rw [Array.all_append]
        simp only [Bool.and_eq_true]
        exact ⟨by simp [Value.oneCell'], all_oneCell_toArray h1⟩
      have hrw : wr.rangeAt g (oo + k * 65) (wArr a cs.toArray).toList := fun j v hv => cell_later hbel (hrk j v hv)
      have hbl := blk_new wr (wArr a cs.toArray) 105
      have hlist : (wArr a cs.toArray).toList = .int .i64 a :: cs := by unfold wArr; simp
      rw [hlist] at hbl
      have hXB : Below wr.heap.size wr (wr.alloc (.cells (wArr a cs.toArray) 105)) := below_alloc _ _
      have hXC : Row (wr.alloc (.cells (wArr a cs.toArray) 105)) 64 G c s.n _ := hrow.later hXB
      have hGlt := hrow.lt
      have hc0 := hbl.cell 0
      have hrc := hbl.range 1 64
      have hth := hXC.there (a * 64) 64 (by omega)
      have e64 : (List.drop 1 (Value.int .i64 (a : Int) :: cs)).take 64 = cs := by simp [List.take_of_length_le (Nat.le_of_eq hcs)]
      rw [e64] at hrc
      simp only [List.getElem?_cons_zero] at hc0
      have HLf := left_ok (wr.alloc (.cells (wArr a cs.toArray) 105)) (.slice va ch.length vc) ch k (HV.out.later (hbel.trans (hXB.mono hsz)))
      have hcp := copy_part (wr.alloc (.cells (wArr a cs.toArray) 105)).drew G (a * 64) wr.heap.size (leftN ch k) cs hm hcs hrc hth h1
      generalize hmm : leftN ch k = m at *
      clear hmm
      have hmI : (m : Int) ≤ 64 := by omega
      have HROW : Hid (Row (wr.alloc (.cells (wArr a cs.toArray) 105)).drew 64 G c s.n (bytesV (torn ch s.sure s.since k))) := hrow.later hXB.drew
      have HBEL : Hid (Below w.heap.size w (wr.alloc (.cells (wArr a cs.toArray) 105)).drew) := hbel.trans (hXB.drew.mono hsz)
      have K1 : (wr.alloc (.cells (wArr a cs.toArray) 105)).drew.cell? ⟨wr.heap.size, 0, none⟩ = some (.int .i64 a) := hc0
      have K2 : Hid (((wr.alloc (.cells (wArr a cs.toArray) 105)).drew.setCells G (a * 64) (cs.take m)).cell? ⟨wr.heap.size, 0, none⟩ = some (.int .i64 a)) := by
        show _ = _
        rw [World.cell?_setCells_out _ _ _ _ _ (fun e _ => absurd e (by show wr.heap.size ≠ G; omega))]; exact hc0
      clear hr hrk hbl hlist hXC hc0 hrc hth e64 hrow hbel hXB g4 h4 h2
      go_wp2_with (first
        | (refine load_w rfl (.tmp 25) rfl g (oo + k * 65) rfl (wArr a cs.toArray) hrw hW ?_)
        | (refine alloc_w rfl rfl ?_)
        | (refine store_w rfl (.tmp 7) (.tmp 26) rfl _ _ rfl rfl (wArr a cs.toArray) rfl rfl hW hW1 ?_)
        | (go_at_call 44; refine HLf.mono ?_; rintro e w' ⟨rfl, hx⟩; have HX2 : Hid (w' = wr.alloc (.cells (wArr a cs.toArray) 105)) := hx; clear hx; rw [HX2.out]))
      go_region_held3 (fun w' => w'.cell? ⟨wr.heap.size, 0, none⟩ = some (.int .i64 a))
        (first | (with_reducible exact K1) | (with_reducible exact K2.out)) ((refine step_copy_run rfl (.tmp 35) (.tmp 38) 39 rfl _ _ (by rfl) (by rfl) (by with_reducible exact hcp) ?_))
      go_wp2
      go_roundw
      case rel =>
        refine ⟨k + 1, by omega, by go_num, ?_, ?_⟩
        · rw [HL1.out]
          exact HROW.out.sets (a * 64) (cs.take m) (by rw [List.length_take, hcs]; omega)
        · exact HBEL.out.trans (below_setCells G HG.out _ _)
      case measure => simp [intOf]; omega
    · have hke : k = s.since.length := by omega
      subst hke
      obtain ⟨t1, t2⟩ := torn_len HP.out.ok ch s.since.length (Nat.le_refl _)
      have HH := holding_ok w wr tag base o' G c s.n (torn ch s.sure s.since s.since.length) HB.out hbel HG.out hrow hn1 hn2 t2
      clear hrow hbel t1 t2
      go_wp2_with (go_at_call 28; refine HH.mono ?_; rintro e w2 ⟨p2, tag', rfl, hP2, hT, hB2⟩)
      go_ret
      exact ⟨p2, tag', rfl, hP2, hT, hB2⟩

end Go.Proofs.YtafkkehcacdodaaGreat
