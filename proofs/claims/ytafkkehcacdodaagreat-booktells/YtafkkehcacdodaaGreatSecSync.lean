/- Write whole; settle, Sync. -/
import Derived.Test.YtafkkehcacdodaaGreatSecWrite
set_option maxRecDepth 100000
namespace Go.Proofs.YtafkkehcacdodaaGreat
open Go.RowKit

set_option maxHeartbeats 1000000 in
theorem write_fail (w : World) (tag : Nat → Nat) (base o : Nat) (s : St) (p : PL) (h : PD w tag base o s p) (k : Nat) (hk : k < s.n) (v : Value) (l : List Int) (hv : Bts w v l) (hl : l.length = 64)
    (hops : s.ops ≤ 1000000) (hout : s.outs.length ≤ 1000000) (hd : doneB s.out = false) :
    Calls Tryz.prog 110 #[.pointer (some ⟨p.D, 0, none⟩), .int .i64 k, v] w fun e w' => e = .returned (.int .i64 (errC s.out)) ∧ ∃ p', p'.D = p.D ∧ PD w' tag base o s.take p' ∧ Step tag tag base o w w' := by
  have hb : hasB s.n (k : Int) = true := by unfold hasB; simp; omega
  have HA := attempt_ok w tag base o s p h hops hout
  have HM := made_ok w tag base o s p h
  have HH := has_ok w tag base o s p h k
  obtain ⟨a, c, hvs, hlc, hmc, _⟩ := bts_src hv
  rw [hl] at hvs hlc
  unfold maxLen at hmc
  subst hvs
  clear h hv hl
  go_enter Tryz.func110, Tryz.ntmps110
  go_wp2_with (first
    | (go_at_call 41; refine HM.mono ?_; rintro e w' ⟨rfl, hx⟩; have HX1 : Hid (w' = w) := hx; clear hx; rw [HX1.out])
    | (go_at_call 94; refine HH.mono ?_; rintro e w' ⟨rfl, hx⟩; have HX2 : Hid (w' = w) := hx; clear hx; rw [HX2.out])
    | (go_at_call 128; refine HA.mono ?_; rintro e w1 ⟨rfl, p1, hD, hP, hS⟩))
  go_ret
  exact ⟨rfl, p1, hD, hP, hS⟩

/-- Write, whatever the outcome. -/
theorem write_ok (w : World) (tag : Nat → Nat) (base o : Nat) (s : St) (p : PL) (h : PD w tag base o s p) (hbase : base ≤ w.heap.size) (k : Nat) (hk : k < s.n) (v : Value) (l : List Int) (hv : Bts w v l) (hl : l.length = 64)
    (hvo : ∀ g, v.ownBlock = some g → tag g / 16 ≠ o) (hops : s.ops ≤ 1000000) (hout : s.outs.length ≤ 1000000) (hsin : s.since.length ≤ 1000000) :
    Calls Tryz.prog 110 #[.pointer (some ⟨p.D, 0, none⟩), .int .i64 k, v] w fun e w' => e = .returned (.int .i64 (errC s.out)) ∧ ∃ p' tag', p'.D = p.D ∧ PD w' tag' base o (s.write k l) p' ∧ Step tag tag' base o w w' := by
  by_cases hd : doneB s.out = true
  · refine (write_done w tag base o s p h hbase k hk v l hv hl hvo hops hout hsin hd).mono ?_
    rintro e w' ⟨rfl, p', tag', e1, e2, e3⟩
    exact ⟨rfl, p', tag', e1, by unfold St.write; rw [if_pos hd]; exact e2, e3⟩
  · have hd' : doneB s.out = false := by simpa using hd
    refine (write_fail w tag base o s p h k hk v l hv hl hops hout hd').mono ?_
    rintro e w' ⟨rfl, p', e1, e2, e3⟩
    exact ⟨rfl, p', tag, e1, by unfold St.write; rw [if_neg hd]; exact e2, e3⟩

/-- The i-th Write's cells in the window. -/
theorem PD.uAt {w : World} {tag : Nat → Nat} {base o : Nat} {s : St} {p : PL} (h : PD w tag base o s p) (hne : 0 < s.since.length) : ∃ g oo cap, p.uv = .slice (some ⟨g, oo, none⟩) s.since.length cap ∧ s.since.length ≤ cap ∧ cap ≤ maxLen ∧
    ∀ i, i < s.since.length → w.rangeAt g (oo + i * 65) (wcell (s.since.getD i (0, []))) := by
  rcases h.wU.2 with ⟨_, h0⟩ | ⟨g, oo, cap, cs, h1, hb, h2, h3, h4, h5⟩
  · omega
  refine ⟨g, oo, cap, h1, h2, h3, fun i hi => ?_⟩
  have hwl : ∀ x ∈ s.since, x.2.length = 64 := fun x hx => (h.ok.wr x hx).2.1
  have e := wcells_at hwl i hi
  rw [← h5, List.drop_take, List.drop_drop, List.take_take] at e
  rw [Nat.min_eq_left (by omega)] at e
  rw [← e]
  exact hb.range _ _

theorem wcell_arr (x : Nat × List Int) : (wcell x) = (wArr x.1 (bytesV x.2).toArray).toList := (wArr_list x.1 x.2).symm

/-- What settle has done behind k Writes. -/
structure Mid (w0 : World) (tag : Nat → Nat) (base o : Nat) (s : St) (p : PL) (k : Nat) (w : World) : Prop where
  row : Row w 64 p.C p.cC s.n (bytesV (lays s.sure (s.since.take k)))
  kept : ∀ g, g < w0.heap.size → g ≠ p.C → w.heap[g]? = w0.heap[g]?
  below : Below base w0 w
  size : w0.heap.size ≤ w.heap.size

set_option maxHeartbeats 4000000 in
theorem settle_ok (w : World) (tag : Nat → Nat) (base o : Nat) (s : St) (p : PL) (h : PD w tag base o s p) (hbase : base ≤ w.heap.size) (hsin : s.since.length ≤ 1000000) :
    Calls Tryz.prog 129 #[.pointer (some ⟨p.D, 0, none⟩)] w fun e w' => e = .returned (.tuple #[]) ∧ ∃ p', p'.D = p.D ∧ PD w' tag base o s.settled p' ∧ Step tag tag base o w w' := by
  have h4 := h.d4
  obtain ⟨ua, uc, hU, hU2, hU3⟩ := h.uform
  rw [hU] at h4
  have HU : Hid (p.uv = .slice ua s.since.length uc) := hU
  clear hU
  unfold maxLen at hU3
  have HP : Hid (PD w tag base o s p) := h
  have HB : Hid (base ≤ w.heap.size) := hbase
  clear h hbase
  go_enter Tryz.func129, Tryz.ntmps129
  go_wp2
  go_loopw [9] (fun i wr => ∃ k : Nat, k ≤ s.since.length ∧ i = .int .i64 k ∧ Mid w tag base o s p k wr) (fun i _ => s.since.length - (intOf i).toNat)
  case atStart => exact ⟨0, Nat.zero_le _, rfl, by simpa [lays] using HP.out.rC, fun _ _ _ => rfl, Below.refl _ _, Nat.le_refl _⟩
  case round =>
    obtain ⟨k, hk, rfl, hM⟩ := hrel
    by_cases hlt : k < s.since.length
    · have hltI : (k : Int) < (s.since.length : Int) := by omega
      obtain ⟨g, oo, cap, hv, _, _, hr⟩ := HP.out.uAt (by omega)
      rw [HU.out] at hv
      simp only [Value.slice.injEq, true_and] at hv
      obtain ⟨rfl, rfl⟩ := hv
      obtain ⟨wa, wb, wc⟩ := wr_at HP.out.ok k hlt
      have hrk := hr k hlt
      rw [wcell_arr] at hrk
      have HL1 : Hid (bytesV (lays s.sure (s.since.take (k + 1))) = splice (bytesV (lays s.sure (s.since.take k))) ((s.since.getD k (0, [])).1 * 64) (bytesV (s.since.getD k (0, [])).2)) := by
        show _ = _
        rw [List.take_succ_eq_append_getElem hlt, lays_snoc, List.getD_eq_getElem?_getD, List.getElem?_eq_getElem hlt]
        exact splice_map _ _ _ _
      have hglt : g < w.heap.size := HP.out.wU.lt g (by rw [HU.out]; rfl)
      have hgC : g ≠ p.C := fun e => by have a := (HP.out.tU g (by rw [HU.out]; rfl)).1; have b := HP.out.tC.1; rw [e] at a; omega
      have hDC : p.D ≠ p.C := fun e => by have a := HP.out.tD.1; have b := HP.out.tC.1; rw [e] at a; omega
      have h1 : ∀ v ∈ bytesV (s.since.getD k (0, [])).2, v.oneCell' = true := ones_bytes _
      have hcs : (bytesV (s.since.getD k (0, [])).2).length = 64 := by rw [List.length_map]; exact wb
      generalize (s.since.getD k (0, [])).1 = a at *
      generalize bytesV (s.since.getD k (0, [])).2 = cs at *
      have hn2 := HP.out.ok.n2
      have haI : (a : Int) < (s.n : Int) := by omega
      have hW : (wArr a cs.toArray).size = 65 := wArr_size a _ (by simpa using hcs)
      have hW1 : (wArr a cs.toArray).all (·.oneCell') = true := by
        unfold wArr
        rw [Array.all_append]
        simp only [Bool.and_eq_true]
        exact ⟨by simp [Value.oneCell'], all_oneCell_toArray h1⟩
      have hrw : wr.rangeAt g (oo + k * 65) (wArr a cs.toArray).toList := fun j v hv => by
        rw [World.cell?_of_block (w := w) (a := ⟨g, _, none⟩) (hM.kept g hglt hgC)]
        exact hrk j v hv
      have hbl := blk_new wr (wArr a cs.toArray) 105
      have hlist : (wArr a cs.toArray).toList = .int .i64 a :: cs := by unfold wArr; simp
      rw [hlist] at hbl
      have hMsz := hM.size
      have hDlt : p.D < w.heap.size := HP.out.bD.lt
      have hXD : (wr.alloc (.cells (wArr a cs.toArray) 105)).heap[p.D]? = w.heap[p.D]? := by
        rw [Below.heap_alloc _ _ _ (by omega)]; exact hM.kept p.D hDlt hDC
      have hXD2 : Blk (wr.alloc (.cells (wArr a cs.toArray) 105)) p.D _ := HP.out.bD.same hXD
      have hXC : Row (wr.alloc (.cells (wArr a cs.toArray) 105)) 64 p.C p.cC s.n _ := hM.row.later (below_alloc _ _)
      have hClt := HP.out.rC.lt
      have hD := hXD2.cell 2
      have hc0 := hbl.cell 0
      have hrc := hbl.range 1 64
      have hth := hXC.there (a * 64) 64 (by omega)
      have e64 : (List.drop 1 (Value.int .i64 (a : Int) :: cs)).take 64 = cs := by simp [List.take_of_length_le (Nat.le_of_eq hcs)]
      rw [e64] at hrc
      simp only [List.getElem?_cons_succ, List.getElem?_cons_zero] at hD hc0
      have K1 : Hid ((wr.alloc (.cells (wArr a cs.toArray) 105)).drew.cell? ⟨p.D, 2, none⟩ = some (.slice (some ⟨p.C, 0, none⟩) s.n p.cC) ∧ (wr.alloc (.cells (wArr a cs.toArray) 105)).drew.cell? ⟨wr.heap.size, 0, none⟩ = some (.int .i64 a) ∧ (wr.alloc (.cells (wArr a cs.toArray) 105)).drew.rangeAt wr.heap.size 1 cs ∧ (wr.alloc (.cells (wArr a cs.toArray) 105)).drew.there p.C (a * 64) 64) := ⟨hD, hc0, hrc, hth⟩
      have K2 : Hid (((wr.alloc (.cells (wArr a cs.toArray) 105)).drew.setCells p.C (a * 64) cs).cell? ⟨p.D, 2, none⟩ = some (.slice (some ⟨p.C, 0, none⟩) s.n p.cC) ∧ ((wr.alloc (.cells (wArr a cs.toArray) 105)).drew.setCells p.C (a * 64) cs).cell? ⟨wr.heap.size, 0, none⟩ = some (.int .i64 a) ∧ ((wr.alloc (.cells (wArr a cs.toArray) 105)).drew.setCells p.C (a * 64) cs).rangeAt wr.heap.size 1 cs ∧ ((wr.alloc (.cells (wArr a cs.toArray) 105)).drew.setCells p.C (a * 64) cs).there p.C (a * 64) 64) := by
        obtain ⟨q1, q2, q3, q4⟩ := K1.out
        refine ⟨?_, ?_, World.rangeAt_setCells_apart q3 _ _ _ (.inl (by omega)), World.there_setCells q4 _ _ _⟩
        · rw [World.cell?_setCells_out _ _ _ _ _ (fun e _ => absurd e hDC)]; exact q1
        · rw [World.cell?_setCells_out _ _ _ _ _ (fun e _ => absurd e (by show wr.heap.size ≠ p.C; omega))]; exact q2
      have hu := Tryz.underlying103
      have hi : (Tryz.prog.info? 103).map (·.size) = some cs.length := by rw [hcs]; exact sizeC
      have HM : Hid (Mid w tag base o s p k wr) := hM
      clear hM hr hrk hbl hlist hXD hXD2 hXC hD hc0 hrc hth e64
      go_wp2_with (first
        | (refine load_w rfl (.tmp 11) rfl g (oo + k * 65) rfl (wArr a cs.toArray) hrw hW ?_)
        | (refine alloc_w rfl rfl ?_)
        | (refine store_w rfl (.tmp 3) (.tmp 12) rfl _ _ rfl rfl (wArr a cs.toArray) rfl rfl hW hW1 ?_))
      go_region_held3 (fun w' => w'.cell? ⟨p.D, 2, none⟩ = some (.slice (some ⟨p.C, 0, none⟩) s.n p.cC) ∧ w'.cell? ⟨wr.heap.size, 0, none⟩ = some (.int .i64 a) ∧ w'.rangeAt wr.heap.size 1 cs ∧ w'.there p.C (a * 64) 64)
        (first | (with_reducible exact K1.out) | (with_reducible exact K2.out)) (fail)
      go_wp2
      go_roundw
      case rel =>
        refine ⟨k + 1, by omega, by go_num, ?_, ?_, ?_, ?_⟩
        · rw [HL1.out]
          have r1 : Row (wr.alloc (.cells (wArr a cs.toArray) 105)).drew 64 p.C p.cC s.n _ := HM.out.row.later (below_alloc _ _).drew
          exact r1.sets (a * 64) cs (by rw [hcs]; omega)
        · intro q hq hne
          rw [heap_setCells_other q p.C hne]
          show (wr.alloc _).heap[q]? = _
          rw [Below.heap_alloc _ _ _ (by omega)]
          exact HM.out.kept q hq hne
        · exact (HM.out.below.alloc (Nat.le_trans HB.out hMsz) _).drew.trans (below_setCells p.C HP.out.tC.2 cs (a * 64))
        · rw [size_setCells]
          show _ ≤ (wr.alloc _).heap.size
          simp; omega
      case measure => simp [intOf]; omega
    · have hke : k = s.since.length := by omega
      subst hke
      have hDC : p.D ≠ p.C := fun e => by have a := HP.out.tD.1; have b := HP.out.tC.1; rw [e] at a; omega
      have hbD : Blk wr p.D _ := HP.out.bD.same (hM.kept p.D HP.out.bD.lt hDC)
      have f4 := hbD.frozen 4
      have c4 := hbD.cell 4
      simp only [List.getElem?_cons_succ, List.getElem?_cons_zero] at c4
      have HM : Hid (Mid w tag base o s p s.since.length wr) := hM
      have HBD : Hid (Blk wr p.D [.pointer (some ⟨p.Q, 0, none⟩), .func (.func 67) #[.pointer (some ⟨p.Q, 0, none⟩)] #[], .slice (some ⟨p.C, 0, none⟩) s.n p.cC, .slice (some ⟨p.L, 0, none⟩) s.n p.cL, p.uv]) := hbD
      clear hM hbD
      go_wp2
      refine bodyPost_end (results_none rfl _ _ _) rfl ?_
      refine ⟨rfl, { p with uv := .slice none 0 0 }, rfl, ?_, ?_⟩
      · have hP := HP.out
        have hM := HM.out
        have all : ∀ {g T : Nat}, g < w.heap.size → tag g = T → T ≠ 16 * o + 1 → T ≠ 16 * o + 3 → (wr.setCell ⟨p.D, 4, none⟩ (.slice none 0 0)).heap[g]? = w.heap[g]? := fun {g T} hg ht n1 n3 => by
          rw [heap_setCell_other _ _ g _ (fun e => n1 (by rw [← ht, show g = p.D from e]; exact hP.tD.1))]
          exact hM.kept g hg (fun e => n3 (by rw [← ht, e]; exact hP.tC.1))
        refine ⟨by simpa [St.settled] using HBD.out.set 4 (.slice none 0 0), hP.bQ.same (all hP.bQ.lt hP.tQ.1 (by omega) (by omega)), ?_, hP.rL.same (all hP.rL.lt hP.tL.1 (by omega) (by omega)), hP.wW.same (fun g hg => all (hP.wW.lt g hg) (hP.tW g hg).1 (by omega) (by omega)), win_nil _ _, hP.tD, hP.tQ, hP.tC, hP.tL, hP.tW, fun g hg => by simp [Value.ownBlock] at hg, hP.ok.settled⟩
        have hr := hM.row
        rw [List.take_length, ← hP.ok.eq] at hr
        exact hr.same (heap_setCell_other _ _ _ _ (fun e => hDC e.symm))
      · refine Step.set ?_ HP.out.tD.2 (by have := HP.out.tD.1; omega) 4 _
        exact ⟨HM.out.below, fun _ _ => rfl, fun q hq hne => HM.out.kept q hq (fun e => hne (by rw [e]; have := HP.out.tC.1; omega))⟩

set_option maxHeartbeats 1000000 in
theorem sync_ok (w : World) (tag : Nat → Nat) (base o : Nat) (s : St) (p : PL) (h : PD w tag base o s p) (hbase : base ≤ w.heap.size) (hops : s.ops ≤ 1000000) (hout : s.outs.length ≤ 1000000) (hsin : s.since.length ≤ 1000000) :
    Calls Tryz.prog 112 #[.pointer (some ⟨p.D, 0, none⟩)] w fun e w' => e = .returned (.int .i64 (errC s.out)) ∧ ∃ p', p'.D = p.D ∧ PD w' tag base o s.sync p' ∧ Step tag tag base o w w' := by
  have HA := attempt_ok w tag base o s p h hops hout
  have HM := made_ok w tag base o s p h
  have HB : Hid (base ≤ w.heap.size) := hbase
  clear h hbase
  by_cases hd : doneB s.out = true
  · have HS : Hid (s.sync = s.take.settled) := by show _ = _; unfold St.sync; rw [if_pos hd]
    go_enter Tryz.func112, Tryz.ntmps112
    go_wp2_with (first
      | (go_at_call 41; refine HM.mono ?_; rintro e w' ⟨rfl, hx⟩; have HX1 : Hid (w' = w) := hx; clear hx; rw [HX1.out])
      | (go_at_call 128; refine HA.mono ?_; rintro e w1 ⟨rfl, p1, hD, hP, hS⟩; have HT := settle_ok w1 tag base o s.take p1 hP (Nat.le_trans HB.out hS.below.size) hsin; rw [hD] at HT; clear hP)
      | (go_at_call 129; refine HT.mono ?_; rintro e w2 ⟨rfl, p2, hD2, hP2, hS2⟩))
    go_ret
    exact ⟨rfl, p2, hD2, by rw [HS.out]; exact hP2, hS.trans hS2⟩
  · have hd' : doneB s.out = false := by simpa using hd
    have HS : Hid (s.sync = s.take) := by show _ = _; unfold St.sync; rw [if_neg hd]
    clear hd
    go_enter Tryz.func112, Tryz.ntmps112
    go_wp2_with (first
      | (go_at_call 41; refine HM.mono ?_; rintro e w' ⟨rfl, hx⟩; have HX1 : Hid (w' = w) := hx; clear hx; rw [HX1.out])
      | (go_at_call 128; refine HA.mono ?_; rintro e w1 ⟨rfl, p1, hD, hP, hS⟩))
    go_ret
    exact ⟨rfl, p1, hD, by rw [HS.out]; exact hP, hS⟩

end Go.Proofs.YtafkkehcacdodaaGreat
