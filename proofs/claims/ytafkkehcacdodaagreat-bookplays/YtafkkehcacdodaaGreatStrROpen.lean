/- The document's Open. -/
import Derived.Test.YtafkkehcacdodaaGreatStrRSmall
import Derived.Test.YtafkkehcacdodaaGreatStrTwMath
import Derived.Test.YtafkkehcacdodaaGreatStrOpen
import Derived.Test.YtafkkehcacdodaaGreatStrRScan2
import Derived.Deep.LoopGhost
set_option maxRecDepth 100000
namespace Go.Proofs.YtafkkehcacdodaaGreat
open Go.RowKit
attribute [local go_sem ↓] Go.wp_at_zero Go.wp_at_succ

theorem MS.low {w : World} {tag : Nat → Nat} {base base' o M n pos used : Nat} {bs : List (List Int)} {cs : List Int} {q : TL} (h : MS w tag base o M n pos used bs cs q) (hb : base' ≤ base) : MS w tag base' o M n pos used bs cs q :=
  ⟨h.bT, h.wL, h.bt, h.rI, h.cl, ⟨h.tT.1, Nat.le_trans hb h.tT.2⟩, fun g hg => ⟨(h.tL g hg).1, Nat.le_trans hb (h.tL g hg).2⟩, fun i hi g hg => ⟨(h.tB i hi g hg).1, Nat.le_trans hb (h.tB i hi g hg).2.1, (h.tB i hi g hg).2.2⟩, ⟨h.tI.1, Nat.le_trans hb h.tI.2⟩⟩

theorem cntL_nil (n : Nat) : cntL [] n = List.replicate n 0 := by
  apply List.ext_getElem
  · simp [cntL]
  · intro i h1 h2; simp [cntL]

theorem cntL_many (rs : List (Nat × List Int)) (n k : Nat) (ls : List (List Int)) (hr : ∀ x ∈ rs, x.1 < k) : cntL (rs ++ ls.map fun b => (k, b)) n = (cntL rs n).set k (ls.length : Int) := by
  apply List.ext_getElem
  · rw [List.length_set, cntL_len, cntL_len]
  · intro i h1 h2
    rw [cntL_len] at h1
    rw [List.getElem_set]
    have e1 : (cntL (rs ++ ls.map fun b => (k, b)) n)[i]'(by rw [cntL_len]; exact h1) = ((rs ++ ls.map fun b => (k, b)).countP fun x => x.1 == i : Nat) := by simp [cntL]
    have e2 : (cntL rs n)[i]'(by rw [cntL_len]; exact h1) = (rs.countP fun x => x.1 == i : Nat) := by simp [cntL]
    rw [e1, e2, List.countP_append, List.countP_map]
    by_cases e : k = i
    · subst e
      rw [if_pos rfl]
      have h0 : (rs.countP fun x => x.1 == k) = 0 := by
        rw [List.countP_eq_zero]
        intro x hx
        have := hr x hx
        simp; omega
      have h3 : List.countP ((fun x : Nat × List Int => x.1 == k) ∘ fun b => (k, b)) ls = ls.length := by
        rw [List.countP_eq_length]; intro b _; simp
      rw [h0, h3]; simp
    · rw [if_neg e]
      have h3 : List.countP ((fun x : Nat × List Int => x.1 == i) ∘ fun b => (k, b)) ls = 0 := by
        rw [List.countP_eq_zero]; intro b _; simp [e]
      rw [h3]; simp

theorem scan_blank {l : List Int} (h : allz l = true) : scanB l = [] := by
  refine scanB_no ?_
  unfold okB
  rw [decide_eq_false_iff_not]
  rintro ⟨h1, h2, _⟩
  have : l.getD 0 0 = 0 := by
    unfold allz at h
    rw [List.all_eq_true] at h
    have := h l[0] (List.getElem_mem (by omega))
    simp [List.getD, List.getElem?_eq_getElem (show 0 < l.length by omega)]
    simpa using this
  omega

theorem openK_blank (now : List Int) (k : Nat) (h : allz (sec now k) = true) : (openK now (k + 1)).pos = (openK now k).pos ∧ (openK now (k + 1)).recs = (openK now k).recs := by
  simp [openK, h, scan_blank h]

theorem openK_full (now : List Int) (k : Nat) (h : allz (sec now k) = false) : (openK now (k + 1)).pos = k + 1 ∧ (openK now (k + 1)).recs = (openK now k).recs ++ (scanB (sec now k)).map fun b => (k, b) := by
  simp [openK, h]

/-- The strand while Open goes on. -/
def OpM (w : World) (tag : Nat → Nat) (o' M n : Nat) (now : List Int) (k : Nat) (wr : World) : Prop :=
  ∃ tag1 lv vs, MS wr tag1 w.heap.size o' M n (openK now k).pos 0 (recB now k) (cntL (openK now k).recs n) ⟨w.heap.size + 1, lv, vs, w.heap.size⟩ ∧ (∀ j, j < w.heap.size → tag1 j = tag j) ∧ Below w.heap.size w wr

theorem opm_start (w : World) (tag : Nat → Nat) (o' M n : Nat) (now : List Int) : OpM w tag o' M n now 0 ((w.alloc (.cells (madeCells #[Value.int .i64 0] n) 3)).alloc (.cells #[.pointer (some ⟨M, 0, none⟩), .int .i64 0, .int .i64 0, .slice none 0 0, .slice (some ⟨w.heap.size, 0, none⟩) n n] 92)) := by
  have b0 := blk_new w (madeCells #[Value.int .i64 0] n) 3
  have b1 := blk_new (w.alloc (.cells (madeCells #[Value.int .i64 0] n) 3)) #[.pointer (some ⟨M, 0, none⟩), .int .i64 0, .int .i64 0, .slice none 0 0, .slice (some ⟨w.heap.size, 0, none⟩) n n] 92
  have hB := below_alloc (w.alloc (.cells (madeCells #[Value.int .i64 0] n) 3)) (.cells #[.pointer (some ⟨M, 0, none⟩), .int .i64 0, .int .i64 0, .slice none 0 0, .slice (some ⟨w.heap.size, 0, none⟩) n n] 92)
  have b0' := b0.later hB
  rw [toList_madeCells_one, show List.replicate n (Value.int .i64 0) = (cntL [] n).map (Value.int .i64) by rw [cntL_nil, List.map_replicate]] at b0'
  rw [World.size_alloc] at b1
  refine ⟨fun j => if j < w.heap.size then tag j else if j = w.heap.size then 16 * o' + 10 else 16 * o' + 7, .slice none 0 0, [], ⟨b1, win_nil _ _, fun i hi => by simp [recB, openK] at hi, b0', cntL_len _ _, ⟨?_, by simp⟩, fun g hg => by simp [Value.ownBlock] at hg, fun i hi => by simp [recB, openK] at hi, ⟨?_, by simp⟩⟩, fun j hj => by simp [hj], ?_⟩
  · show (if w.heap.size + 1 < w.heap.size then _ else if w.heap.size + 1 = w.heap.size then _ else _) = _
    rw [if_neg (by omega), if_neg (by omega)]
  · show (if w.heap.size < w.heap.size then _ else if w.heap.size = w.heap.size then _ else _) = _
    rw [if_neg (by omega), if_pos rfl]
  · exact (below_alloc w _).trans (hB.mono (by simp))

set_option maxHeartbeats 16000000 in
theorem ropen_ok (w : World) (tag : Nat → Nat) (base o o' : Nat) (s : St) (p : ML) (h : MD w tag base o s p) (hbase : base ≤ w.heap.size) :
    Calls Tryz.prog 36 #[.pointer (some ⟨p.M, 0, none⟩)] w fun e w' => ∃ q tag', e = .returned (.tuple #[.pointer (some ⟨q.T, 0, none⟩), .int .i64 0]) ∧ MSt w' tag' base o' p.M s.n (openT s) q ∧ (∀ k, k < w.heap.size → tag' k = tag k) ∧ Below w.heap.size w w' := by
  obtain ⟨i3, hi3, hz30, hz31, hz32⟩ := info_parts info3
  obtain ⟨i0, hi, hz0, hz1, hz2⟩ := info_parts infoB
  have HMD : Hid (MD w tag base o s p) := h
  have hn2 := h.ok.n2
  have hln := h.ok.nl
  have hlb := h.ok.nb
  have h0 := h.m0
  have hMlt := h.bM.lt
  have HI0 : Hid (OpM w tag o' p.M s.n s.now 0 _) := opm_start w tag o' p.M s.n s.now
  clear h
  go_enter Tryz.func36, Tryz.ntmps36
  go_wp2_with (at_make; refine wpList_make_row _ rfl _ _ 55 rfl 3 i3 (.int .i64 0) Tryz.underlying55 hi3 hz30 hz31 rfl .i64 .i64 s.n rfl rfl (by rw [hz32]; omega) (by omega) ?_)
  go_loopg [5] s.n (fun gk i wr => ∃ k : Nat, k + gk = s.n ∧ i = .int .i64 k ∧ OpM w tag o' p.M s.n s.now k wr)
  case atStart => exact ⟨0, by omega, rfl, HI0.out⟩
  case round =>
    obtain ⟨w0, rfl⟩ : ∃ w0, w0 = wr := ⟨wr, rfl⟩
    obtain ⟨k, hk, rfl, tag1, lv, vs, hQ, hT1, hB1⟩ := hrel
    have h01 := cell_later hB1 h0
    by_cases hlt : k < s.n
    case neg =>
      have hge : ¬ (k : Int) < (s.n : Int) := by omega
      have hke : k = s.n := by omega
      have HR : Hid (MSt w0 tag1 base o' p.M s.n (openT s) ⟨w.heap.size + 1, lv, vs, w.heap.size⟩) := by
        rw [hke] at hQ
        have hq := hQ.low hbase
        have hu : (openT s).used = 0 := by
          unfold openT
          cases s.n <;> rfl
        show MS _ _ _ _ _ _ _ _ _ _ _
        rw [hu]
        exact hq
      clear hQ
      go_wp2
      go_ret2
      exact ⟨(⟨w.heap.size + 1, lv, vs, w.heap.size⟩ : TL), rfl, tag1, HR.out, hT1, hB1⟩
    have hltI : (k : Int) < (s.n : Int) := by omega
    have HRd := rread_ok w0 tag base o s p (HMD.out.later hB1) k hlt
    have HSL : Hid ((sec s.now k).length = 64) := sec_len hln hlt
    have hsb := sec_bytes hlb k
    have hokk := openK_ok s.now s.n hln hlb k (by omega)
    have HQ : Hid (MS w0 tag1 w.heap.size o' p.M s.n (openK s.now k).pos 0 (recB s.now k) (cntL (openK s.now k).recs s.n) ⟨w.heap.size + 1, lv, vs, w.heap.size⟩) := hQ
    have HB1 : Hid (Below w.heap.size w w0) := hB1
    have HT1 : Hid (∀ j, j < w.heap.size → tag1 j = tag j) := hT1
    clear hQ hB1 hT1
    go_wp2_with fail
    refine HRd.mono ?_
    rintro e w2 ⟨v2, rfl, hO2, hB2⟩
    have hb2 := hO2.bts hsb
    have HNw : Hid (∀ g, v2.ownBlock = some g → w0.heap.size ≤ g) := fun g hg => (hO2.lt g hg).1
    have HBl := rblank_ok w2 _ _ hb2
    have HB2 : Hid (Below w0.heap.size w0 w2) := hB2
    have HBt : Hid (Bts w2 v2 (sec s.now k)) := hb2
    obtain ⟨va, vc, rfl, _⟩ := bts_src hb2
    clear HRd hO2 hb2 hB2
    go_wp2_with fail
    refine HBl.mono ?_
    rintro e w2' ⟨rfl, hx⟩
    rw [hx]
    clear hx HBl
    by_cases hz : allz (sec s.now k) = true
    · obtain ⟨z1, z2⟩ := openK_blank s.now k hz
      have HR : Hid (OpM w tag o' p.M s.n s.now (k + 1) w2) := by
        refine ⟨tag1, lv, vs, ?_, HT1.out, HB1.out.trans (HB2.out.mono HB1.out.size)⟩
        have e : recB s.now (k + 1) = recB s.now k := by unfold recB; rw [z2]
        rw [z1, z2, e]
        exact HQ.out.later HB2.out
      rw [hz]
      go_wp2
      go_roundg (s.n - (k + 1))
      case rel => exact ⟨k + 1, by omega, by go_num, HR.out⟩
      case measure => omega
    have hz' : allz (sec s.now k) = false := by simpa using hz
    obtain ⟨z1, z2⟩ := openK_full s.now k hz'
    have Z : Hid ((openK s.now (k + 1)).pos = k + 1 ∧ cntL (openK s.now (k + 1)).recs s.n = (cntL (openK s.now k).recs s.n).set k ((scanB (sec s.now k)).length : Int) ∧ recB s.now (k + 1) = recB s.now k ++ scanB (sec s.now k)) :=
      ⟨z1, by rw [z2]; exact cntL_many _ _ _ _ (fun x hx => (hokk.2.2.1 x hx).1), recB_succ _ _⟩
    have hQ2 := HQ.out.later HB2.out
    obtain ⟨hQ3, hS3⟩ := hQ2.at (k + 1)
    have f1 := hQ2.fT 1
    have g1 := hQ2.t1
    have hT0 : w.heap.size + 1 < w0.heap.size := HQ.out.bT.lt
    have hB3 : Below w.heap.size w (w2.setCell ⟨w.heap.size + 1, 1, none⟩ (.int .i64 ((k + 1 : Nat) : Int))) := (HB1.out.trans (HB2.out.mono HB1.out.size)).setCell (by show w.heap.size ≤ w.heap.size + 1; omega) _
    have hb3 : Bts (w2.setCell ⟨w.heap.size + 1, 1, none⟩ (.int .i64 ((k + 1 : Nat) : Int))) (.slice va (sec s.now k).length vc) (sec s.now k) := bts_same HBt.out (fun g hg _ => heap_setCell_other _ _ g _ (fun e => by have := HNw.out g hg; have e' : g = w.heap.size + 1 := e; omega))
    obtain ⟨w3, hw3⟩ : ∃ w3, w3 = w2.setCell ⟨w.heap.size + 1, 1, none⟩ (.int .i64 ((k + 1 : Nat) : Int)) := ⟨_, rfl⟩
    rw [← hw3] at hB3 hb3
    have hQ3' : MS w3 tag1 w.heap.size o' p.M s.n (k + 1) 0 (recB s.now k) (cntL (openK s.now k).recs s.n) ⟨w.heap.size + 1, lv, vs, w.heap.size⟩ := by rw [hw3]; exact hQ3
    have HW3 : Hid (w2.setCell ⟨w.heap.size + 1, 1, none⟩ (.int .i64 ((k : Int) + 1)) = w3) := by show _ = _; rw [hw3]; rfl
    have HSc := rscan_ok w3 _ (sec s.now k) hb3 (by rw [HSL.out]; omega)
    have hls8 := scanB_len 64 (sec s.now k) (by rw [HSL.out]; omega)
    rw [HSL.out] at hls8
    have hlsb := scanB_all 64 (sec s.now k) (by rw [HSL.out]; omega) hsb
    have hrk : (recB s.now k).length ≤ 40000 := by rw [recB_len]; omega
    rw [hz']
    clear hQ2 hQ3 hS3 z1 z2 hz hz' hw3 hokk
    go_wp2_with fail
    rw [HW3.out]
    refine HSc.mono ?_
    rintro e w4 ⟨lv4, vs4, rfl, hL4, hB4⟩
    have hT3 : tag1 = tag1 := rfl
    have hsz3 := hB3.size
    obtain ⟨A, LB, LO, lc, rfl, hlc, hlm, hA, hG⟩ := got_of_lst hL4 tag1 (16 * o' + 9) w.heap.size hsz3
    have hS4 := step_over tag1 w.heap.size o' (16 * o' + 9) hsz3 hB4
    have hQ4 : MS w4 (tagOver tag1 w3.heap.size (16 * o' + 9)) w.heap.size o' p.M s.n (k + 1) 0 (recB s.now k) (cntL (openK s.now k).recs s.n) ⟨w.heap.size + 1, lv, vs, w.heap.size⟩ := hQ3'.keep (fun j hj _ => hB4.block j hj) hS4.tags hB4.size
    have HT4 : Hid (∀ j, j < w.heap.size → tagOver tag1 w3.heap.size (16 * o' + 9) j = tag j) := fun j hj => by rw [tagOver_lt _ _ _ _ (by omega)]; exact HT1.out j hj
    have hB04 : Below w.heap.size w w4 := hB3.trans (hB4.mono hsz3)
    generalize tagOver tag1 w3.heap.size (16 * o' + 9) = tag4 at *
    clear hL4 hS4 hQ3' hB4 hB3 hb3 HSc hT3 HW3
    unfold maxLen at hlm
    -- the count
    obtain ⟨hQ5, hS5⟩ := hQ4.count k ((scanB (sec s.now k)).length : Int)
    have d4 := hQ4.t4
    have di := hQ4.i k hlt
    have dfi := hQ4.fI k
    have hG5 : Got (w4.setCell ⟨w.heap.size, k, none⟩ (.int .i64 ((scanB (sec s.now k)).length : Int))) tag4 (16 * o' + 9) w.heap.size LB LO vs4 (scanB (sec s.now k)) :=
      hG.keep (fun g _ hg => heap_setCell_other _ _ g _ (fun e => by have h1 : tag4 w.heap.size = 16 * o' + 10 := hQ4.tI.1; have e' : g = w.heap.size := e; rw [e', h1] at hg; omega)) (fun _ _ => rfl) (by simp [World.setCell])
    have hB05 : Below w.heap.size w (w4.setCell ⟨w.heap.size, k, none⟩ (.int .i64 ((scanB (sec s.now k)).length : Int))) := hB04.setCell (Nat.le_refl _) _
    obtain ⟨w5, hw5⟩ : ∃ w5, w5 = w4.setCell ⟨w.heap.size, k, none⟩ (.int .i64 ((scanB (sec s.now k)).length : Int)) := ⟨_, rfl⟩
    rw [← hw5] at hQ5 hG5 hB05
    have HW5 : Hid (w4.setCell ⟨w.heap.size, k, none⟩ (.int .i64 ((scanB (sec s.now k)).length : Int)) = w5) := hw5.symm
    have HQ5 : Hid (MS w5 tag4 w.heap.size o' p.M s.n (k + 1) 0 (recB s.now k) ((cntL (openK s.now k).recs s.n).set k ((scanB (sec s.now k)).length : Int)) ⟨w.heap.size + 1, lv, vs, w.heap.size⟩) := hQ5
    generalize (cntL (openK s.now k).recs s.n).getD k 0 = c0 at *
    clear hQ4 hQ5 hS5 hG hw5 hB04
    go_wp2_with fail
    rw [HW5.out]
    have hZ := Z.out
    generalize hLS : scanB (sec s.now k) = ls at *
    have HLS : Hid (scanB (sec s.now k) = ls) := hLS
    clear hLS
    generalize recB s.now k = rb at *
    generalize (cntL (openK s.now k).recs s.n).set k (ls.length : Int) = cs at *
    go_loopg [9] ls.length (fun gk i wr => ∃ (j : Nat) (tag6 : Nat → Nat) (lv6 : Value) (vs6 : List Value), j + gk = ls.length ∧ i = .int .i64 j ∧ MS wr tag6 w.heap.size o' p.M s.n (k + 1) 0 (rb ++ ls.take j) cs ⟨w.heap.size + 1, lv6, vs6, w.heap.size⟩ ∧ Step tag4 tag6 w.heap.size o' w5 wr ∧ Got wr tag6 (16 * o' + 9) w.heap.size LB LO vs4 ls)
    case atStart => exact ⟨0, tag4, lv, vs, by omega, rfl, by rw [List.take_zero, List.append_nil]; exact HQ5.out, Step.refl _ _ _ _, hG5⟩
    case round =>
      obtain ⟨w6, rfl⟩ : ∃ w6, w6 = wr := ⟨wr, rfl⟩
      obtain ⟨j, tag6, lv6, vs6, hj, rfl, hQ6, hS6, hG6⟩ := hrel
      by_cases hjl : j < ls.length
      case neg =>
        have hjge : ¬ (j : Int) < (ls.length : Int) := by omega
        have HR : Hid (OpM w tag o' p.M s.n s.now (k + 1) w6) := by
          refine ⟨tag6, lv6, vs6, ?_, fun j' hj' => by rw [hS6.tags j' (Nat.lt_of_lt_of_le hj' hB05.size)]; exact HT4.out j' hj', hB05.trans hS6.below⟩
          rw [Z.out.1, Z.out.2.1, Z.out.2.2]
          rw [List.take_of_length_le (by omega)] at hQ6
          exact hQ6
        clear hQ6 hG6 hS6
        go_wp2
        go_roundg (s.n - (k + 1))
        case rel => exact ⟨k + 1, by omega, by go_num, HR.out⟩
        case measure => omega
      have hjlI : (j : Int) < (ls.length : Int) := by omega
      rcases hA with rfl | hnil
      case inr => rw [hnil] at hjl; simp at hjl
      have hcel := hG6.cell j hjl
      have hbj := hG6.bt j hjl
      have htj := hG6.tE j hjl
      have HTk : Hid (ls.take (j + 1) = ls.take j ++ [ls.getD j []]) := by
        show _ = _
        rw [List.take_succ_eq_append_getElem hjl]; simp [List.getD, List.getElem?_eq_getElem hjl]
      generalize vs4.getD j undef = u at *
      generalize hxx : ls.getD j [] = x at *
      clear hxx
      obtain ⟨ua, uc, huv, _⟩ := bts_src hbj
      subst huv
      have d3 : w6.cell? ⟨w.heap.size + 1, 3, none⟩ = some lv6 := hQ6.t3
      have f3 : w6.frozen? ⟨w.heap.size + 1, 3, none⟩ = false := hQ6.fT 3
      obtain ⟨ra, rc, hrv0⟩ := win_shape hQ6.wL
      have hrv : lv6 = .slice ra (rb ++ ls.take j).length rc := hrv0
      clear hrv0
      have hrl : (rb ++ ls.take j).length ≤ 41000 := by rw [List.length_append, List.length_take]; omega
      have hbw := Nat.le_trans hB05.size hS6.below.size
      have HAP : Hid (∀ v' w8, (w6.alloc (.cells #[.slice ua x.length uc] 39)).drew.grownBy w8 lv6.ownBlock → (v'.ownBlock = lv6.ownBlock ∨ v'.ownBlock = some (w6.alloc (.cells #[.slice ua x.length uc] 39)).drew.heap.size) →
          Win w8 1 v' ((rb ++ ls.take j).length + 1) (vs6 ++ [.slice ua x.length uc]) →
          (∃ tag9, MS (w8.setCell ⟨w.heap.size + 1, 3, none⟩ v') tag9 w.heap.size o' p.M s.n (k + 1) 0 (rb ++ ls.take (j + 1)) cs ⟨w.heap.size + 1, v', vs6 ++ [.slice ua x.length uc], w.heap.size⟩ ∧ Step tag4 tag9 w.heap.size o' w5 (w8.setCell ⟨w.heap.size + 1, 3, none⟩ v') ∧ Got (w8.setCell ⟨w.heap.size + 1, 3, none⟩ v') tag9 (16 * o' + 9) w.heap.size LB LO vs4 ls) ∧
          w8.cell? ⟨w.heap.size + 1, 3, none⟩ = some lv6 ∧ w8.frozen? ⟨w.heap.size + 1, 3, none⟩ = false) := by
        intro v' w8 hg ha hw
        have hBx : Below w6.heap.size w6 (w6.alloc (.cells #[.slice ua x.length uc] 39)).drew := (below_alloc w6 _).drew
        obtain ⟨tag9, e1, e2, e3⟩ := hQ6.pushed hbw hBx x _ v' hbj htj hg ha hw
        have hsx := hBx.size
        have hT6 : w.heap.size + 1 < w6.heap.size := hQ6.bT.lt
        have hne : lv6.ownBlock ≠ some (w.heap.size + 1) := fun e => by have a := (hQ6.tL _ e).1; have b : tag6 (w.heap.size + 1) = 16 * o' + 7 := hQ6.tT.1; rw [b] at a; omega
        have hbl : Blk w8 (w.heap.size + 1) _ := hQ6.bT.same ((hg.block (w.heap.size + 1) (by omega) (fun e => hne e.symm)).trans (hBx.block (w.heap.size + 1) (by omega)))
        refine ⟨⟨tag9, ?_, hS6.trans e2, ?_⟩, hbl.cell 3, hbl.frozen 3⟩
        · rw [HTk.out, ← List.append_assoc]; exact e1
        · exact hG6.keep (fun g' hg' ht' => e3 g' hg' ht') e2.tags e2.below.size
      have HWn : Hid (Win w6 1 lv6 (rb ++ ls.take j).length vs6) := hQ6.wL
      have hT6 : w.heap.size + 1 < w6.heap.size := hQ6.bT.lt
      rw [hrv] at d3 HAP HWn
      generalize (rb ++ ls.take j).length = rn at *
      clear hrv hQ6 hS6 hG6 hbj htj hZ
      go_wp2
      go_region_law ((refine step_win_append rfl (.tmp 61) (.tmp 66) 79 rfl 39 i0 (.slice none 0 0) 1 24 Tryz.underlying79 hi hz0 hz1 hz2 rfl (by decide) (.slice ra rn rc) rn vs6 (by rfl) (by exact HWn.out.later (below_alloc w6 _).drew) ⟨w6.heap.size, 0, none⟩ 1 1 [.slice ua x.length uc] (by rfl) rfl (by exact news_new w6 #[.slice ua x.length uc] 39) (by intro u hu; simp at hu; subst hu; rfl) (by unfold maxLen; omega) (by omega) ?_; intro v' w8 hwin hgrow hat; obtain ⟨va', vc', hvv⟩ := win_shape hwin; subst hvv; obtain ⟨hAP, g4, g5⟩ := HAP.out _ w8 hgrow hat hwin))
      all_goals
        go_wp2
        go_roundg (ls.length - (j + 1))
        case rel =>
          obtain ⟨tag9, e1, e2, e3⟩ := hAP
          exact ⟨j + 1, tag9, _, _, by omega, by go_num, e1, e2, e3⟩
        case measure => omega

end Go.Proofs.YtafkkehcacdodaaGreat
