/- The document's Read, Sync. -/
import Derived.Test.YtafkkehcacdodaaGreatSecRef3
set_option maxRecDepth 100000
namespace Go.Proofs.YtafkkehcacdodaaGreat
open Go.RowKit
attribute [local go_sem ↓] Go.wp_at_zero Go.wp_at_succ

set_option maxHeartbeats 400000 in
theorem rread_no (w : World) (tag : Nat → Nat) (base o : Nat) (s : St) (p : ML) (h : MD w tag base o s p) (k : Int) (hk : hasB s.n k = false) :
    Calls Tryz.prog 73 #[.pointer (some ⟨p.M, 0, none⟩), .int .i64 k] w fun e w' => e = .returned (.tuple #[.slice none 0 0, .int .i64 1]) ∧ w' = w := by
  have h0 := h.m0
  unfold hasB at hk
  simp only [decide_eq_false_iff_not] at hk
  by_cases h1 : k < 0
  · go_enter Tryz.func73, Tryz.ntmps73
    go_wp2
    go_ret2
    exact ⟨rfl, rfl⟩
  · have h2 : (s.n : Int) ≤ k := by omega
    clear hk
    go_enter Tryz.func73, Tryz.ntmps73
    go_wp2
    go_ret2
    exact ⟨rfl, rfl⟩

theorem sec_getD (l : List Int) (k j : Nat) (hj : j < 64) : (sec l k).getD j 0 = l.getD (k * 64 + j) 0 := by
  unfold sec
  rw [List.getD_eq_getElem?_getD, List.getD_eq_getElem?_getD, List.getElem?_take_of_lt hj, List.getElem?_drop]

theorem row_byte {w : World} {g cap n : Nat} {l : List Int} (h : Row w 1 g cap n (bytesV l)) (j : Nat) (hj : j < l.length) : w.cell? ⟨g, j, none⟩ = some (.int .u8 (l.getD j 0)) := by
  have hl : l.length = n := by simpa using h.1
  rw [h.cell j (by omega)]
  simp [List.getElem?_eq_getElem hj]

set_option maxHeartbeats 2000000 in
theorem rread_ok (w : World) (tag : Nat → Nat) (base o : Nat) (s : St) (p : ML) (h : MD w tag base o s p) (k : Nat) (hk : k < s.n) :
    Calls Tryz.prog 73 #[.pointer (some ⟨p.M, 0, none⟩), .int .i64 k] w fun e w' => ∃ v, e = .returned (.tuple #[v, .int .i64 0]) ∧ Owns w' w.heap.size v (sec s.now k) ∧ Below w.heap.size w w' := by
  obtain ⟨i0, hi, hz0, hz1, hz2⟩ := info_parts info5
  have h0 := h.m0
  have HM2 : Hid (∀ wx, Below w.heap.size w wx → wx.cell? ⟨p.M, 2, none⟩ = some (.slice (some ⟨p.N, 0, none⟩) (s.n * 64) p.cN)) := fun wx hx => (h.bM.later hx).cell 2
  have HRN : Hid (Row w 1 p.N p.cN (s.n * 64) (bytesV s.now)) := h.rN
  have HNL : Hid (s.now.length = s.n * 64) := h.ok.nl
  have HSL : Hid ((sec s.now k).length = 64) := sec_len h.ok.nl hk
  have n2 := h.ok.n2
  have hcm : s.n * 64 ≤ p.cN ∧ p.cN ≤ maxLen := ⟨h.rN.2.1, h.rN.2.2.1⟩
  obtain ⟨hc1, hc2⟩ := hcm
  unfold maxLen at hc2
  have h1 : ¬ (k : Int) < 0 := by omega
  have h2 : ¬ (s.n : Int) ≤ (k : Int) := by omega
  clear h
  go_enter Tryz.func73, Tryz.ntmps73
  go_wp2
  go_loopw [6, 7] (fun v i wr => ∃ j : Nat, j ≤ 64 ∧ i = .int .i64 j ∧ Owns wr w.heap.size v ((sec s.now k).take j) ∧ Below w.heap.size w wr) (fun _ i _ => 64 - (intOf i).toNat)
  case atStart => exact ⟨0, Nat.zero_le _, rfl, World.ownsRow_nil _ _ _ _, Below.refl _ _⟩
  case round =>
    obtain ⟨j, hj, rfl, hown, hbel⟩ := hrel
    by_cases hlt : j < 64
    · have hltI : (j : Int) < 64 := by omega
      have hm2 := HM2.out wr hbel
      have hcell : wr.cell? ⟨p.N, k * 64 + j, none⟩ = some (.int .u8 ((sec s.now k).getD j 0)) := by
        rw [sec_getD _ _ _ hlt]
        exact row_byte (HRN.out.later hbel) _ (by rw [HNL.out]; omega)
      have htl : Hid (((sec s.now k).take j).length = j) := by show _ = _; rw [List.length_take, HSL.out]; omega
      have hts : Hid ((sec s.now k).take (j + 1) = (sec s.now k).take j ++ [(sec s.now k).getD j 0]) := take_snoc _ j (by rw [HSL.out]; omega)
      have hsz := hbel.size
      generalize hC : (sec s.now k).getD j 0 = c at *
      clear hC
      have hown2 : (wr.alloc (.cells #[.int .u8 c] 5)).ownsRow w.heap.size 5 1 _ ((sec s.now k).take j).length (((sec s.now k).take j).map (Value.int .u8)) := World.ownsRow.alloc hown _
      obtain ⟨L, hL⟩ : ∃ L : Nat, L = s.n * 64 := ⟨_, rfl⟩
      obtain ⟨A, hA⟩ : ∃ A : Nat, A = k * 64 := ⟨_, rfl⟩
      obtain ⟨q, hq⟩ : ∃ q : Nat, q = A + j := ⟨_, rfl⟩
      rw [← hA, ← hq] at hcell
      rw [← hL] at hm2
      have e1 : IntKind.i64.wrap ((k : Int) * 64) = (A : Int) := by rw [IntWalk.i64_in _ (by omega)]; omega
      have e2 : IntKind.i64.wrap ((A : Int) + (j : Int)) = (q : Int) := by rw [IntWalk.i64_in _ (by omega)]; omega
      have hqlt : (q : Int) < (L : Int) := by omega
      have hLm : L ≤ 262144 := by omega
      clear hq hA hL h1 h2 hk hc1 n2 hltI
      have hltI : (j : Int) < 64 := by omega
      go_wp2_with (at_builtin; refine wpList_append_own _ rfl _ _ 39 rfl w.heap.size 5 i0 (.int .u8 0) 1 1 Tryz.underlying39 hi hz0 hz1 hz2 rfl (by decide) _ _ _ rfl hown2 ⟨wr.heap.size, 0, none⟩ 1 1 [.int .u8 c] rfl rfl ?c1 ?c2 ?c3 ?c4 ?c5 ?_)
      case c1 =>
        intro j u hj
        match j, hj with
        | 0, hj => simp at hj; subst hj; simp [Addr.add]
      case c2 => intro u hu; simp at hu; subst hu; rfl
      case c3 => rw [htl.out]; unfold maxLen; omega
      case c4 => rw [htl.out]; omega
      case c5 => simp; omega
      intro v' w1 hown' hgrow _
      have R1 : Owns w1 w.heap.size v' ((sec s.now k).take (j + 1)) := by
        unfold Owns; rw [hts.out]; simpa using hown'
      have R2 : Below w.heap.size w w1 := by
        refine (hbel.alloc hsz _).grown hgrow (by simp; omega) ?_
        intro j hj
        exact (hown.lt j hj).1
      clear hown' hgrow hown2
      go_wp2
      go_roundw
      case rel => exact ⟨j + 1, by omega, by go_num, R1, R2⟩
      case measure => simp [intOf]; omega
    · have hje : j = 64 := by omega
      subst hje
      have hge : (64 : Int) ≤ ((64 : Nat) : Int) := by omega
      go_wp2
      go_ret2
      refine ⟨_, rfl, ?_, hbel⟩
      rw [List.take_of_length_le (by rw [HSL.out]; omega)] at hown
      exact hown

/-- The document's Sync, under way: k bytes have been copied. -/
structure RMid (w : World) (base : Nat) (s : St) (p : ML) (k : Nat) (wr : World) : Prop where
  row : Row wr 1 p.S p.cS (s.n * 64) (bytesV (s.now.take k ++ s.sure.drop k))
  kept : ∀ q, q ≠ p.S → wr.heap[q]? = w.heap[q]?
  below : Below base w wr

theorem copied_set (a b : List Int) (k : Nat) (h : a.length = b.length) (hk : k < a.length) : (bytesV (a.take k ++ b.drop k)).set k (.int .u8 (a.getD k 0)) = bytesV (a.take (k + 1) ++ b.drop (k + 1)) := by
  apply List.ext_getElem?
  intro j
  rw [List.getElem?_set]
  by_cases e : k = j
  · subst e
    rw [if_pos rfl]
    simp only [List.length_map, List.length_append, List.length_take, List.length_drop, List.getElem?_map]
    rw [if_pos (by omega), List.getElem?_append_left (by simp; omega), List.getElem?_take_of_lt (by omega), List.getElem?_eq_getElem hk]
    simp [List.getD_eq_getElem?_getD, List.getElem?_eq_getElem hk]
  · rw [if_neg e]
    simp only [List.getElem?_map]
    congr 1
    by_cases hj : j < k
    · rw [List.getElem?_append_left (by simp; omega), List.getElem?_append_left (by simp; omega), List.getElem?_take_of_lt hj, List.getElem?_take_of_lt (by omega)]
    · rw [List.getElem?_append_right (by simp; omega), List.getElem?_append_right (by simp; omega), List.getElem?_drop, List.getElem?_drop]
      congr 1
      simp; omega

theorem MD.settle {w wr : World} {tag : Nat → Nat} {base o : Nat} {s : St} {p : ML} (h : MD w tag base o s p) (hM : RMid w base s p (s.n * 64) wr) :
    MD (wr.setCell ⟨p.M, 3, none⟩ (.slice none 0 0)) tag base o s.settled { p with sv := .slice none 0 0, bs := [] } ∧ Step tag tag base o w (wr.setCell ⟨p.M, 3, none⟩ (.slice none 0 0)) := by
  have hMS : p.M ≠ p.S := fun e => by have a := h.tM.1; have b := h.tS.1; rw [e] at a; omega
  have all : ∀ {g T : Nat}, tag g = T → T ≠ 16 * o + 1 → T ≠ 16 * o + 2 → (wr.setCell ⟨p.M, 3, none⟩ (.slice none 0 0)).heap[g]? = w.heap[g]? := fun {g T} ht n1 n2 => by
    rw [heap_setCell_other _ _ g _ (fun e => n1 (by rw [← ht, show g = p.M from e]; exact h.tM.1))]
    exact hM.kept g (fun e => n2 (by rw [← ht, e]; exact h.tS.1))
  have hr : Row wr 1 p.S p.cS (s.n * 64) (bytesV s.now) := by
    have := hM.row
    rw [List.take_of_length_le (by rw [h.ok.nl]; omega), List.drop_of_length_le (by rw [h.ok.sl]; omega), List.append_nil] at this
    exact this
  constructor
  · refine ⟨?_, hr.same (heap_setCell_other _ _ _ _ (fun e => hMS e.symm)), h.rN.same (all h.tN.1 (by omega) (by omega)), win_nil _ _, h.wO.same (fun g hg => all (h.tO g hg).1 (by omega) (by omega)), rfl, (fun k hk => by simp [St.settled] at hk), h.tM, h.tS, h.tN, (fun g hg => by simp [Value.ownBlock] at hg), h.tO, (fun k hk => by simp [St.settled] at hk), h.ok.settled⟩
    have := (h.bM.same (hM.kept p.M hMS)).set 3 (.slice none 0 0)
    simpa [St.settled] using this
  · refine Step.set ?_ h.tM.2 (by have := h.tM.1; omega) 3 _
    exact ⟨hM.below, fun _ _ => rfl, fun q hq hne => hM.kept q (fun e => hne (by rw [e]; have := h.tS.1; omega))⟩

set_option maxHeartbeats 4000000 in
theorem rsync_ok (w : World) (tag : Nat → Nat) (base o : Nat) (s : St) (p : ML) (h : MD w tag base o s p) (hops : s.ops ≤ 1000000) (hout : s.outs.length ≤ 1000000) :
    Calls Tryz.prog 81 #[.pointer (some ⟨p.M, 0, none⟩)] w fun e w' => e = .returned (.int .i64 (errC s.out)) ∧ ∃ p', p'.M = p.M ∧ MD w' tag base o s.sync p' ∧ Step tag tag base o w w' := by
  have HT := rtake_ok w tag base o s p h hops hout
  clear h
  by_cases hd : doneB s.out = true
  · have HS : Hid (s.sync = s.take.settled) := by show _ = _; unfold St.sync; rw [if_pos hd]
    go_enter Tryz.func81, Tryz.ntmps81
    go_wp2_with (go_at_call 106; refine HT.mono ?_; rintro e w1 ⟨rfl, p1, hD, hP, hS⟩)
    clear HT
    have HP : Hid (MD w1 tag base o s.take p1) := hP
    have HS1 : Hid (Step tag tag base o w w1) := hS
    obtain ⟨L, hL⟩ : ∃ L : Nat, L = s.n * 64 := ⟨_, rfl⟩
    have HL : Hid (L = s.n * 64) := hL
    have hLm : L ≤ 262144 := by have : s.n ≤ 4096 := hP.ok.n2; omega
    have hcN : L ≤ p1.cN := by rw [hL]; exact hP.rN.2.1
    have hcN2 : p1.cN ≤ 9223372036854775807 := hP.rN.2.2.1
    have hcS : L ≤ p1.cS := by rw [hL]; exact hP.rS.2.1
    have hcS2 : p1.cS ≤ 9223372036854775807 := hP.rS.2.2.1
    have HMS : Hid (p1.M ≠ p1.S) := fun e => by have a := hP.tM.1; have b := hP.tS.1; rw [e] at a; omega
    have HNS : Hid (p1.N ≠ p1.S) := fun e => by have a := hP.tN.1; have b := hP.tS.1; rw [e] at a; omega
    have HNL : Hid (s.now.length = L) := by show _ = _; rw [hL]; exact hP.ok.nl
    have HSL : Hid (s.sure.length = L) := by show _ = _; rw [hL]; exact hP.ok.sl
    clear hP hS hL
    go_loopw [5] (fun i wr => ∃ (k : Nat), k ≤ L ∧ i = .int .i64 k ∧ RMid w1 base s.take p1 k wr) (fun i _ => L - (intOf i).toNat)
    case atStart => exact ⟨0, Nat.zero_le _, rfl, by have := HP.out.rS; simpa using this, fun _ _ => rfl, Below.refl _ _⟩
    case round =>
      obtain ⟨k, hk, rfl, hM⟩ := hrel
      have hbM := HP.out.bM.same (hM.kept p1.M HMS.out)
      have c1 : wr.cell? ⟨p.M, 1, none⟩ = some (.slice (some ⟨p1.S, 0, none⟩) L p1.cS) := by rw [← hD, HL.out]; exact hbM.cell 1
      have c2 : wr.cell? ⟨p.M, 2, none⟩ = some (.slice (some ⟨p1.N, 0, none⟩) L p1.cN) := by rw [← hD, HL.out]; exact hbM.cell 2
      by_cases hlt : k < L
      · have hltI : (k : Int) < (L : Int) := by omega
        have c3 : wr.cell? ⟨p1.N, k, none⟩ = some (.int .u8 (s.now.getD k 0)) := row_byte (HP.out.rN.same (hM.kept p1.N HNS.out)) k (by rw [show s.take.now = s.now from rfl, HNL.out]; exact hlt)
        have c4 : wr.cell? ⟨p1.S, k, none⟩ = (bytesV (s.now.take k ++ s.sure.drop k))[k]? := hM.row.cell k (by rw [show s.take.n = s.n from rfl]; have := HL.out; omega)
        have c4' : ∃ u, wr.cell? ⟨p1.S, k, none⟩ = some u := ⟨_, by rw [c4]; exact List.getElem?_eq_getElem (by simp [HNL.out, HSL.out]; omega)⟩
        obtain ⟨u, c4'⟩ := c4'
        clear c4
        have f4 : wr.frozen? ⟨p1.S, k, none⟩ = false := hM.row.frozen k
        have HST : Hid ((bytesV (s.now.take k ++ s.sure.drop k)).set k (.int .u8 (s.now.getD k 0)) = bytesV (s.now.take (k + 1) ++ s.sure.drop (k + 1))) := copied_set _ _ k (by rw [HNL.out, HSL.out]) (by rw [HNL.out]; exact hlt)
        generalize hC : s.now.getD k 0 = c at *
        clear hC
        have K2 : Hid ((wr.setCell ⟨p1.S, k, none⟩ (.int .u8 c)).drew.cell? ⟨p.M, 1, none⟩ = some (.slice (some ⟨p1.S, 0, none⟩) L p1.cS) ∧ (wr.setCell ⟨p1.S, k, none⟩ (.int .u8 c)).drew.cell? ⟨p.M, 2, none⟩ = some (.slice (some ⟨p1.N, 0, none⟩) L p1.cN) ∧ (wr.setCell ⟨p1.S, k, none⟩ (.int .u8 c)).drew.cell? ⟨p1.N, k, none⟩ = some (.int .u8 c)) := by
          refine ⟨?_, ?_, ?_⟩
          · show (wr.setCell _ _).cell? _ = _
            rw [World.cell?_setCell_other _ _ _ _ (by intro e; exact HMS.out (by rw [hD]; exact (congrArg Addr.block e).symm))]; exact c1
          · show (wr.setCell _ _).cell? _ = _
            rw [World.cell?_setCell_other _ _ _ _ (by intro e; exact HMS.out (by rw [hD]; exact (congrArg Addr.block e).symm))]; exact c2
          · show (wr.setCell _ _).cell? _ = _
            rw [World.cell?_setCell_other _ _ _ _ (by intro e; exact HNS.out (congrArg Addr.block e).symm)]; exact c3
        have K1 : wr.drew.cell? ⟨p.M, 1, none⟩ = some (.slice (some ⟨p1.S, 0, none⟩) L p1.cS) ∧ wr.drew.cell? ⟨p.M, 2, none⟩ = some (.slice (some ⟨p1.N, 0, none⟩) L p1.cN) ∧ wr.drew.cell? ⟨p1.N, k, none⟩ = some (.int .u8 c) := ⟨c1, c2, c3⟩
        have HM : Hid (RMid w1 base s.take p1 k wr) := hM
        clear hM hbM
        go_wp2
        go_region_held3 (fun w' => w'.cell? ⟨p.M, 1, none⟩ = some (.slice (some ⟨p1.S, 0, none⟩) L p1.cS) ∧ w'.cell? ⟨p.M, 2, none⟩ = some (.slice (some ⟨p1.N, 0, none⟩) L p1.cN) ∧ w'.cell? ⟨p1.N, k, none⟩ = some (.int .u8 c)) (first | (with_reducible exact K1) | (with_reducible exact K2.out)) (fail)
        go_wp2
        go_roundw
        case rel =>
          refine ⟨k + 1, by omega, by go_num, ?_, ?_, ?_⟩
          · have := HM.out.row.set k (.int .u8 c)
            rw [show s.take.now = s.now from rfl, show s.take.sure = s.sure from rfl, HST.out] at this
            exact this
          · intro q hq
            show (wr.setCell _ _).heap[q]? = _
            rw [heap_setCell_other _ _ q _ hq]
            exact HM.out.kept q hq
          · exact (HM.out.below.setCell HP.out.tS.2 _).drew
        case measure => simp [intOf]; omega
      · have hke : k = L := by omega
        subst hke
        have f3 : wr.frozen? ⟨p.M, 3, none⟩ = false := by rw [← hD]; exact hbM.frozen 3
        have c3 : wr.cell? ⟨p.M, 3, none⟩ = some p1.sv := by rw [← hD]; exact hbM.cell 3
        have HM : Hid (RMid w1 base s.take p1 k wr) := hM
        clear hM hbM
        go_wp2
        go_ret
        have hM := HM.out
        rw [HL.out] at hM
        obtain ⟨e1, e2⟩ := HP.out.settle hM
        rw [hD] at e1 e2
        exact ⟨rfl, { p1 with M := p.M, sv := .slice none 0 0, bs := [] }, rfl, by rw [HS.out]; exact e1, HS1.out.trans e2⟩
  · have hd' : doneB s.out = false := by simpa using hd
    have HS : Hid (s.sync = s.take) := by show _ = _; unfold St.sync; rw [if_neg hd]
    clear hd
    go_enter Tryz.func81, Tryz.ntmps81
    go_wp2_with (go_at_call 106; refine HT.mono ?_; rintro e w1 ⟨rfl, p1, hD, hP, hS⟩)
    go_ret
    exact ⟨rfl, p1, hD, by rw [HS.out]; exact hP, hS⟩

end Go.Proofs.YtafkkehcacdodaaGreat
