/- The document's Crash. -/
import Derived.Test.YtafkkehcacdodaaGreatM14
import Derived.Deep.LoopGhost
import Derived.Deep.CutRange
import Derived.Deep.CutBlock
set_option maxRecDepth 100000
namespace Go.Proofs.YtafkkehcacdodaaGreat
open Go.RowKit
attribute [local go_sem ↓] Go.wp_at_zero Go.wp_at_succ

/-- One block is being written; it shows X by now. -/
structure Cp (w2 : World) (N0 g cap n : Nat) (X : List Int) (wr : World) : Prop where
  row : Row wr 1 g cap n (bytesV X)
  kept : ∀ q, q ≠ g → wr.heap[q]? = w2.heap[q]?
  below : Below N0 w2 wr

theorem Cp.set {w2 : World} {N0 g cap n : Nat} {X : List Int} {wr : World} (h : Cp w2 N0 g cap n X wr) (hg : N0 ≤ g) (j : Nat) (c : Int) (Y : List Int) (hY : (bytesV X).set j (.int .u8 c) = bytesV Y) : Cp w2 N0 g cap n Y (wr.setCell ⟨g, j, none⟩ (.int .u8 c)).drew := by
  refine ⟨?_, fun q hq => ?_, (h.below.setCell hg _).drew⟩
  · have := h.row.set j (.int .u8 c)
    rw [hY] at this
    exact this
  · show (wr.setCell _ _).heap[q]? = _
    rw [heap_setCell_other _ _ q _ hq]
    exact h.kept q hq

theorem MD.sAt {w : World} {tag : Nat → Nat} {base o : Nat} {s : St} {p : ML} (h : MD w tag base o s p) (hne : 0 < s.since.length) : ∃ g oo cap, p.sv = .slice (some ⟨g, oo, none⟩) s.since.length cap ∧ s.since.length ≤ cap ∧ cap ≤ maxLen ∧
    ∀ i, i < s.since.length → w.cell? ⟨g, oo + i * 2, none⟩ = some (.int .i64 (s.since.getD i (0, [])).1) ∧ w.cell? ⟨g, oo + i * 2 + 1, none⟩ = some (.slice (some ⟨(p.bs.getD i (0, 0)).1, 0, none⟩) 64 (p.bs.getD i (0, 0)).2) := by
  rcases h.wS.2 with ⟨_, hz⟩ | ⟨g, oo, cap, cs, hv, hb, hn, hcm, hcap, hx⟩
  · omega
  · refine ⟨g, oo, cap, hv, hn, hcm, fun i hi => ?_⟩
    obtain ⟨m0, m1⟩ := mcells_at s.since p.bs h.lb i hi
    have r := hb.range oo (s.since.length * 2)
    rw [hx] at r
    have r0 := r (2 * i) _ m0
    have r1 := r (2 * i + 1) _ m1
    refine ⟨?_, ?_⟩
    · rw [show oo + i * 2 = oo + 2 * i by omega]; exact r0
    · rw [show oo + i * 2 + 1 = oo + (2 * i + 1) by omega]; exact r1

set_option maxHeartbeats 8000000 in
theorem rcrash_ok (w : World) (tag : Nat → Nat) (base o o' : Nat) (s : St) (p : ML) (h : MD w tag base o s p) (hbase : base ≤ w.heap.size) (hsin : s.since.length ≤ 1000000) (v : Value) (ch : List Int) (hv : Bts w v ch) :
    Calls Tryz.prog 14 #[.pointer (some ⟨p.M, 0, none⟩), v] w fun e w' => ∃ p2 tag', e = .returned (.pointer (some ⟨p2.M, 0, none⟩)) ∧ MD w' tag' base o' (s.crash ch) p2 ∧ (∀ k, k < w.heap.size → tag' k = tag k) ∧ Below w.heap.size w w' := by
  have HN := rnew_ok w tag w.heap.size o' s.n (Nat.le_refl _) h.ok.n1 h.ok.n2
  have h0 := h.m0
  have HM : Hid (MD w tag base o s p) := h
  have HV : Hid (Bts w v ch) := hv
  have HB : Hid (base ≤ w.heap.size) := hbase
  have hchb : isBytes ch := by obtain ⟨_, _, _, _, _, _, _, hb, _⟩ := hv; exact hb
  obtain ⟨va, vc, vb, vo, rfl, hvl, hvm, _, hva, hvs⟩ := hv
  unfold maxLen at hvm
  obtain ⟨L, hL⟩ : ∃ L : Nat, L = s.n * 64 := ⟨_, rfl⟩
  have HL : Hid (L = s.n * 64) := hL
  have hLm : L ≤ 262144 := by have : s.n ≤ 4096 := h.ok.n2; omega
  have HSL : Hid (s.sure.length = L) := by show _ = _; rw [hL]; exact h.ok.sl
  have hcS : L ≤ p.cS := by rw [hL]; exact h.rS.2.1
  have hcS2 : p.cS ≤ 9223372036854775807 := h.rS.2.2.1
  have HMl : Hid (p.M < w.heap.size) := h.bM.lt
  have HCB : Hid (isBytes ch) := hchb
  have HVS : Hid (Sees w vb vo ch) := hvs
  clear h hL hbase hchb hvs
  go_enter Tryz.func14, Tryz.ntmps14
  go_wp2_with (go_at_call 8; refine HN.mono ?_; rintro e w2 ⟨p2, tag2, rfl, hP2, hT2, hB2⟩)
  clear HN h0
  have HP2 : Hid (MD w2 tag2 w.heap.size o' (St.new s.n) p2) := hP2
  have HB2 : Hid (Below w.heap.size w w2) := hB2
  have dS : L ≤ p2.cS := by rw [HL.out]; exact hP2.rS.2.1
  have dS2 : p2.cS ≤ 9223372036854775807 := hP2.rS.2.2.1
  have dN : L ≤ p2.cN := by rw [HL.out]; exact hP2.rN.2.1
  have dN2 : p2.cN ≤ 9223372036854775807 := hP2.rN.2.2.1
  have HSb : Hid (w.heap.size ≤ p2.S) := hP2.tS.2
  have HNb : Hid (w.heap.size ≤ p2.N) := hP2.tN.2
  have HMb : Hid (w.heap.size ≤ p2.M) := hP2.tM.2
  have HMS : Hid (p2.M ≠ p2.S) := fun e => by have a := hP2.tM.1; have b := hP2.tS.1; rw [e] at a; omega
  have HMN : Hid (p2.M ≠ p2.N) := fun e => by have a := hP2.tM.1; have b := hP2.tN.1; rw [e] at a; omega
  have HNS : Hid (p2.N ≠ p2.S) := fun e => by have a := hP2.tN.1; have b := hP2.tS.1; rw [e] at a; omega
  -- what the old disk shows in any later world
  have OLD : Hid (∀ wr X, Cp w2 w.heap.size p2.S p2.cS L X wr → Below w.heap.size w wr) := fun wr X hc => HB2.out.trans hc.below
  have NEW : Hid (∀ wr X, Cp w2 w.heap.size p2.S p2.cS L X wr → wr.cell? ⟨p2.M, 1, none⟩ = some (.slice (some ⟨p2.S, 0, none⟩) L p2.cS) ∧ wr.cell? ⟨p2.M, 2, none⟩ = some (.slice (some ⟨p2.N, 0, none⟩) L p2.cN)) := fun wr X hc => by
    have hb := HP2.out.bM.same (hc.kept p2.M HMS.out)
    rw [HL.out]
    exact ⟨hb.cell 1, hb.cell 2⟩
  clear hP2 hB2
  go_loopw [7] (fun i wr => ∃ (k : Nat), k ≤ L ∧ i = .int .i64 k ∧ Cp w2 w.heap.size p2.S p2.cS L (s.sure.take k ++ (zeros L).drop k) wr) (fun i _ => L - (intOf i).toNat)
  case atStart => exact ⟨0, Nat.zero_le _, rfl, by have := HP2.out.rS; rw [HL.out]; simpa [St.new] using this, fun _ _ => rfl, Below.refl _ _⟩
  case round =>
    obtain ⟨k, hk, rfl, hC⟩ := hrel
    have hbw := OLD.out _ _ hC
    obtain ⟨x1, x2⟩ := NEW.out _ _ hC
    have d1 : wr.cell? ⟨p.M, 1, none⟩ = some (.slice (some ⟨p.S, 0, none⟩) L p.cS) := by rw [HL.out]; exact (HM.out.bM.later hbw).cell 1
    by_cases hlt : k < L
    · have hltI : (k : Int) < (L : Int) := by omega
      have c3 : wr.cell? ⟨p.S, k, none⟩ = some (.int .u8 (s.sure.getD k 0)) := row_byte (HM.out.rS.later hbw) k (by rw [HSL.out]; exact hlt)
      have c4 := hC.row.cell k (by omega)
      have c4' : ∃ u, wr.cell? ⟨p2.S, k, none⟩ = some u := ⟨_, by rw [c4]; exact List.getElem?_eq_getElem (by simp [HSL.out, zeros]; omega)⟩
      obtain ⟨u, c4'⟩ := c4'
      clear c4
      have f4 : wr.frozen? ⟨p2.S, k, none⟩ = false := hC.row.frozen k
      have hst := copied_set s.sure (zeros L) k (by rw [HSL.out]; simp [zeros]) (by rw [HSL.out]; exact hlt)
      generalize hC' : s.sure.getD k 0 = c at *
      clear hC'
      have hC2 := hC.set HSb.out k c _ hst
      have hb2 := OLD.out _ _ hC2
      obtain ⟨y1, y2⟩ := NEW.out _ _ hC2
      have K1 : wr.drew.cell? ⟨p2.M, 1, none⟩ = some (.slice (some ⟨p2.S, 0, none⟩) L p2.cS) ∧ wr.drew.cell? ⟨p.M, 1, none⟩ = some (.slice (some ⟨p.S, 0, none⟩) L p.cS) ∧ wr.drew.cell? ⟨p.S, k, none⟩ = some (.int .u8 c) := ⟨x1, d1, c3⟩
      have K2 : Hid ((wr.setCell ⟨p2.S, k, none⟩ (.int .u8 c)).drew.cell? ⟨p2.M, 1, none⟩ = some (.slice (some ⟨p2.S, 0, none⟩) L p2.cS) ∧ (wr.setCell ⟨p2.S, k, none⟩ (.int .u8 c)).drew.cell? ⟨p.M, 1, none⟩ = some (.slice (some ⟨p.S, 0, none⟩) L p.cS) ∧ (wr.setCell ⟨p2.S, k, none⟩ (.int .u8 c)).drew.cell? ⟨p.S, k, none⟩ = some (.int .u8 c)) := by
        refine ⟨y1, by rw [HL.out]; exact (HM.out.bM.later hb2).cell 1, ?_⟩
        show (wr.setCell _ _).cell? _ = _
        rw [World.cell?_setCell_other _ _ _ _ (by intro e; have a : p2.S = p.S := congrArg Addr.block e; have b := HSb.out; have c := HM.out.rS.lt; omega)]; exact c3
      have HC2 : Hid _ := hC2
      clear hC hC2 hst hbw hb2 y1 y2
      go_wp2
      go_region_held3 (fun w' => w'.cell? ⟨p2.M, 1, none⟩ = some (.slice (some ⟨p2.S, 0, none⟩) L p2.cS) ∧ w'.cell? ⟨p.M, 1, none⟩ = some (.slice (some ⟨p.S, 0, none⟩) L p.cS) ∧ w'.cell? ⟨p.S, k, none⟩ = some (.int .u8 c)) (first | (with_reducible exact K1) | (with_reducible exact K2.out)) (fail)
      go_wp2
      go_roundw
      case rel => exact ⟨k + 1, by omega, by go_num, HC2.out⟩
      case measure => simp [intOf]; omega
    · have hke : k = L := by omega
      subst hke
      have hC0 : Cp w2 w.heap.size p2.S p2.cS k (torn ch s.sure s.since 0) wr := by
        have e : s.sure.take k ++ (zeros k).drop k = s.sure := by
          rw [List.take_of_length_le (by rw [HSL.out]; exact Nat.le_refl _), List.drop_of_length_le (by simp [zeros])]; simp
        rw [e] at hC; exact hC
      clear hC hbw x1 x2
      go_wp2
      go_loopg [8] s.since.length (fun gk i wr => ∃ (t : Nat), t + gk = s.since.length ∧ i = .int .i64 t ∧ Cp w2 w.heap.size p2.S p2.cS k (torn ch s.sure s.since t) wr)
      case atStart => exact ⟨0, Nat.zero_add _, rfl, hC0⟩
      case round =>
        clear hC0 d1
        obtain ⟨t, ht, rfl, hC⟩ := hrel
        have hbw := OLD.out _ _ hC
        have m3 := (HM.out.bM.later hbw).cell 3
        simp only [List.getElem?_cons_succ, List.getElem?_cons_zero] at m3
        by_cases hlt : t < s.since.length
        · have hltI : (t : Int) < (s.since.length : Int) := by omega
          obtain ⟨g, oo, cap, hsv, hcap, hcapm, hAt⟩ := HM.out.sAt (by omega)
          obtain ⟨q0, q1⟩ := hAt t hlt
          have hrB := HM.out.bB t hlt
          obtain ⟨a1, a2, a3⟩ := wr_at HM.out.ok t hlt
          have HTO : Hid (torn ch s.sure s.since (t + 1) = splice (torn ch s.sure s.since t) ((s.since.getD t (0, [])).1 * 64) ((s.since.getD t (0, [])).2.take (leftN ch t))) := rfl
          have HTL : Hid ((torn ch s.sure s.since t).length = k) := by show _ = _; rw [HL.out]; exact (torn_len HM.out.ok ch t (by omega)).1
          generalize (s.since.getD t (0, [])).1 = a at *
          generalize (s.since.getD t (0, [])).2 = bl at *
          generalize (p.bs.getD t (0, 0)).1 = bg at *
          generalize (p.bs.getD t (0, 0)).2 = bc at *
          unfold maxLen at hcapm
          have hbc : 64 ≤ bc := hrB.2.1
          have hbc2 : bc ≤ 9223372036854775807 := hrB.2.2.1
          have HRB : Hid (Row w 1 bg bc 64 (bytesV bl)) := hrB
          have HG : Hid (∀ wr, Below w.heap.size w wr → wr.cell? ⟨p.M, 3, none⟩ = some (.slice (some ⟨g, oo, none⟩) s.since.length cap) ∧ wr.cell? ⟨g, oo + t * 2, none⟩ = some (.int .i64 a) ∧ wr.cell? ⟨g, oo + t * 2 + 1, none⟩ = some (.slice (some ⟨bg, 0, none⟩) 64 bc)) := fun wx hx => ⟨by have := (HM.out.bM.later hx).cell 3; rw [hsv] at this; exact this, cell_later hx q0, cell_later hx q1⟩
          have HBL : Hid (bl.length = 64) := a2
          obtain ⟨A, hA⟩ : ∃ A : Nat, A = a * 64 := ⟨_, rfl⟩
          have HA : Hid (A = a * 64) := hA
          have hAk : A + 64 ≤ k := by have := HL.out; omega
          have e1 : IntKind.i64.wrap ((a : Int) * 64) = (A : Int) := by rw [IntWalk.i64_in _ (by have := HL.out; omega)]; omega
          have HM64 : Hid (leftN ch t ≤ 64) := leftN_le ch t
          rw [hsv] at m3
          have hct : t < ch.length → va = some ⟨vb, vo, none⟩ ∧ wr.cell? ⟨vb, vo + t, none⟩ = some (.int .u8 (ch.getD t 0)) := fun hc => by
            refine ⟨?_, cell_later hbw (HVS.out t hc)⟩
            rcases hva with h | h
            · exact h
            · rw [h] at hc; simp at hc
          have hcb := getD_byte ch HCB.out t
          have HE : Hid (leftN ch t = _) := leftN_of ch t _ rfl
          have hpast : ch.length ≤ t → ch.getD t 0 = 0 := fun h => by rw [List.getD_eq_getElem?_getD, List.getElem?_eq_none h]; rfl
          generalize ch.getD t 0 = c at *
          generalize torn ch s.sure s.since t = T at *
          generalize leftN ch t = m at *
          have HPA : Hid (ch.length ≤ t → c = 0) := hpast
          have HCT : Hid (t < ch.length → va = some ⟨vb, vo, none⟩ ∧ wr.cell? ⟨vb, vo + t, none⟩ = some (.int .u8 c)) := hct
          obtain ⟨hcb0, hcb1⟩ := hcb
          clear hrB hAt hA a1 a2 a3 q0 q1 hbw hsv hpast hct
          go_upto_if 55 with fail
          go_cut [9] from 43 to 101 (fun cv wx => cv = .int .i64 c ∧ wx = wr)
          case first =>
            by_cases hc : t < ch.length
            · have hcI : (t : Int) < (ch.length : Int) := by omega
              obtain ⟨hva', cc⟩ := HCT.out hc
              subst hva'
              go_wp2
              go_meet
              exact ⟨rfl, rfl⟩
            · have hcI : (ch.length : Int) ≤ (t : Int) := by omega
              have hc0 := HPA.out (by omega)
              subst hc0
              go_wp2
              go_meet
              exact ⟨rfl, rfl⟩
          case rest =>
          obtain ⟨rfl, rfl⟩ := hcut
          go_upto_block 4 with fail
          go_cut [10] from 43 to 101 (fun nv wx => nv = .int .i64 m ∧ wx = wc)
          case first =>
            have hE := HE.out
            by_cases k0 : c % 3 = 0
            · rw [if_pos k0] at hE
              have HE2 : Hid (m = 64) := hE
              clear hE HE
              go_wp2
              go_meet
              exact ⟨by rw [HE2.out]; rfl, rfl⟩
            · rw [if_neg k0] at hE
              by_cases k1 : c % 3 = 1
              · rw [if_pos k1] at hE
                have HE2 : Hid (m = 0) := hE
                clear hE HE
                go_wp2
                go_meet
                exact ⟨by rw [HE2.out]; rfl, rfl⟩
              · rw [if_neg k1] at hE
                have k2 : c % 3 = 2 := by omega
                have d0 : 0 ≤ c / 3 := by omega
                by_cases k3 : c / 3 ≤ 64
                · have HE2 : Hid ((m : Int) = c / 3) := by show _ = _; omega
                  clear hE HE
                  go_wp2
                  go_meet
                  exact ⟨by rw [HE2.out], rfl⟩
                · have HE2 : Hid ((m : Int) = 64) := by show _ = _; omega
                  clear hE HE
                  go_wp2
                  go_meet
                  exact ⟨by rw [HE2.out], rfl⟩
          case rest =>
          obtain ⟨rfl, rfl⟩ := hcut
          go_wp2
          go_loopg [11] m (fun gk i wr => ∃ (j : Nat), j + gk = m ∧ i = .int .i64 j ∧ Cp w2 w.heap.size p2.S p2.cS k (splice T A (bl.take j)) wr)
          case atStart => exact ⟨0, Nat.zero_add _, rfl, by rw [List.take_zero, splice_nil]; exact hC⟩
          case round =>
            clear hC m3 HCT
            obtain ⟨j, hj, rfl, hC⟩ := hrel
            have hbw := OLD.out _ _ hC
            by_cases hjm : j < m
            · have hj64 : j < 64 := by have := HM64.out; omega
              have hjX : (j : Int) < (m : Int) := by omega
              obtain ⟨x1, x2⟩ := NEW.out _ _ hC
              obtain ⟨g3, g4, g5⟩ := HG.out _ hbw
              have c3 : wr.cell? ⟨bg, j, none⟩ = some (.int .u8 (bl.getD j 0)) := row_byte (HRB.out.later hbw) j (by rw [HBL.out]; exact hj64)
              obtain ⟨q, hq⟩ : ∃ q : Nat, q = A + j := ⟨_, rfl⟩
              have e2 : IntKind.i64.wrap ((A : Int) + (j : Int)) = (q : Int) := by rw [IntWalk.i64_in _ (by omega)]; omega
              have hqk : (q : Int) < (k : Int) := by omega
              have c4 := hC.row.cell q (by omega)
              have c4' : ∃ u, wr.cell? ⟨p2.S, q, none⟩ = some u := ⟨_, by rw [c4]; exact List.getElem?_eq_getElem (by have := hC.row.1; omega)⟩
              obtain ⟨u, c4'⟩ := c4'
              have f4 : wr.frozen? ⟨p2.S, q, none⟩ = false := hC.row.frozen q
              have hst := splice_step T bl A j (by rw [HBL.out, HTL.out]; omega) (by rw [HBL.out]; exact hj64)
              rw [← hq] at hst
              generalize hC' : bl.getD j 0 = y at *
              clear hC' c4
              have hC2 := hC.set HSb.out q y _ hst
              have hb2 := OLD.out _ _ hC2
              obtain ⟨y1, y2⟩ := NEW.out _ _ hC2
              obtain ⟨z3, z4, z5⟩ := HG.out _ hb2
              have K1 : wr.drew.cell? ⟨p2.M, 1, none⟩ = some (.slice (some ⟨p2.S, 0, none⟩) k p2.cS) ∧ wr.drew.cell? ⟨p.M, 3, none⟩ = some (.slice (some ⟨g, oo, none⟩) s.since.length cap) ∧ wr.drew.cell? ⟨g, oo + t * 2, none⟩ = some (.int .i64 a) ∧ wr.drew.cell? ⟨g, oo + t * 2 + 1, none⟩ = some (.slice (some ⟨bg, 0, none⟩) 64 bc) ∧ wr.drew.cell? ⟨bg, j, none⟩ = some (.int .u8 y) := ⟨x1, g3, g4, g5, c3⟩
              have K2 : Hid ((wr.setCell ⟨p2.S, q, none⟩ (.int .u8 y)).drew.cell? ⟨p2.M, 1, none⟩ = some (.slice (some ⟨p2.S, 0, none⟩) k p2.cS) ∧ (wr.setCell ⟨p2.S, q, none⟩ (.int .u8 y)).drew.cell? ⟨p.M, 3, none⟩ = some (.slice (some ⟨g, oo, none⟩) s.since.length cap) ∧ (wr.setCell ⟨p2.S, q, none⟩ (.int .u8 y)).drew.cell? ⟨g, oo + t * 2, none⟩ = some (.int .i64 a) ∧ (wr.setCell ⟨p2.S, q, none⟩ (.int .u8 y)).drew.cell? ⟨g, oo + t * 2 + 1, none⟩ = some (.slice (some ⟨bg, 0, none⟩) 64 bc) ∧ (wr.setCell ⟨p2.S, q, none⟩ (.int .u8 y)).drew.cell? ⟨bg, j, none⟩ = some (.int .u8 y)) := by
                refine ⟨y1, z3, z4, z5, ?_⟩
                show (wr.setCell _ _).cell? _ = _
                rw [World.cell?_setCell_other _ _ _ _ (by intro e; have a : p2.S = bg := congrArg Addr.block e; have b := HSb.out; have c := HRB.out.lt; omega)]; exact c3
              have HC2 : Hid _ := hC2
              have hltI' : (t : Int) < (s.since.length : Int) := hltI
              have hj64I : (j : Int) < 64 := by omega
              clear hC hC2 hst hbw hb2 y1 y2 z3 z4 z5 hq x2
              go_wp2
              go_region_held3 (fun w' => w'.cell? ⟨p2.M, 1, none⟩ = some (.slice (some ⟨p2.S, 0, none⟩) k p2.cS) ∧ w'.cell? ⟨p.M, 3, none⟩ = some (.slice (some ⟨g, oo, none⟩) s.since.length cap) ∧ w'.cell? ⟨g, oo + t * 2, none⟩ = some (.int .i64 a) ∧ w'.cell? ⟨g, oo + t * 2 + 1, none⟩ = some (.slice (some ⟨bg, 0, none⟩) 64 bc) ∧ w'.cell? ⟨bg, j, none⟩ = some (.int .u8 y)) (first | (with_reducible exact K1) | (with_reducible exact K2.out)) (fail)
              go_wp2
              go_roundg (m - (j + 1))
              case measure => omega
              case rel => exact ⟨j + 1, by omega, by go_num, HC2.out⟩
            · have hjm' : j = m := by omega
              subst hjm'
              have HC2 : Hid (Cp w2 w.heap.size p2.S p2.cS k (torn ch s.sure s.since (t + 1)) wr) := by
                show Cp _ _ _ _ _ _ _
                rw [HTO.out, ← HA.out]; exact hC
              clear hC hbw
              go_wp2
              go_roundg (s.since.length - (t + 1))
              case measure => omega
              case rel => exact ⟨t + 1, by omega, by go_num, HC2.out⟩
        · have hte : t = s.since.length := by omega
          subst hte
          obtain ⟨t1, t2⟩ := torn_len HM.out.ok ch s.since.length (Nat.le_refl _)
          have HTL : Hid ((torn ch s.sure s.since s.since.length).length = k) := by show _ = _; rw [HL.out]; exact t1
          have HC5 : Hid (Cp w2 w.heap.size p2.S p2.cS k (torn ch s.sure s.since s.since.length) wr) := hC
          obtain ⟨sa, sc, hsf, _, hscm⟩ := HM.out.sform
          rw [hsf] at m3
          unfold maxLen at hscm
          have HCR : Hid (s.crash ch = ⟨s.n, torn ch s.sure s.since s.since.length, torn ch s.sure s.since s.since.length, [], [], 0⟩) := rfl
          have HOK : Hid ((s.crash ch).Ok) := HM.out.ok.crash ch
          have HROW : Hid (Row wr 1 p2.N p2.cN k (bytesV (zeros k))) := by
            have := HP2.out.rN.same (hC.kept p2.N HNS.out)
            rw [HL.out]; exact this
          generalize torn ch s.sure s.since s.since.length = T at *
          have HBW : Hid (Below w.heap.size w wr) := hbw
          clear hC hbw t1 t2 hsf
          generalize hw5 : wr = w5 at *
          clear hw5 wr
          go_wp2
          go_loopg [12] k (fun gk i w6 => ∃ (j : Nat), j + gk = k ∧ i = .int .i64 j ∧ Cp w5 w.heap.size p2.N p2.cN k (T.take j ++ (zeros k).drop j) w6)
          case atStart => exact ⟨0, Nat.zero_add _, rfl, by simpa using HROW.out, fun _ _ => rfl, Below.refl _ _⟩
          case round =>
            clear m3
            obtain ⟨j, hj, rfl, hC⟩ := hrel
            obtain ⟨n1, n2⟩ := NEW.out _ _ HC5.out
            have x1 : wr.cell? ⟨p2.M, 1, none⟩ = some (.slice (some ⟨p2.S, 0, none⟩) k p2.cS) := by rw [World.cell?_of_block (w := w5) (a := ⟨p2.M, 1, none⟩) (hC.kept p2.M HMN.out)]; exact n1
            have x2 : wr.cell? ⟨p2.M, 2, none⟩ = some (.slice (some ⟨p2.N, 0, none⟩) k p2.cN) := by rw [World.cell?_of_block (w := w5) (a := ⟨p2.M, 2, none⟩) (hC.kept p2.M HMN.out)]; exact n2
            have hSN : p2.S ≠ p2.N := fun e => HNS.out e.symm
            clear n1 n2
            by_cases hjk : j < k
            · have hjkI : (j : Int) < (k : Int) := by omega
              have c3 : wr.cell? ⟨p2.S, j, none⟩ = some (.int .u8 (T.getD j 0)) := row_byte (HC5.out.row.same (hC.kept p2.S hSN)) j (by rw [HTL.out]; exact hjk)
              have c4 := hC.row.cell j (by omega)
              have c4' : ∃ u, wr.cell? ⟨p2.N, j, none⟩ = some u := ⟨_, by rw [c4]; exact List.getElem?_eq_getElem (by simp [HTL.out, zeros]; omega)⟩
              obtain ⟨u, c4'⟩ := c4'
              have f4 : wr.frozen? ⟨p2.N, j, none⟩ = false := hC.row.frozen j
              have hst := copied_set T (zeros k) j (by rw [HTL.out]; simp [zeros]) (by rw [HTL.out]; exact hjk)
              generalize hC' : T.getD j 0 = y at *
              clear hC' c4
              have hC2 := hC.set HNb.out j y _ hst
              have K1 : wr.drew.cell? ⟨p2.M, 2, none⟩ = some (.slice (some ⟨p2.N, 0, none⟩) k p2.cN) ∧ wr.drew.cell? ⟨p2.M, 1, none⟩ = some (.slice (some ⟨p2.S, 0, none⟩) k p2.cS) ∧ wr.drew.cell? ⟨p2.S, j, none⟩ = some (.int .u8 y) := ⟨x2, x1, c3⟩
              have K2 : Hid ((wr.setCell ⟨p2.N, j, none⟩ (.int .u8 y)).drew.cell? ⟨p2.M, 2, none⟩ = some (.slice (some ⟨p2.N, 0, none⟩) k p2.cN) ∧ (wr.setCell ⟨p2.N, j, none⟩ (.int .u8 y)).drew.cell? ⟨p2.M, 1, none⟩ = some (.slice (some ⟨p2.S, 0, none⟩) k p2.cS) ∧ (wr.setCell ⟨p2.N, j, none⟩ (.int .u8 y)).drew.cell? ⟨p2.S, j, none⟩ = some (.int .u8 y)) := by
                refine ⟨?_, ?_, ?_⟩
                · show (wr.setCell _ _).cell? _ = _
                  rw [World.cell?_setCell_other _ _ _ _ (by intro e; exact HMN.out (congrArg Addr.block e).symm)]; exact x2
                · show (wr.setCell _ _).cell? _ = _
                  rw [World.cell?_setCell_other _ _ _ _ (by intro e; exact HMN.out (congrArg Addr.block e).symm)]; exact x1
                · show (wr.setCell _ _).cell? _ = _
                  rw [World.cell?_setCell_other _ _ _ _ (by intro e; exact HNS.out (congrArg Addr.block e))]; exact c3
              have HC2 : Hid _ := hC2
              clear hC hC2 hst hSN
              go_wp2
              go_region_held3 (fun w' => w'.cell? ⟨p2.M, 2, none⟩ = some (.slice (some ⟨p2.N, 0, none⟩) k p2.cN) ∧ w'.cell? ⟨p2.M, 1, none⟩ = some (.slice (some ⟨p2.S, 0, none⟩) k p2.cS) ∧ w'.cell? ⟨p2.S, j, none⟩ = some (.int .u8 y)) (first | (with_reducible exact K1) | (with_reducible exact K2.out)) (fail)
              go_wp2
              go_roundg (k - (j + 1))
              case measure => omega
              case rel => exact ⟨j + 1, by omega, by go_num, HC2.out⟩
            · have hje : j = k := by omega
              subst hje
              have hrow : Row wr 1 p2.N p2.cN j (bytesV T) := by
                have e : T.take j ++ (zeros j).drop j = T := by
                  rw [List.take_of_length_le (by rw [HTL.out]; exact Nat.le_refl _), List.drop_of_length_le (by simp [zeros])]; simp
                have := hC.row
                rwa [e] at this
              have HF : Hid (MD wr tag2 base o' (s.crash ch) p2) := by
                have hP := HP2.out
                have hb := HB.out
                have kp : ∀ q, q ≠ p2.S → q ≠ p2.N → wr.heap[q]? = w2.heap[q]? := fun q h1 h2 => (hC.kept q h2).trans (HC5.out.kept q h1)
                have hsn : (St.new s.n).since = [] := rfl
                show MD _ _ _ _ _ _
                have hok := HOK.out
                rw [HCR.out] at hok ⊢
                refine ⟨hP.bM.same (kp p2.M HMS.out HMN.out), ?_, ?_, hP.wS.same (fun g hg => kp g (fun e => by have a := (hP.tV g hg).1; have b := hP.tS.1; rw [e] at a; omega) (fun e => by have a := (hP.tV g hg).1; have b := hP.tN.1; rw [e] at a; omega)), hP.wO.same (fun g hg => kp g (fun e => by have a := (hP.tO g hg).1; have b := hP.tS.1; rw [e] at a; omega) (fun e => by have a := (hP.tO g hg).1; have b := hP.tN.1; rw [e] at a; omega)), hP.lb, (fun q hq => by simp at hq), ⟨hP.tM.1, Nat.le_trans hb hP.tM.2⟩, ⟨hP.tS.1, Nat.le_trans hb hP.tS.2⟩, ⟨hP.tN.1, Nat.le_trans hb hP.tN.2⟩, (fun g hg => ⟨(hP.tV g hg).1, Nat.le_trans hb (hP.tV g hg).2⟩), (fun g hg => ⟨(hP.tO g hg).1, Nat.le_trans hb (hP.tO g hg).2⟩), (fun q hq => by simp at hq), hok⟩
                · have := HC5.out.row.same (hC.kept p2.S hSN)
                  show Row _ 1 _ _ (s.n * 64) _
                  rw [← HL.out]; exact this
                · show Row _ 1 _ _ (s.n * 64) _
                  rw [← HL.out]; exact hrow
              have HB6 : Hid (Below w.heap.size w wr) := HBW.out.trans hC.below
              clear hC hrow hSN
              go_wp2
              go_ret
              exact ⟨p2, tag2, rfl, HF.out, hT2, HB6.out⟩

end Go.Proofs.YtafkkehcacdodaaGreat
