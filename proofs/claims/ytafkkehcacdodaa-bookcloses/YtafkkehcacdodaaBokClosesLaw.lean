/- BookCloses: behind an Open that is OK no span is open, however it was left. -/
import Derived.Test.YtafkkehcacdodaaM25
import Derived.Test.YtafkkehcacdodaaRows
import Derived.Deep.RegionHeld3
set_option maxRecDepth 100000
namespace Go.Proofs.Ytafkkehcacdodaa.bookCloses
open Go.ChangeShapes Go.WideShapes Go.ChangeAt Go.RowKit Go.Shelf
attribute [local go_sem ↓] Go.wp_at_zero Go.wp_at_succ

/-- Between two deeds. -/
def Inv (w : World) (D B k : Nat) (wr : World) : Prop := ∃ m G tag, Run w 300 D B k m G wr tag

theorem sps_row2 {w : World} {base : Nat} {v : Value} {l : List Sp} (h : SpRow w base v l) : ∃ B O, Sps w v B O l ∧ (l ≠ [] → base ≤ B ∧ B < w.heap.size) := by
  obtain ⟨a, cap, rfl, h2, h3, h4⟩ := ownsRow_shape h
  rcases h4 with h4 | ⟨g, rfl⟩
  · have hl : l = [] := List.eq_nil_of_length_eq_zero h4
    subst hl
    exact ⟨0, 0, ⟨a, cap, rfl, h2, h3, .inr rfl, fun i s hs => by simp at hs⟩, fun hne => absurd rfl hne⟩
  · refine ⟨g, 0, ⟨_, cap, rfl, h2, h3, .inl rfl, fun i s hs => ?_⟩, fun _ => h.lt g rfl⟩
    rw [Nat.zero_add]
    exact spRow_at h rfl hs

theorem sps_same {w w' : World} {v : Value} {B O : Nat} {l : List Sp} (h : Sps w v B O l) (hk : l ≠ [] → w'.heap[B]? = w.heap[B]?) : Sps w' v B O l := by
  obtain ⟨a, cap, h1, h2, h3, h4, h5⟩ := h
  refine ⟨a, cap, h1, h2, h3, h4, fun i s hs => ?_⟩
  have hne : l ≠ [] := fun e => by rw [e] at hs; simp at hs
  have hb := hk hne
  obtain ⟨c0, c1, c2, c3, c4, c5⟩ := h5 i s hs
  have hc : ∀ o, w'.cell? ⟨B, o, none⟩ = w.cell? ⟨B, o, none⟩ := fun o => by unfold World.cell?; simp only [hb]
  exact ⟨(hc _).trans c0, (hc _).trans c1, (hc _).trans c2, (hc _).trans c3, (hc _).trans c4, (hc _).trans c5⟩

/-- What an Open of a disk behind a crash does. -/
theorem open_rest (w : World) (tag : Nat → Nat) (base o : Nat) (ho : 1 ≤ o) (s : St) (p : PL) (h : PD w tag base o s p) (hr : Rest s) (hbase : base ≤ w.heap.size) (now : Int) (hg : goodT now = true) (hL : (startL s).length ≤ 700) :
    Calls Try.prog 12 #[.pointer (some ⟨p.D, 0, none⟩), .int .i64 now] w fun e w' => ∃ tag' B, StepR tag tag' base o (o + 2) w w' ∧ BK w' tag' base o p.D B (wrB (b0 s) (moreE (startL s) now)) ∧ e = .returned (.tuple #[bookV (opnE s now) B, .int .i64 (opnE s now)]) := by
  refine (bopen_ok w tag base o ho s p h hbase now hg (by rw [hr.ops]; omega) (by rw [hr.since]; simp) (by rw [hr.outs]; simp) (by omega)).mono ?_
  rintro e w' ⟨tag', hS, B, hK, rfl⟩
  exact ⟨tag', B, hS, hK, rfl⟩

theorem opn_cases {s : St} (hr : Rest s) {now : Int} (hg : goodT now = true) : opnE s now = 0 ∨ opnE s now = 6 := by
  have hgt : 0 ≤ now ∧ now ≤ 1099511627776 := of_decide_eq_true hg
  exact wrt_quiet _ hr.outs (more_fine (start_fine hr.ok) hgt.1 hgt.2)

theorem bk_later {w w' : World} {tag : Nat → Nat} {base o D B : Nat} {b : Bm} (h : BK w tag base o D B b) (hb : Below w.heap.size w w') : BK w' tag base o D B b := by
  obtain ⟨p', q', kv, dv, k0, k1, k2, k3⟩ := h
  exact ⟨p', q', kv, dv, k0, k1.later hb, k2.later hb, k3.later hb⟩

set_option maxHeartbeats 16000000 in
theorem walk (v0 v1 v2 : Value) (w : World) (V0 : IsDds w v0) (V1 : IsBts w v1) (V2 : IsI64 w v2) : Calls Try.prog 4 #[v0, v1, v2] w fun e w' => e = .returned (.bool true) ∧ Below w.heap.size w w' := by
  obtain ⟨B0, O, l, hDl⟩ := V0
  have HD : Hid (Dds w v0 B0 O l) := hDl
  obtain ⟨a, cap, rfl, hl, hm, ha, _⟩ := hDl
  obtain ⟨ch, hch, _⟩ := V1
  have HCh : Hid (Bts w v1 ch) := hch
  obtain ⟨a1, cap1, rfl, hl1, hm1, _⟩ := bts_src hch
  obtain ⟨now, rfl, hnw⟩ := V2
  clear hch
  unfold maxLen at hm hm1
  go_enter Try.func4, Try.ntmps4
  go_wp2_with (go_at_call 6; refine (awake11_ok _).mono ?_; rintro e w1 ⟨rfl, hB1⟩)
  refine (room11_ok w1 _ B0 O l (HD.out.later hB1)).mono ?_
  rintro e w1' ⟨rfl, hx⟩
  rw [hx]
  clear hx
  by_cases hroom : roomK l = true
  case neg =>
    have hr' : roomK l = false := by simpa using hroom
    rw [hr']
    clear hroom hr'
    go_wp2
    go_ret
    exact ⟨rfl, hB1⟩
  obtain ⟨hl150, hl500⟩ := roomK_few hroom
  have HL5 : Hid (∀ d ∈ l, d.b.length ≤ 500) := hl500
  rw [hroom]
  clear hroom hl500
  by_cases hbig : 500 < ch.length
  · have hbI : (500 : Int) < (ch.length : Int) := by omega
    go_wp2_with fail
    go_ret
    exact ⟨rfl, hB1⟩
  have hbI : ¬ (500 : Int) < (ch.length : Int) := by omega
  by_cases hn0 : now < 0
  · go_wp2_with fail
    go_ret
    exact ⟨rfl, hB1⟩
  by_cases hn1 : 1099511627776 < now
  · go_wp2_with fail
    go_ret
    exact ⟨rfl, hB1⟩
  have HG : Hid (goodT now = true) := decide_eq_true ⟨by omega, by omega⟩
  go_wp2_with fail
  refine (run_fresh w1 hB1 300 300 rfl (by omega) (by omega)).mono ?_
  rintro e w2 ⟨D, B, tag2, rfl, hR2⟩
  have HI0 : Hid (Inv w D B 0 w2) := ⟨_, _, tag2, hR2⟩
  clear hR2 hB1
  go_wp2_with fail
  go_loopg [9] l.length (fun gk i wr => ∃ k : Nat, k + gk = l.length ∧ i = .int .i64 k ∧ Inv w D B k wr)
  case atStart => exact ⟨0, by omega, rfl, HI0.out⟩
  case round =>
    obtain ⟨wx, rfl⟩ : ∃ wx, wx = wr := ⟨wr, rfl⟩
    obtain ⟨k, hk, rfl, m, G, tag, hR⟩ := hrel
    by_cases hlt : k < l.length
    case neg =>
      have hge : ¬ (k : Int) < (l.length : Int) := by omega
      have hcr := run_crash hR (by omega) 4 _ ch (HCh.out.later hR.below)
      have HBl : Hid (Below w.heap.size w wx) := hR.below
      have HRe : Hid (Rest (m.s.crash ch)) := Rest.crash hR.ok.nb.ok ch
      have HLe : Hid ((startL (m.s.crash ch)).length ≤ 301) := by
        obtain ⟨hh, e1, e2⟩ := hR.found ch
        have h1 := found_len (bodies (openT (m.s.crash ch)))
        rw [bodies_bodK, e1] at h1
        have h2 := btw_len e2
        have h3 := hR.G
        show (foundE (bodies (openT (m.s.crash ch)))).length ≤ _
        rw [bodies_bodK, e1]
        omega
      clear hR
      go_wp2_with fail
      refine hcr.mono ?_
      rintro e w4 ⟨p4, tag4, rfl, hP4, _, hB4⟩
      generalize m.s.crash ch = sc at *
      have HB04 : Hid (Below w.heap.size w w4) := HBl.out.trans (hB4.mono HBl.out.size)
      have hOp := open_rest w4 tag4 w.heap.size 4 (by omega) sc p4 hP4 HRe.out HB04.out.size now HG.out (by have := HLe.out; omega)
      have HOC : Hid (opnE sc now = 0 ∨ opnE sc now = 6) := opn_cases HRe.out HG.out
      clear hcr hP4 hB4
      go_wp2_with fail
      refine hOp.mono ?_
      rintro e w5 ⟨tag5, B5, hS5, hK5, rfl⟩
      have hB5 := hS5.below
      have HB05 : Hid (Below w.heap.size w w5) := HB04.out.trans hB5
      clear hOp hB5 hS5
      rcases HOC.out with hX | hX
      case inr =>
        rw [hX]
        have hv : bookV 6 B5 = .pointer none := rfl
        rw [hv]
        clear hX hv hK5
        go_wp2
        go_ret
        exact ⟨rfl, HB05.out⟩
      have HX : Hid (opnE sc now = 0) := hX
      rw [hX]
      have hv : bookV 0 B5 = .pointer (some ⟨B5, 0, none⟩) := rfl
      rw [hv]
      rw [opn_wr sc now hX] at hK5
      clear hX hv
      have hgt : 0 ≤ now ∧ now ≤ 1099511627776 := of_decide_eq_true HG.out
      have HFi : Hid (Fine (opnB sc now).L) := (start_fine HRe.out.ok).app (more_fine (start_fine HRe.out.ok) hgt.1 hgt.2)
      have HLL : Hid ((opnB sc now).L.length ≤ 603) := by
        show (startL sc ++ moreE (startL sc) now).length ≤ _
        rw [List.length_append]
        have h1 := more_len (startL sc) now
        have h2 := HLe.out
        omega
      have hDe := bdebts_ok w5 tag5 w.heap.size 4 p4.D B5 (opnB sc now) hK5 (by show ([] : List En).length ≤ _; simp)
      have HK5 : Hid (BK w5 tag5 w.heap.size 4 p4.D B5 (opnB sc now)) := hK5
      clear hK5
      go_wp2_with fail
      refine hDe.mono ?_
      rintro e w6 ⟨v6, rfl, hW6, hB6, _⟩
      have hD0 : (opnB sc now).D.length = 0 := rfl
      rw [hD0] at hW6
      obtain ⟨a6, c6, rfl, _⟩ := win_form hW6
      have HB06 : Hid (Below w.heap.size w w6) := HB05.out.trans (hB6.mono HB05.out.size)
      have HK6 : Hid (BK w6 (clip tag5 w5.heap.size) w.heap.size 4 p4.D B5 (opnB sc now)) := HK5.out.new hB6
      have hSp := bspans_ok w6 (clip tag5 w5.heap.size) w.heap.size 4 p4.D B5 (opnB sc now) HK6.out HFi.out (by have := HLL.out; omega)
      clear hDe hW6 hB6 HK5
      go_wp2_with fail
      refine hSp.mono ?_
      rintro e w7 ⟨v7, rfl, hR7, hB7⟩
      have HB07 : Hid (Below w.heap.size w w7) := HB06.out.trans (hB7.mono HB06.out.size)
      obtain ⟨tag7, ht7⟩ : ∃ t, t = clip (clip tag5 w5.heap.size) w6.heap.size := ⟨_, rfl⟩
      have HK7 : Hid (BK w7 tag7 w.heap.size 4 p4.D B5 (opnB sc now)) := by rw [ht7]; exact HK6.out.new hB7
      have HSh : Hid (Shut (spans (opnB sc now).L)) := shut_more (startL sc) now
      have HFT : Hid (∀ s ∈ spans (opnB sc now).L, s.opn = false → s.frm ≤ s.til) := frm_til _
      obtain ⟨SB, SO, hSps, hSB⟩ := sps_row2 hR7
      have HSB : Hid (spans (opnB sc now).L ≠ [] → tag7 SB = 0 ∧ SB < w7.heap.size) := fun hne => by
        obtain ⟨h1, h2⟩ := hSB hne
        refine ⟨?_, h2⟩
        rw [ht7]
        simp [clip, show ¬ SB < w6.heap.size by omega]
      clear hSB ht7
      have HSps : Hid (Sps w7 v7 SB SO (spans (opnB sc now).L)) := hSps
      obtain ⟨sa, scp, rfl, hs1, hs2, hsa, hSat⟩ := hSps
      have HSat : Hid (∀ i s, (spans (opnB sc now).L)[i]? = some s → SpAt w7 SB (SO + i * 6) s) := hSat
      unfold maxLen at hs2
      clear hSp hR7 hB7 HK6 hSat
      obtain ⟨SS, hSS⟩ : ∃ SS, SS = spans (opnB sc now).L := ⟨_, rfl⟩
      rw [← hSS] at HSh HFT HSps HSat HSB hs1 hsa ⊢
      have HSS : Hid (SS = spans (opnB sc now).L) := hSS
      clear hSS
      go_wp2_with fail
      go_loopg [14] SS.length (fun gk2 iv wr2 => ∃ (i nq : Nat), i + gk2 = SS.length ∧ iv = .int .i64 (i : Int) ∧ wr2 = w7.drewN nq)
      case atStart => exact ⟨0, 0, by omega, rfl, rfl⟩
      case round =>
        obtain ⟨i, nq, hi, rfl, rfl⟩ := hrel
        by_cases hiS : i < SS.length
        case pos =>
          have hiI : (i : Int) < (SS.length : Int) := by omega
          obtain rfl : sa = some ⟨SB, SO, none⟩ := by
            rcases hsa with g | g
            · exact g
            · subst g; simp at hiS
          obtain ⟨x, hx⟩ : ∃ x, SS[i]? = some x := ⟨_, List.getElem?_eq_getElem hiS⟩
          have hxo := HSh.out x (List.mem_of_getElem? hx)
          have hxt := HFT.out x (List.mem_of_getElem? hx) hxo
          have c1' := spAt_later (HSat.out i x hx) (below_drewN10 w7 nq)
          clear hx
          obtain ⟨wy, hwy⟩ : ∃ z, z = w7.drewN nq := ⟨_, rfl⟩
          rw [← hwy] at c1' ⊢
          have HWY : Hid (wy = w7.drewN nq) := hwy
          clear hwy
          obtain ⟨x0, x1, x2, x3, x4, x5⟩ := x
          simp only at hxo hxt c1'
          subst hxo
          obtain ⟨p0, p1, p2, p3, p4', p5⟩ := c1'
          have hxt' : ¬ x4 < x3 := by omega
          go_wp2_with fail
          go_quiet (fail)
          rename_i nq2
          go_wp2
          go_roundg (SS.length - (i + 1))
          case rel => exact ⟨i + 1, _, by omega, by go_num, by rw [HWY.out, World.drewN_drewN]⟩
          case measure => omega
        case neg =>
          have hge2 : ¬ (i : Int) < (SS.length : Int) := by omega
          have hbn := below_drewN10 w7 nq
          obtain ⟨wy, hwy⟩ : ∃ z, z = w7.drewN nq := ⟨_, rfl⟩
          rw [← hwy] at hbn ⊢
          have HBy : Hid (Below w.heap.size w wy) := HB07.out.trans (hbn.mono HB07.out.size)
          obtain ⟨p5, q5, kv5, dv5, k0, k1, k2, k3⟩ := bk_later HK7.out hbn
          have HSy : Hid (Sps wy (.slice sa SS.length scp) SB SO SS) := sps_later HSps.out hbn
          have hsin : (opnS sc now).since.length ≤ 1000000 := by
            have h1 := (opn_ok HRe.out.ok (q := 0) (by rw [HRe.out.ops]; exact Nat.le_refl _) (by rw [HRe.out.since]; exact Nat.le_refl _) hgt.1 hgt.2).1.nb.sin
            have h2 := more_len (startL sc) now
            have h3 := HLe.out
            show (opnB sc now).s.since.length ≤ _
            omega
          have hcr2 := crash_okD wy tag7 w.heap.size 4 7 (opnB sc now).s p5 k1 HBy.out.size hsin _ ch (HCh.out.later HBy.out) p4.D k0
          have HOk5 : Hid ((opnS sc now).Ok) := k1.ok
          have hwys := hbn.size
          clear k0 k1 k2 k3 hwy hbn
          go_wp2_with fail
          refine hcr2.mono ?_
          rintro e w8 ⟨p8, tag8, rfl, hP8, hT8, hB8⟩
          have HRe2 : Hid (Rest ((opnS sc now).crash ch)) := Rest.crash HOk5.out ch
          have HS2 : Hid (startL ((opnS sc now).crash ch) = (opnB sc now).L) := by
            obtain ⟨R, _, _, _, h4⟩ := HRe.out.opened (now := now)
            rcases h4 HX.out ch with h5 | h5
            · exact h5
            · exact absurd (more_fine (start_fine HRe.out.ok) hgt.1 hgt.2) h5
          have HP8 : Hid (PD w8 tag8 w.heap.size 7 ((opnS sc now).crash ch) p8) := hP8
          have HB08 : Hid (Below w.heap.size w w8) := HBy.out.trans (hB8.mono HBy.out.size)
          have HSy8 : Hid (Sps w8 (.slice sa SS.length scp) SB SO SS) := sps_later HSy.out hB8
          have HW8 : Hid (wy.heap.size ≤ w8.heap.size) := hB8.size
          have HT8 : Hid (∀ k, k < wy.heap.size → tag8 k = tag7 k) := hT8
          clear hcr2 hP8 hB8 hT8
          generalize (opnS sc now).crash ch = sd at *
          have hOp2 := open_rest w8 tag8 w.heap.size 7 (by omega) sd p8 HP8.out HRe2.out HB08.out.size now HG.out (by rw [HS2.out]; have := HLL.out; omega)
          have HOC2 : Hid (opnE sd now = 0 ∨ opnE sd now = 6) := opn_cases HRe2.out HG.out
          go_wp2_with fail
          refine hOp2.mono ?_
          rintro e w9 ⟨tag9, B9, hS9, hK9, rfl⟩
          have hB9 := hS9.below
          have HB09 : Hid (Below w.heap.size w w9) := HB08.out.trans hB9
          have HSy9 : Hid (Sps w9 (.slice sa SS.length scp) SB SO SS) := sps_same HSy8.out (fun hne => by
            obtain ⟨t1, t2⟩ := HSB.out hne
            refine hS9.kept SB (by have := HW8.out; omega) (.inl ?_)
            rw [HT8.out SB (by omega), t1]
            decide)
          rcases HOC2.out with hX2 | hX2
          case inr =>
            rw [hX2]
            have hv : bookV 6 B9 = .pointer none := rfl
            rw [hv]
            clear hX2 hv hK9 hOp2 hB9 hS9
            go_wp2
            go_ret
            exact ⟨rfl, HB09.out⟩
          rw [hX2]
          have hv : bookV 0 B9 = .pointer (some ⟨B9, 0, none⟩) := rfl
          rw [hv]
          rw [opn_wr sd now hX2] at hK9
          have hmb : moreE (startL sd) now = [bootE now] := shut_ends (by rw [HS2.out, ← HSS.out]; exact HSh.out) now
          have hL2 : (opnB sd now).L = (opnB sc now).L ++ [bootE now] := by
            show startL sd ++ moreE (startL sd) now = _
            rw [hmb, HS2.out]
          have hsp2 := bspans_ok w9 tag9 w.heap.size 7 p8.D B9 (opnB sd now) hK9 (by
            show Fine (startL sd ++ moreE (startL sd) now)
            exact (start_fine HRe2.out.ok).app (more_fine (start_fine HRe2.out.ok) hgt.1 hgt.2)) (by rw [hL2, List.length_append]; have := HLL.out; simp; omega)
          rw [hL2, spans_boot, ← HSS.out] at hsp2
          clear hX2 hv hK9 hOp2 hB9 hS9 hmb hL2
          go_wp2_with fail
          refine hsp2.mono ?_
          rintro e w10 ⟨v10, rfl, hR10, hB10⟩
          have HB010 : Hid (Below w.heap.size w w10) := HB09.out.trans (hB10.mono HB09.out.size)
          obtain ⟨TB, TO, hSps10⟩ := sps_row hR10
          have hSm := same10_ok w10 v10 (.slice sa SS.length scp) TB TO SB SO SS hSps10 (sps_later HSy9.out hB10)
          obtain ⟨ta, tc, rfl, _⟩ := hSps10
          clear hsp2 hR10 hB10
          go_wp2_with fail
          refine hSm.mono ?_
          rintro e w11 ⟨rfl, nq3, hx⟩
          rw [hx]
          clear hx hSm
          go_wp2
          go_ret
          exact ⟨rfl, HB010.out.trans ((below_drewN10 w10 nq3).mono HB010.out.size)⟩
    have hltI : (k : Int) < (l.length : Int) := by omega
    rcases ha with rfl | hnil
    case inr => rw [hnil] at hlt; simp at hlt
    have hok := (HD.out.ok k hlt)
    have h5 := HL5.out l[k] (List.getElem_mem hlt)
    have HBt : Hid (Bts w l[k].vb l[k].b) := hok.bt
    obtain ⟨va, vc, hvv, _⟩ := bts_src hok.bt
    have HCe : Hid (∀ wy, Below w.heap.size w wy → wy.cell? ⟨B0, O + k * 6, none⟩ = some (.int .i64 l[k].dO) ∧ wy.cell? ⟨B0, O + k * 6 + 1, none⟩ = some (.int .i64 l[k].tm) ∧ wy.cell? ⟨B0, O + k * 6 + 2, none⟩ = some (.int .u32 l[k].sub) ∧ wy.cell? ⟨B0, O + k * 6 + 3, none⟩ = some (.int .u32 l[k].addr) ∧ wy.cell? ⟨B0, O + k * 6 + 4, none⟩ = some (.int .i64 l[k].blk) ∧ wy.cell? ⟨B0, O + k * 6 + 5, none⟩ = some l[k].vb) := fun wy hy => (HD.out.later hy).cell k hlt
    generalize l[k] = d at *
    obtain ⟨d0, d1, d2, d3, d4, d5, d6⟩ := d
    simp only at hvv h5 HCe HBt
    subst hvv
    have hn1 := hok.t1
    have hn2 := hok.s1
    have hn3 := hok.a1
    have hn4 := hok.b1
    have ho := hok.o1
    simp only at hn1 hn2 hn3 hn4 ho
    clear hok
    obtain ⟨c0, c1, c2, c3, c4, c5⟩ := HCe.out wx hR.below
    have HR0 : Hid (Run w 300 D B k m G wx tag) := hR
    have HR1 : Hid (Run w 300 D B k m G wx.drew (clip tag wx.heap.size)) := hR.new (Below.refl _ wx).drew
    have hbx := hR.below
    clear hR
    by_cases h2 : d0 ≤ 2
    · have hG := run_grant HR1.out (by omega) d1 d2 d3 d4 (en_ok 2 d1 d2 d3 d4 (by omega) (by omega) (by omega) (by omega) (by omega))
      generalize m.putE ⟨2, d1, d2, d3, d4⟩ = X at *
      have K8 := HCe.out wx.drew HR1.out.below
      go_wp2_with fail
      go_region_held3 (fun w' => w'.cell? ⟨B0, O + k * 6, none⟩ = some (.int .i64 d0) ∧ w'.cell? ⟨B0, O + k * 6 + 1, none⟩ = some (.int .i64 d1) ∧ w'.cell? ⟨B0, O + k * 6 + 2, none⟩ = some (.int .u32 d2) ∧ w'.cell? ⟨B0, O + k * 6 + 3, none⟩ = some (.int .u32 d3) ∧ w'.cell? ⟨B0, O + k * 6 + 4, none⟩ = some (.int .i64 d4) ∧ w'.cell? ⟨B0, O + k * 6 + 5, none⟩ = some (.slice va d6.length vc))
        (first | (with_reducible exact K8) | (with_reducible exact K9)) ((go_at_call 8; refine hG.mono ?_; rintro e w6 ⟨rfl, tag6, hS6, hR6⟩; have K9 := HCe.out w6 hR6.below))
      have HI8 : Hid (Inv w D B (k + 1) w6) := ⟨_, _, tag6, hR6⟩
      clear hG hS6 hR6 K8
      go_wp2
      go_roundg (l.length - (k + 1))
      case rel => exact ⟨k + 1, by omega, by go_num, HI8.out⟩
      case measure => omega
    have h2I : ¬ d0 ≤ 2 := h2
    by_cases h4 : d0 ≤ 4
    · have hG := run_release HR1.out (by omega) d1 d3 d4 (en_ok 3 d1 0 d3 d4 (by omega) (by omega) (by omega) (by omega) (by omega))
      generalize m.putE ⟨3, d1, 0, d3, d4⟩ = X at *
      have K8 := HCe.out wx.drew HR1.out.below
      go_wp2_with fail
      go_region_held3 (fun w' => w'.cell? ⟨B0, O + k * 6, none⟩ = some (.int .i64 d0) ∧ w'.cell? ⟨B0, O + k * 6 + 1, none⟩ = some (.int .i64 d1) ∧ w'.cell? ⟨B0, O + k * 6 + 2, none⟩ = some (.int .u32 d2) ∧ w'.cell? ⟨B0, O + k * 6 + 3, none⟩ = some (.int .u32 d3) ∧ w'.cell? ⟨B0, O + k * 6 + 4, none⟩ = some (.int .i64 d4) ∧ w'.cell? ⟨B0, O + k * 6 + 5, none⟩ = some (.slice va d6.length vc))
        (first | (with_reducible exact K8) | (with_reducible exact K9)) ((go_at_call 14; refine hG.mono ?_; rintro e w6 ⟨rfl, tag6, hS6, hR6⟩; have K9 := HCe.out w6 hR6.below))
      have HI8 : Hid (Inv w D B (k + 1) w6) := ⟨_, _, tag6, hR6⟩
      clear hG hS6 hR6 K8
      go_wp2
      go_roundg (l.length - (k + 1))
      case rel => exact ⟨k + 1, by omega, by go_num, HI8.out⟩
      case measure => omega
    have h4I : ¬ d0 ≤ 4 := h4
    by_cases h6 : d0 = 6
    · subst h6
      have hG := run_outcomes HR0.out (by omega) (.slice va d6.length vc) d6 (HBt.out.later hbx) h5
      go_wp2_with fail
      refine (by exact hG : Calls _ _ _ _ _).mono ?_
      rintro e w6 ⟨rfl, tag6, hS6, hR6⟩
      have HI8 : Hid (Inv w D B (k + 1) w6) := ⟨_, G, tag6, hR6⟩
      clear hG hS6 hR6
      go_wp2
      go_roundg (l.length - (k + 1))
      case rel => exact ⟨k + 1, by omega, by go_num, HI8.out⟩
      case measure => omega
    · have h6I : (d0 == 6) = false := by simpa using h6
      have HI8 : Hid (Inv w D B (k + 1) wx) := ⟨m, G, _, HR0.out.next⟩
      go_wp2
      go_roundg (l.length - (k + 1))
      case rel => exact ⟨k + 1, by omega, by go_num, HI8.out⟩
      case measure => omega

set_option maxRecDepth 100000 in
theorem lifted (os : Os) (started : os.Started) (H : Type) (enc : TypeId × Value → H) :
    ReturnsInHanded {} Try.checked os 4 .any (Rows.bookClosesSpec.pre6 enc Try.prog Try.f4 Rows.bookClosesRow.domain false) (Rows.bookClosesSpec.post enc Try.prog Try.f4 false true false false) := by
  refine returnsInHanded_of_change_sized (C := Try.checked) own started (by kernel_rfl) Try.func4
    (ChangeSpec.witness6 (enc := enc) (C := Try.checked) false ⟨#[], #[.slice none 0 0, .slice none 0 0, .int .i64 0], []⟩ 8 (by kernel_rfl) (by kernel_rfl) (by kernel_rfl) (by kernel_rfl)) ?_
  intro W base args ds gs before hval0 hW hcnd hsz0 _
  have hval : ∀ (j : Nat) t v, Try.f4.params[j]? = some t → args[j]? = some v → Value.okWide Try.prog W .any base t v := hval0
  have hsz : ∀ n ∈ DataW.weightsEach Try.prog (Try.f4.params.toList ++ Rows.bookClosesSpec.plain.varTypes Try.prog) (ds ++ gs), n ≤ reachBytes := fun n hn => by simpa using List.all_eq_true.1 hsz0 n hn
  have hW' := hW
  obtain ⟨p, q, hA0, hV, rfl, hfz, hnd⟩ := hW
  have hA : DataW.TrodAll enc Try.prog W 0 (fun _ => true) true Try.f4.params.toList args.toList ds p := hA0
  rw [Try.params4] at hA hval hsz
  obtain ⟨v0, vs0, d0, ds0, p0, q0, hargs, rfl, rfl, h0, r0⟩ := trodAll_cons hA
  obtain ⟨v1, vs1, d1, ds1, p1, q1, rfl, rfl, rfl, h1, r1⟩ := trodAll_cons r0
  obtain ⟨v2, vs2, d2, ds2, p2, q2, rfl, rfl, rfl, h2, r2⟩ := trodAll_cons r1
  obtain ⟨rfl, rfl, rfl⟩ := trodAll_nil r2
  obtain rfl : args = #[v0, v1, v2] := by cases args; simp_all
  obtain ⟨rfl, rfl⟩ := trodVars_none hV
  have lt0 : ∀ x ∈ p0, x.block < W.heap.size := by obtain ⟨m, hm⟩ := h0; exact DataW.trod_lt m _ _ _ hm
  have V0 := viewDd (hval 0 38 v0 rfl rfl) h0 (fun n hn => hsz n (DataW.weights_mem_each (j := 0) rfl rfl n hn))
  have lt1 : ∀ x ∈ p1, x.block < W.heap.size := by obtain ⟨m, hm⟩ := h1; exact DataW.trod_lt m _ _ _ hm
  have V1 := view26 (hval 1 31 v1 rfl rfl) h1 (fun n hn => hsz n (DataW.weights_mem_each (j := 1) rfl rfl n hn))
  have lt2 : ∀ x ∈ p2, x.block < W.heap.size := by obtain ⟨m, hm⟩ := h2; exact DataW.trod_lt m _ _ _ hm
  have V2 := view2 (hval 2 2 v2 rfl rfl) h2 (fun n hn => hsz n (DataW.weights_mem_each (j := 2) rfl rfl n hn))
  clear hA0 hval0 hsz0 hsz
  refine (walk v0 v1 v2 W V0 V1 V2).mono fun e W' ⟨he, bel⟩ => ?_
  subst he
  exact ⟨_, rfl, _, _, _, [], _, [], hW', trodAll_mk1 (shut_bool Try.underlying4 _), (trodAll_cons_mk (Below.trod laidOut (by kernel_rfl) (of_decide_eq_true (by kernel_rfl)) h0 bel lt0) (trodAll_cons_mk (Below.trod laidOut (by kernel_rfl) (of_decide_eq_true (by kernel_rfl)) h1 bel lt1) (trodAll_cons_mk (Below.trod laidOut (by kernel_rfl) (of_decide_eq_true (by kernel_rfl)) h2 bel lt2) trodAll_mk0))), rfl, bel.frame _, fun h => by cases h⟩

theorem over : Rows.bookClosesRow.holds Try.pinned (OpenSpec.ofChange Rows.bookClosesSpec) :=
  OpenClaim.holds_of_wide 4 Try.f4 rfl rfl rfl rfl rfl rfl rfl ⟨rfl, rfl, rfl, rfl, rfl⟩ rfl rfl rfl rfl rfl (by kernel_rfl) Try.func4 (by kernel_rfl)
    (of_decide_eq_true (by kernel_rfl)) (by unfold Func.isWrapper; first | (rw [if_pos (by decide +kernel)]; kernel_rfl) | (rw [if_neg (by decide +kernel)]; exact ⟨rfl, rfl⟩))
    (fun os started H enc _ => lifted os started H enc)

end Go.Proofs.Ytafkkehcacdodaa.bookCloses
namespace Go.Proofs.Ytafkkehcacdodaa
theorem bookCloses_holds : Rows.BookClosesSaid := bookCloses.over
#print axioms bookCloses_holds
end Go.Proofs.Ytafkkehcacdodaa
