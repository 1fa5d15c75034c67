/- trace.rows: the spans of each block that have a time, in the order of their beginnings. -/
import Derived.Test.YtkkcpofaiocjpabTraGroup
set_option maxRecDepth 100000
namespace Go.Proofs.Ytkkcpofaiocjpab
open Go.RowKit Go.Maps

/-- What slices.SortFunc does to a row of spans. -/
def SortSp : Prop := ∀ (W : World) (base g cap : Nat) (l : List Sp), SpRow W base (.slice (some ⟨g, 0, none⟩) l.length cap) l → l.length ≤ 100000 →
  Calls Try.prog 20 #[.slice (some ⟨g, 0, none⟩) l.length cap, .func (.func 21) #[] #[]] W fun e w' =>
    e = .returned (.tuple #[]) ∧ ∃ r : List Sp, r.Perm l ∧ r.Pairwise (fun x y => x.frm ≤ y.frm) ∧ SpRow w' base (.slice (some ⟨g, 0, none⟩) l.length cap) r ∧ W.grownBy w' (some g)

/-- What rows hands back. -/
structure RowsOf (w : World) (base mb : Nat) (l : List Sp) (f : Pl → Option Value) (G : Pl → List Sp) : Prop where
  map : KMap 46 plK w mb l.length f
  grp : Grp w base f G
  perm : ∀ p, (G p).Perm (rowOf l p.1 p.2)
  up : ∀ p, (G p).Pairwise (fun x y => x.frm ≤ y.frm)

set_option maxHeartbeats 8000000 in
theorem rows_ok (HSF : SortSp) (v : Value) (B O : Nat) (l : List Sp) (w : World) (h : Sps w v B O l) (hok : OkAll l) (hl : l.length ≤ 1000) :
    Calls Try.prog 12 #[v] w fun e w' => ∃ f G, e = .returned (.map (some w.heap.size)) ∧ RowsOf w' (w.heap.size + 1) w.heap.size l f G ∧ Below w.heap.size w w' := by
  obtain ⟨ad, cap, rfl, h2, h3, h4, h5⟩ := h
  have H5 : Hid (∀ i s, l[i]? = some s → SpAt w B (O + i * 6) s) := h5
  have HOK : Hid (OkAll l) := hok
  unfold maxLen at h3
  have hmm := @run_makeMap Try.prog
  have HSF' : Hid SortSp := HSF
  clear h5 hok HSF
  go_enter Try.func12, Try.ntmps12
  go_wp2
  go_loopg [12] l.length (fun gk i wr => ∃ (t : Nat) (f : Pl → Option Value), t + gk = l.length ∧ i = .int .i64 (t : Int) ∧ KMap 46 plK wr w.heap.size t f ∧ Grp wr (w.heap.size + 1) f (fun p => rowOf (l.take t) p.1 p.2) ∧ Below w.heap.size w wr ∧ w.heap.size + 1 ≤ wr.heap.size)
  case atStart => exact ⟨0, _, by omega, rfl, KMap.made w, (grp_none _ _).ext (fun _ => rfl) (fun _ => by simp [rowOf]), below_alloc w _, by simp⟩
  case round =>
    obtain ⟨t, f, ht, rfl, hmap, hgrp, hbel, hsz⟩ := hrel
    by_cases hlt : t < l.length
    case neg =>
      have hte : t = l.length := by omega
      subst hte
      have hge : ¬ ((l.length : Int) < (l.length : Int)) := by omega
      rw [List.take_length] at hgrp
      have HM : Hid (KMap 46 plK wr w.heap.size l.length f) := hmap
      have HG : Hid (Grp wr (w.heap.size + 1) f (fun p => rowOf l p.1 p.2)) := hgrp
      have HB : Hid (Below w.heap.size w wr) := hbel
      clear hmap hgrp hbel
      go_wp2_with (at_range; refine wpl_range _ rfl _ 43 rfl placeK 22 Try.underlying43 rfl HM.out ?_; intro w2 c0 hrg0 hg0 hs0)
      have HG2 : Hid (Grp w2 (w.heap.size + 1) f (fun p => rowOf l p.1 p.2)) := HG.out.same fun k _ hk => hg0.block k hk (by simp)
      have HB2 : Hid (Below w.heap.size w w2) := HB.out.grown hg0 HB.out.size (fun k hk => by cases hk)
      have HN : Hid (∀ p : Pl, ¬ OkP p → rowOf l p.1 p.2 = []) := fun p hp => by
        refine List.filter_eq_nil_iff.2 fun s hs hc => hp ?_
        simp only [Bool.and_eq_true, here_iff] at hc
        have ho := HOK.out s hs
        exact ⟨hc.1.1 ▸ ho.addr0, hc.1.1 ▸ ho.addr1, hc.1.2 ▸ ho.block0, hc.1.2 ▸ ho.block1⟩
      have hlow : ∀ p rv, f p = some rv → ∀ g, rv.ownBlock = some g → g < wr.heap.size := fun p rv hp g hgb => (ownsRow_lt (HG.out.row p rv hp).1 hgb).2
      have HLow : Hid (∀ p rv, f p = some rv → ∀ g, rv.ownBlock = some g → g < wr.heap.size) := hlow
      have hmblt := HM.out.lt
      have HLn : Hid (∀ p : Pl, (rowOf l p.1 p.2).length ≤ 1000) := fun p => by
        have h1 := List.length_filter_le (fun s => s.here p.1 p.2 && fullB s) l
        show (List.filter _ _).length ≤ _
        omega
      obtain ⟨R, hR⟩ : ∃ R, R = wr.heap.size := ⟨_, rfl⟩
      rw [← hR] at HLow hrg0 ⊢
      have hRm : w.heap.size + 1 ≤ R := by omega
      clear hg0 hs0 HM HG HB hlow hmblt hR hsz
      go_loopg [8] c0 (fun gk u wq => ∃ (left : Pl → Bool) (G : Pl → List Sp), KRange 46 plK wq w.heap.size R l.length f left gk ∧ Grp wq (w.heap.size + 1) f G ∧ (∀ p, (G p).Perm (rowOf l p.1 p.2)) ∧ (∀ p, left p = false → (G p).Pairwise (fun x y => x.frm ≤ y.frm)) ∧ Below w.heap.size w wq)
      case atStart =>
        refine ⟨_, _, hrg0, HG2.out, fun p => List.Perm.refl _, fun p hp => ?_, HB2.out⟩
        have hn : f p = none := by
          cases hf : f p with
          | none => rfl
          | some u => rw [hf] at hp; cases hp
        have := HG2.out.off p hn
        rw [this]; exact List.Pairwise.nil
      case round =>
        obtain ⟨left, G, hrg, hgrp, hperm, hup, hbel⟩ := hrel
        have HRG : Hid (KRange 46 plK wr w.heap.size R l.length f left _) := hrg
        have HGQ : Hid (Grp wr (w.heap.size + 1) f G) := hgrp
        have HPQ : Hid (∀ p, (G p).Perm (rowOf l p.1 p.2)) := hperm
        have HUQ : Hid (∀ p, left p = false → (G p).Pairwise (fun x y => x.frm ≤ y.frm)) := hup
        have HBQ : Hid (Below w.heap.size w wr) := hbel
        clear hrg hgrp hperm hup hbel hrg0 HG2 HB2
        go_wp2_with (at_next; refine wpl_next _ rfl _ rfl placeK rfl HRG.out ?_ ?_)
        · intro _ hl0
          have HL0 : Hid (∀ x, OkP x → left x = false) := fun x hx => hl0 x.1 x.2 hx
          clear hl0
          go_wp2
          go_ret
          refine ⟨f, G, rfl, ⟨HRG.out.map, HGQ.out, HPQ.out, fun p => ?_⟩, HBQ.out⟩
          by_cases hp : OkP p
          · exact HUQ.out p (HL0.out p hp)
          · have := HPQ.out p
            rw [HN.out p hp] at this
            rw [this.eq_nil]; exact List.Pairwise.nil
        · intro xa xk rv w3 cnt' hx hlx hfx hrg3 hlt3 hg3 hs3 hen
          obtain ⟨hrow, hne⟩ := HGQ.out.row (xa, xk) rv hfx
          obtain ⟨g, cp, rfl, hg1, hg2, hg4⟩ := ownsRow_slice hrow (List.length_pos_iff.2 hne)
          have hgR : g < R := HLow.out (xa, xk) _ hfx g rfl
          have hrow3 : SpRow w3 (w.heap.size + 1) (.slice (some ⟨g, 0, none⟩) (G (xa, xk)).length cp) (G (xa, xk)) := ownsRow_same hrow fun k hk => by
            injection hk with hk
            subst hk
            exact hg3.block g (ownsRow_lt hrow rfl).2 (fun e => by have := Option.some.inj e; omega)
          have hlen : (G (xa, xk)).length ≤ 1000 := by rw [(HPQ.out (xa, xk)).length_eq]; exact HLn.out (xa, xk)
          have HC := HSF'.out w3 (w.heap.size + 1) g cp (G (xa, xk)) hrow3 (by omega)
          have HG3 : Hid (Grp w3 (w.heap.size + 1) f G) := ⟨fun p rv' hp => ⟨ownsRow_same (HGQ.out.row p rv' hp).1 (fun k hk => hg3.block k (ownsRow_lt (HGQ.out.row p rv' hp).1 hk).2 (fun e => by have := Option.some.inj e; have := HLow.out p rv' hp k hk; omega)), (HGQ.out.row p rv' hp).2⟩, HGQ.out.off, HGQ.out.apart⟩
          have HB3 : Hid (Below w.heap.size w w3) := HBQ.out.grown hg3 HBQ.out.size (fun k hk => by injection hk with hk; omega)
          have HRG3 : Hid (KRange 46 plK w3 w.heap.size R l.length f (fun y => left y && !decide (y = (xa, xk))) cnt') := hrg3
          have HNE : Hid (G (xa, xk) ≠ []) := hne
          generalize (G (xa, xk)).length = m at *
          clear hrow hrow3 hrg3 hg3 hs3 hlen hg2 hg4 hne
          go_wp2_with (go_at_call 20; refine HC.mono ?_; rintro e w4 ⟨rfl, r, hr1, hr2, hr3, hr4⟩)
          clear hen
          go_roundg cnt'
          case rel =>
            have hne' : r ≠ [] := fun h => HNE.out (by rw [h] at hr1; exact hr1.symm.eq_nil)
            have hmg : w.heap.size ≠ g := by omega
            have hRg : R ≠ g := by omega
            refine ⟨_, fun y => if y = (xa, xk) then r else G y, HRG3.out.kept hr4 (fun e => hmg (Option.some.inj e)) (fun e => hRg (Option.some.inj e)), HG3.out.turn (xa, xk) _ hfx r hr3 hne' hr4, fun p => ?_, fun p hp => ?_, HB3.out.grown hr4 HB3.out.size (fun k hk => by injection hk with hk; omega)⟩
            · by_cases e : p = (xa, xk)
              · subst e; simp only [if_pos]; exact hr1.trans (HPQ.out (xa, xk))
              · simp only [if_neg e]; exact HPQ.out p
            · by_cases e : p = (xa, xk)
              · subst e; simp only [if_pos]; exact hr2
              · simp only [if_neg e]
                exact HUQ.out p (by simpa [e] using hp)
          case measure => omega
    obtain ⟨s, hs⟩ : ∃ s, l[t]? = some s := ⟨_, List.getElem?_eq_getElem hlt⟩
    obtain rfl : ad = some ⟨B, O, none⟩ := by
      rcases h4 with h4 | h4
      · exact h4
      · subst h4; simp at hlt
    have hOs := HOK.out s (List.mem_of_getElem? hs)
    have HT : Hid (∀ p : Pl, rowOf (l.take (t + 1)) p.1 p.2 = rowOf (l.take t) p.1 p.2 ++ if (s.here p.1 p.2 && fullB s) = true then [s] else []) := fun p => by
      rw [List.take_add_one, hs]; exact rowOf_snoc _ _ _ _
    have HLen : Hid (∀ p : Pl, (rowOf (l.take t) p.1 p.2).length ≤ t) := fun p => by
      have h1 := List.length_filter_le (fun s => s.here p.1 p.2 && fullB s) (l.take t)
      rw [List.length_take] at h1
      show (List.filter _ _).length ≤ _
      omega
    obtain ⟨c0, c1, c2, c3, c4, c5⟩ := spAt_later (H5.out t s hs) hbel
    have hltI : (t : Int) < (l.length : Int) := by omega
    have hP : OkP (s.addr, s.block) := ⟨hOs.addr0, hOs.addr1, hOs.block0, hOs.block1⟩
    have HEn := fun W' => end_any s W'
    have HF : Hid (fullB s = decide (s.frm ≤ endS s)) := rfl
    clear hs hlt hOs
    obtain ⟨W, hW⟩ : ∃ W, W = wr.alloc (.cells #[.int .u32 s.sub, .int .u32 s.addr, .int .i64 s.block, .int .i64 s.frm, .int .i64 s.til, .bool s.opn] 32) := ⟨_, rfl⟩
    have hB1 : Below wr.heap.size wr W := by rw [hW]; exact below_alloc _ _
    have HWs : Hid (W.heap.size = wr.heap.size + 1) := by show _ = _; rw [hW]; simp
    have K0 : SpAt W wr.heap.size 0 s := by
      rw [hW]
      exact ⟨by simp, by simp, by simp, by simp, by simp, by simp⟩
    have HW : Hid (W = wr.alloc (.cells #[.int .u32 s.sub, .int .u32 s.addr, .int .i64 s.block, .int .i64 s.frm, .int .i64 s.til, .bool s.opn] 32)) := hW
    have HMW : Hid (KMap 46 plK W w.heap.size t f) := hmap.later hB1
    have HGW : Hid (Grp W (w.heap.size + 1) f (fun p => rowOf (l.take t) p.1 p.2)) := hgrp.later hB1
    have HBW : Hid (Below w.heap.size w W) := hbel.trans (hB1.mono hbel.size)
    have KC : Hid (∀ wx, Below W.drew.heap.size W.drew wx → SpAt wx wr.heap.size 0 s) := fun wx hx => spAt_later (w := W.drew) K0 hx
    obtain ⟨s0, s1, s2, s3, s4, s5⟩ := s
    simp only at c0 c1 c2 c3 c4 c5 hP
    clear hW hmap hgrp hbel hB1
    generalize hE : endS ⟨s0, s1, s2, s3, s4, s5⟩ = E at *
    clear hE
    go_wp2
    rw [← HW.out]
    have K1 := KC.out W.drew (Below.refl _ _)
    obtain ⟨k0, k1, k2, k3, k4, k5⟩ := K0
    simp only [Nat.zero_add] at k0 k1 k2 k3 k4 k5
    go_region_held3 (fun w' => w'.cell? ⟨wr.heap.size, 0, none⟩ = some (.int .u32 s0) ∧ w'.cell? ⟨wr.heap.size, 1, none⟩ = some (.int .u32 s1) ∧ w'.cell? ⟨wr.heap.size, 2, none⟩ = some (.int .i64 s2) ∧ w'.cell? ⟨wr.heap.size, 3, none⟩ = some (.int .i64 s3) ∧ w'.cell? ⟨wr.heap.size, 4, none⟩ = some (.int .i64 s4) ∧ w'.cell? ⟨wr.heap.size, 5, none⟩ = some (.bool s5))
      (first | (with_reducible exact K1) | (with_reducible exact K2))
      (first | (go_at_call 19; refine (HEn _).mono ?_; rintro e w1 ⟨rfl, hB2⟩; have K2 := KC.out _ hB2; have HB2 : Hid (Below W.drew.heap.size W.drew w1) := hB2; clear hB2))
    have HM1 : Hid (KMap 46 plK w1 w.heap.size t f) := KMap.later (w := W.drew) HMW.out HB2.out
    have HG1 : Hid (Grp w1 (w.heap.size + 1) f (fun p => rowOf (l.take t) p.1 p.2)) := HGW.out.later (below_trans (Below.refl W.heap.size W).drew HB2.out)
    have HBb1 : Hid (Below w.heap.size w w1) := HBW.out.trans ((below_trans (Below.refl W.heap.size W).drew HB2.out).mono HBW.out.size)
    by_cases hfull : s3 ≤ E
    case neg =>
      have hfull' : E < s3 := by omega
      have HFF : Hid (fullB ⟨s0, s1, s2, s3, s4, s5⟩ = false) := by show _ = _; rw [HF.out]; simp [hfull']
      clear k0 k1 k2 k3 k4 k5 K1 K2 KC hfull
      go_wp2
      go_roundg (l.length - (t + 1))
      case rel =>
        refine ⟨t + 1, f, by omega, by go_num, HM1.out.mono (by omega), HG1.out.ext (fun _ => rfl) (fun p => ?_), HBb1.out, HM1.out.lt⟩
        rw [HT.out p, HFF.out]
        simp
      case measure => omega
    have HFT : Hid (∀ p : Pl, (Sp.here ⟨s0, s1, s2, s3, s4, s5⟩ p.1 p.2 && fullB ⟨s0, s1, s2, s3, s4, s5⟩) = decide (p = (s1, s2))) := fun p => by
      have h1 : fullB ⟨s0, s1, s2, s3, s4, s5⟩ = true := by rw [HF.out]; simp [hfull]
      rw [h1, Bool.and_true]
      unfold Sp.here
      obtain ⟨p1, p2⟩ := p
      apply Bool.eq_iff_iff.2
      simp only [Bool.and_eq_true, decide_eq_true_eq, Prod.mk.injEq]
      exact ⟨fun h => ⟨h.1.symm, h.2.symm⟩, fun h => ⟨h.1.symm, h.2.symm⟩⟩
    obtain ⟨W3, hW3⟩ : ∃ W3, W3 = (w1.alloc (.cells #[.int .u32 s1, .int .i64 s2] 46)).alloc (.cells #[.int .u32 s0, .int .u32 s1, .int .i64 s2, .int .i64 s3, .int .i64 s4, .bool s5] 32) := ⟨_, rfl⟩
    have hB3 : Below w1.heap.size w1 W3 := by rw [hW3]; exact ((Below.refl _ w1).alloc (Nat.le_refl _) _).alloc (by simp) _
    have hsz3 : W3.heap.size = w1.heap.size + 2 := by rw [hW3]; simp
    have hs3 : SpAt W3 (w1.heap.size + 1) 0 ⟨s0, s1, s2, s3, s4, s5⟩ := by
      rw [hW3]
      exact ⟨by simp, by simp, by simp, by simp, by simp, by simp⟩
    have hm3 := HM1.out.later hB3
    have hg3 := HG1.out.later hB3
    obtain ⟨st, w4, hrun4, hgr4, hsz4, hst4⟩ := hm3.entry lawPlK placeK Try.underlying43 Try.zeroValue22 (by unfold maxLen; omega) (s1, s2) hP
    have hmb3 : w.heap.size < W3.heap.size := hm3.lt
    have hg4 : Grp w4 (w.heap.size + 1) f (fun p => rowOf (l.take t) p.1 p.2) := hg3.same fun k hk1 hk2 => hgr4.block k hk2 (fun e => by have := Option.some.inj e; omega)
    have hrow4 := hg4.get (s1, s2)
    have hs4 : SpAt w4 (w1.heap.size + 1) 0 ⟨s0, s1, s2, s3, s4, s5⟩ := by
      have hmb1 := HM1.out.lt
      obtain ⟨e0, e1, e2, e3, e4, e5⟩ := hs3
      have hne : some (w1.heap.size + 1) ≠ some w.heap.size := fun e => by have := Option.some.inj e; omega
      exact ⟨grown_cell hgr4 hne e0, grown_cell hgr4 hne e1, grown_cell hgr4 hne e2, grown_cell hgr4 hne e3, grown_cell hgr4 hne e4, grown_cell hgr4 hne e5⟩
    obtain ⟨v', w5, hrun5, hr5, hgr5, hb5, hat5⟩ := append_sp_at w4 (w.heap.size + 1) _ _ _ (w1.heap.size + 1) hrow4 hs4 (by omega) (by have := HLen.out (s1, s2); omega)
    have hg5 := hg4.grow (s1, s2) v' _ hr5 hgr5 hat5
    have hne5 : some w.heap.size ≠ ((f (s1, s2)).getD (.slice none 0 0)).ownBlock := fun e => by have := (ownsRow_lt hrow4 e.symm).1; omega
    have hmb4 : w.heap.size < w4.heap.size := by omega
    obtain ⟨w6, hrun6, hm6, hgr6, hsz6⟩ := hst4 w5 v' (hgr5.block _ hmb4 hne5)
    have HM6 : Hid (KMap 46 plK w6 w.heap.size (t + 1) (fun y => if y = (s1, s2) then some v' else f y)) := hm6
    have HG6 : Hid (Grp w6 (w.heap.size + 1) (fun y => if y = (s1, s2) then some v' else f y) (fun p => rowOf (l.take (t + 1)) p.1 p.2)) := by
      refine (hg5.same fun k hk1 hk2 => hgr6.block k hk2 (fun e => by have := Option.some.inj e; omega)).ext (fun _ => rfl) (fun p => ?_)
      rw [HT.out p, HFT.out p]
      by_cases e : p = (s1, s2)
      · subst e; simp
      · simp [e]
    have HB6 : Hid (Below w.heap.size w w6) := by
      have h1 := HBb1.out.trans (hB3.mono HBb1.out.size)
      have h2 := h1.grown hgr4 h1.size (fun k hk => by injection hk with hk; omega)
      have h3 := h2.trans (hb5.mono (by omega))
      exact h3.grown hgr6 h3.size (fun k hk => by injection hk with hk; omega)
    have HW3 : Hid (W3 = (w1.alloc (.cells #[.int .u32 s1, .int .i64 s2] 46)).alloc (.cells #[.int .u32 s0, .int .u32 s1, .int .i64 s2, .int .i64 s3, .int .i64 s4, .bool s5] 32)) := hW3
    clear hW3 hB3 hsz3 hs3 hm3 hg3 hgr4 hsz4 hst4 hmb3 hg4 hrow4 hs4 hr5 hgr5 hb5 hat5 hg5 hne5 hmb4 hm6 hgr6 hsz6 HLen HT
    generalize (f (s1, s2)).getD (.slice none 0 0) = rv0 at *
    clear k0 k1 k2 k3 k4 k5
    obtain ⟨k0, k1, k2, k3, k4, k5⟩ := K2
    simp only [Nat.zero_add] at k1 k2 k3 k4 k5
    have hba := below_alloc w1 (.cells #[.int .u32 s1, .int .i64 s2] 46)
    have m0 := cell_later hba k0
    have m1 := cell_later hba k1
    have m2 := cell_later hba k2
    have m3 := cell_later hba k3
    have m4 := cell_later hba k4
    have m5 := cell_later hba k5
    clear K1 KC hba
    go_wp2_with (first
      | (rw [← HW3.out]; refine wpl_entry_run rfl _ _ _ rfl _ _ rfl rfl hrun4 ?_)
      | (at_builtin; refine append_here _ _ _ rfl ?_; refine wpl_append_run rfl _ _ _ rfl _ _ rfl rfl hrun5 ?_)
      | (refine wpl_entryStore_run rfl _ _ _ _ rfl _ _ _ rfl rfl rfl hrun6 ?_))
    go_roundg (l.length - (t + 1))
    case rel => exact ⟨t + 1, _, by omega, by go_num, HM6.out, HG6.out, HB6.out, HM6.out.lt⟩
    case measure => omega

end Go.Proofs.Ytkkcpofaiocjpab
