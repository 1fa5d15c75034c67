/- trace.New: an index of spans. -/
import Derived.Test.YtkkcpofaiocjpabTraRuns
import Derived.Test.YtkkcpofaiocjpabTraMark
import Derived.Test.YtkkcpofaiocjpabTraSortF
import Derived.Test.YtkkcpofaiocjpabTraMap
set_option maxRecDepth 100000
namespace Go.Proofs.Ytkkcpofaiocjpab
open Go.RowKit Go.Shelf Go.Maps

theorem KRange.cnt_le {κ : Type} {kt : TypeId} {mk : κ → Value} {w : World} {b r n : Nat} {f : κ → Option Value} {left : κ → Bool} {cnt : Nat} (h : KRange kt mk w b r n f left cnt) : cnt ≤ n := by
  obtain ⟨D, L, ⟨es, clock, since, seen, c0, hb, F, hs, hD, hr, hb2, hc, _⟩, _, _⟩ := h
  rw [← hc]
  exact Nat.le_trans Array.size_filter_le hs

/-- A tree of the runs that a row of spans makes. -/
def TreeAt (w : World) (base : Nat) (tr : Value) (row : List Sp) : Prop :=
  ∃ g cap out F, tr = .slice (some ⟨g, 0, none⟩) (List.length out) cap ∧ base ≤ g ∧ g < w.heap.size ∧ out.length ≤ cap ∧ out.length ≤ 1000 ∧ RunsOf row out ∧ RuF w g out.length F ∧
    (∀ j r, out[j]? = some r → (F j).sub = r.sub ∧ (F j).frm = r.frm ∧ (F j).til = r.til) ∧ Tops F 0 out.length

theorem TreeAt.same {w w' : World} {base : Nat} {tr : Value} {row : List Sp} (h : TreeAt w base tr row) (hs : w.heap.size ≤ w'.heap.size) (hb : ∀ k, base ≤ k → k < w.heap.size → w'.heap[k]? = w.heap[k]?) : TreeAt w' base tr row := by
  obtain ⟨g, cap, out, F, h1, h2, h3, h4, h5, h6, h7, h8, h9⟩ := h
  exact ⟨g, cap, out, F, h1, h2, Nat.lt_of_lt_of_le h3 hs, h4, h5, h6, h7.same (hb g h2 h3), h8, h9⟩

theorem TreeAt.low {w : World} {base base' : Nat} {tr : Value} {row : List Sp} (h : TreeAt w base tr row) (hb : base' ≤ base) : TreeAt w base' tr row := by
  obtain ⟨g, cap, out, F, h1, h2, h3⟩ := h
  exact ⟨g, cap, out, F, h1, Nat.le_trans hb h2, h3⟩

/-- An index: a map of trees. -/
structure IndexOf (w : World) (base mb n : Nat) (l : List Sp) (f : Pl → Option Value) : Prop where
  map : KMap 46 plK w mb n f
  low : base ≤ mb
  tree : ∀ p tr, f p = some tr → ∃ row, row.Perm (rowOf l p.1 p.2) ∧ TreeAt w base tr row
  off : ∀ p, OkP p → f p = none → rowOf l p.1 p.2 = []

theorem IndexOf.same {w w' : World} {base mb n : Nat} {l : List Sp} {f : Pl → Option Value} (h : IndexOf w base mb n l f) (hs : w.heap.size ≤ w'.heap.size) (hb : ∀ k, base ≤ k → k < w.heap.size → w'.heap[k]? = w.heap[k]?) : IndexOf w' base mb n l f :=
  ⟨h.map.same (hb mb h.low h.map.lt), h.low, fun p tr hp => (by obtain ⟨row, h1, h2⟩ := h.tree p tr hp; exact ⟨row, h1, h2.same hs hb⟩), h.off⟩

set_option maxHeartbeats 8000000 in
theorem new_ok (v : Value) (B O : Nat) (l : List Sp) (w : World) (h : Sps w v B O l) (hok : OkAll l) (hl : l.length ≤ 1000) :
    Calls Try.prog 6 #[v] w fun e w' => ∃ x mb f, e = .returned (.pointer (some ⟨x, 0, none⟩)) ∧ w.heap.size ≤ x ∧ w'.cell? ⟨x, 0, none⟩ = some (.map (some mb)) ∧ IndexOf w' w.heap.size mb l.length l f ∧ Below w.heap.size w w' := by
  obtain ⟨W1, hW1⟩ : ∃ W1, W1 = (w.alloc (.map #[] 0)).alloc (.cells #[.map (some w.heap.size)] 42) := ⟨_, rfl⟩
  have hB1 : Below w.heap.size w W1 := by rw [hW1]; exact ((Below.refl _ w).alloc (Nat.le_refl _) _).alloc (by simp) _
  have hS1 : W1.heap.size = w.heap.size + 2 := by rw [hW1]; simp
  have hM1 : KMap 46 plK W1 w.heap.size 0 (fun _ => none) := by rw [hW1]; exact (KMap.made w).alloc _
  have hX1 : W1.cell? ⟨w.heap.size + 1, 0, none⟩ = some (.map (some w.heap.size)) := by rw [hW1]; simp
  have HC := rows_ok sort_sp v B O l W1 (h.later hB1) hok hl
  have HOK : Hid (OkAll l) := hok
  have HW1 : Hid (W1 = (w.alloc (.map #[] 0)).alloc (.cells #[.map (some w.heap.size)] 42)) := hW1
  have HB1 : Hid (Below w.heap.size w W1) := hB1
  have HS1 : Hid (W1.heap.size = w.heap.size + 2) := hS1
  have HM1 : Hid (KMap 46 plK W1 w.heap.size 0 (fun _ => none)) := hM1
  have HX1 : Hid (W1.cell? ⟨w.heap.size + 1, 0, none⟩ = some (.map (some w.heap.size))) := hX1
  have hmm := @run_makeMap Try.prog
  obtain ⟨ad, cap, rfl, -⟩ := h
  clear hok hW1 hB1 hS1 hM1 hX1
  go_enter Try.func6, Try.ntmps6
  go_wp2_with fail
  rw [← HW1.out]
  refine HC.mono ?_
  rintro e w1 ⟨f, G, rfl, hR, hb1⟩
  have HR : Hid (RowsOf w1 (W1.heap.size + 1) W1.heap.size l f G) := hR
  have HM : Hid (KMap 46 plK w1 W1.heap.size l.length f) := hR.map
  have hmb := hR.map.lt
  have HMX : Hid (KMap 46 plK w1 w.heap.size 0 (fun _ => none)) := HM1.out.later hb1
  have HX : Hid (w1.cell? ⟨w.heap.size + 1, 0, none⟩ = some (.map (some w.heap.size))) := cell_later hb1 HX1.out
  have HBw : Hid (Below w.heap.size w w1) := HB1.out.trans (hb1.mono (by have := HS1.out; omega))
  have hS1 : w.heap.size + 1 < W1.heap.size := by have := HS1.out; omega
  clear hR hb1 HC HW1 HB1 HM1 HX1 HS1
  generalize W1.heap.size = S1 at *
  go_wp2_with (at_range; refine wpl_range _ rfl _ 43 rfl placeK 22 Try.underlying43 rfl HM.out ?_; intro w2 c0 hrg0 hg0 hs0)
  have HG0 : Hid (w1.grownBy w2 none) := hg0
  obtain ⟨R, hR⟩ : ∃ R, R = w1.heap.size := ⟨_, rfl⟩
  rw [← hR] at hrg0 ⊢
  have HRR : Hid (R = w1.heap.size) := hR
  have hRS : S1 < R := by omega
  have hc0 : c0 ≤ l.length := hrg0.cnt_le
  have HRG0 : Hid (KRange 46 plK w2 S1 R l.length f (fun x => (f x).isSome) c0) := hrg0
  clear hg0 hs0 hR hrg0
  go_frame
  go_loopg [5] c0 (fun gk u wr => ∃ (left : Pl → Bool) (f2 : Pl → Option Value) (n2 : Nat), KRange 46 plK wr S1 R l.length f left gk ∧ KMap 46 plK wr w.heap.size n2 f2 ∧ n2 + gk ≤ c0 ∧
    (∀ p tr, f2 p = some tr → TreeAt wr (R + 1) tr (G p)) ∧ (∀ p, left p = false → f2 p = none → f p = none) ∧ w1.grownBy wr (some w.heap.size) ∧ R < wr.heap.size)
  case atStart =>
    refine ⟨_, fun _ => none, 0, HRG0.out, HMX.out.kept HG0.out (by simp), by omega, fun p tr h => (by cases h), fun p hp _ => ?_, ⟨HG0.out.os, HG0.out.tape, HG0.out.output, HG0.out.size, fun k hk _ => HG0.out.block k hk (by simp)⟩, HRG0.out.lt⟩
    cases hf : f p with
    | none => rfl
    | some u => rw [hf] at hp; cases hp
  case round =>
    obtain ⟨left, f2, n2, hrg, hm2, hn2, htr, hof, hgr, hRlt⟩ := hrel
    have HRG : Hid (KRange 46 plK wr S1 R l.length f left _) := hrg
    have HM2 : Hid (KMap 46 plK wr w.heap.size n2 f2) := hm2
    have HTR : Hid (∀ p tr, f2 p = some tr → TreeAt wr (R + 1) tr (G p)) := htr
    have HOF : Hid (∀ p, left p = false → f2 p = none → f p = none) := hof
    have HGR : Hid (w1.grownBy wr (some w.heap.size)) := hgr
    clear hrg hm2 htr hof hgr HRG0 HG0 HMX
    go_wp2_with (at_next; refine wpl_next _ rfl _ rfl placeK rfl HRG.out ?_ ?_)
    · intro _ hl0
      have HL0 : Hid (∀ x : Pl, OkP x → left x = false) := fun x hx => hl0 x.1 x.2 hx
      clear hl0
      go_wp2
      go_ret
      have hx : wr.cell? ⟨w.heap.size + 1, 0, none⟩ = some (.map (some w.heap.size)) := grown_cell HGR.out (by simp) HX.out
      refine ⟨_, _, f2, rfl, by omega, hx, ⟨HM2.out.mono (by omega), Nat.le_refl _, fun p tr hp => ⟨G p, HR.out.perm p, (HTR.out p tr hp).low (by omega)⟩, fun p hp h0 => ?_⟩, ?_⟩
      · have := HOF.out p (HL0.out p hp) h0
        have h1 := HR.out.perm p
        rw [HR.out.grp.off p this] at h1
        exact h1.symm.eq_nil
      · exact HBw.out.grown HGR.out HBw.out.size (fun k hk => by injection hk with hk; omega)
    · intro xa xk rv w3 cnt' hx hlx hfx hrg3 hlt3 hg3 hs3 hen
      obtain ⟨hrow, hne⟩ := HR.out.grp.row (xa, xk) rv hfx
      obtain ⟨Bq, hsps, hblk⟩ := spRow_sps hrow
      have hsz3 := hs3
      have hlen : (G (xa, xk)).length ≤ 1000 := by
        rw [(HR.out.perm (xa, xk)).length_eq]
        have h1 := List.length_filter_le (fun s => s.here xa xk && fullB s) l
        exact Nat.le_trans h1 hl
      have hmem : ∀ s ∈ G (xa, xk), s.Ok ∧ s.frm ≤ endS s := fun s hs => by
        have := mem_rowOf.1 ((HR.out.perm (xa, xk)).mem_iff.1 hs)
        exact ⟨HOK.out s this.1, by simpa [fullB] using this.2.2⟩
      obtain ⟨gq, cq, hrv, hg1, -, -⟩ := ownsRow_slice hrow (List.length_pos_iff.2 hne)
      have HFL : Hid (∀ s ∈ G (xa, xk), s.frm ≤ endS s) := fun s hs => (hmem s hs).2
      have hgq : Bq = gq := by rw [hrv] at hblk; exact (hblk gq rfl).symm
      have hgR : gq < R := by have := (ownsRow_lt hrow (by rw [hrv]; rfl : rv.ownBlock = some gq)).2; have := HRR.out; omega
      have hs3 : Sps w3 rv Bq 0 (G (xa, xk)) := by
        obtain ⟨a1, a2, a3, a4, a5, a6, a7⟩ := hsps
        refine ⟨a1, a2, a3, a4, a5, a6, fun i s hs => ?_⟩
        have e1 : wr.heap[Bq]? = w1.heap[Bq]? := HGR.out.block Bq (by have := HRR.out; omega) (fun e => by have := Option.some.inj e; omega)
        have e2 : w3.heap[Bq]? = wr.heap[Bq]? := hg3.block Bq (by omega) (fun e => by have := Option.some.inj e; omega)
        obtain ⟨q0, q1, q2, q3, q4, q5⟩ := a7 i s hs
        have e3 := e2.trans e1
        exact ⟨(cell_same_block e3).trans q0, (cell_same_block e3).trans q1, (cell_same_block e3).trans q2, (cell_same_block e3).trans q3, (cell_same_block e3).trans q4, (cell_same_block e3).trans q5⟩
      obtain ⟨W, hW⟩ : ∃ W, W = w3.alloc (.cells #[.int .u32 xa, .int .i64 xk] 46) := ⟨_, rfl⟩
      have hbW : Below w3.heap.size w3 W := by rw [hW]; exact below_alloc _ _
      have hWs : W.heap.size = wr.heap.size + 1 := by rw [hW]; simp; omega
      have hq0 : W.cell? ⟨wr.heap.size, 0, none⟩ = some (.int .u32 xa) := by rw [hW, ← hsz3]; simp
      have hq1 : W.cell? ⟨wr.heap.size, 1, none⟩ = some (.int .i64 xk) := by rw [hW, ← hsz3]; simp
      have HRn := runs_ok rv Bq 0 (G (xa, xk)) W (hs3.later hbW) (fun s hs => (hmem s hs).1) hlen (HR.out.up (xa, xk)) (fun s hs => (hmem s hs).2)
      have HNE : Hid (G (xa, xk) ≠ []) := hne
      have HW : Hid (W = w3.alloc (.cells #[.int .u32 xa, .int .i64 xk] 46)) := hW
      have HB3 : Hid (wr.grownBy W (some R)) := by rw [hW]; exact hg3.andThen (World.grownBy_alloc w3 _ none) (fun j e => by cases e)
      have HRG3 : Hid (KRange 46 plK W S1 R l.length f (fun y => left y && !decide (y = (xa, xk))) cnt') := hrg3.later hbW
      have HQ : Hid (W.cell? ⟨wr.heap.size, 0, none⟩ = some (.int .u32 xa) ∧ W.cell? ⟨wr.heap.size, 1, none⟩ = some (.int .i64 xk)) := ⟨hq0, hq1⟩
      clear hsps hblk hrow hne hmem hs3 hW hbW hrg3 hg3 hq0 hq1 hrv hgq hg1
      go_wp2_with fail
      rw [← HW.out]
      refine HRn.mono ?_
      rintro e w4 ⟨tr, out, rfl, hr4, hro, hol, hb4⟩
      have hon : 0 < out.length := by
        obtain ⟨s, hs⟩ := List.exists_mem_of_ne_nil _ HNE.out
        obtain ⟨r, hr, -⟩ := (hro.cov s.sub s.frm).1 ⟨s, hs, rfl, Int.le_refl _, HFL.out s hs⟩
        exact List.length_pos_of_mem hr
      obtain ⟨g, cp, rfl, hg1, hg2, hg3⟩ := ownsRow_slice hr4 hon
      have hgl : g < w4.heap.size := (ownsRow_lt hr4 rfl).2
      have hF : RuF w4 g out.length (fun j => out.getD j default) := by
        refine ⟨fun j hj => ?_, fun k => ownsRow_frozen hr4 k⟩
        have := ruRow_at hr4 rfl (List.getElem?_eq_getElem hj)
        simp only [List.getD_eq_getElem?_getD, List.getElem?_eq_getElem hj, Option.getD_some]
        exact this
      have HMk := mark_ok g out.length (by omega) out.length 0 0 cp w4 _ rfl hF (by omega) hg2
      have HRO : Hid (RunsOf (G (xa, xk)) out) := hro
      have HB4 : Hid (Below W.heap.size W w4) := hb4
      clear hr4 hro hb4 hF HRn
      go_wp2_with fail
      refine HMk.mono ?_
      rintro e w5 ⟨xx, F5, rfl, hp5⟩
      have hsz4 := HB4.out.size
      have hg5 : w4.grownBy w5 (some g) := hp5.2.2.2.2.2
      have h45 := hg5.size
      have T5 : TreeAt w5 (R + 1) (.slice (some ⟨g, 0, none⟩) out.length cp) (G (xa, xk)) := by
        refine ⟨g, cp, out, F5, rfl, by omega, Nat.lt_of_lt_of_le hgl hg5.size, hg2, by omega, HRO.out, hp5.row, fun j r hr => ?_, hp5.2.2.2.1⟩
        have := hp5.2.1 j
        simp only [List.getD_eq_getElem?_getD, hr, Option.getD_some] at this
        exact this
      have hsame : ∀ k, k < wr.heap.size → k ≠ R → w5.heap[k]? = wr.heap[k]? := fun k hk hkR => by
        rw [hg5.block k (by omega) (fun e => by have := Option.some.inj e; omega), HB4.out.block k (by omega), HB3.out.block k hk (fun e => hkR (Option.some.inj e))]
      have hM5 : KMap 46 plK w5 w.heap.size n2 f2 := HM2.out.same (hsame _ HM2.out.lt (by omega))
      have hR5 : KRange 46 plK w5 S1 R l.length f (fun y => left y && !decide (y = (xa, xk))) cnt' := (HRG3.out.later HB4.out).kept hg5 (fun e => by have := Option.some.inj e; omega) (fun e => by have := Option.some.inj e; omega)
      have hG5 : w1.grownBy w5 (some w.heap.size) := ((HGR.out.andThen HB3.out (fun j e => .inl (by cases e; exact Nat.le_of_eq HRR.out.symm))).andThen (row' := none) ⟨HB4.out.os, HB4.out.tape, HB4.out.output, HB4.out.size, fun k hk _ => HB4.out.block k hk⟩ (fun j e => by cases e)).andThen hg5 (fun j e => .inl (by cases e; have := HRR.out; omega))
      have hxc : w5.cell? ⟨w.heap.size + 1, 0, none⟩ = some (.map (some w.heap.size)) := grown_cell hG5 (by simp) HX.out
      have hk0 : w5.cell? ⟨wr.heap.size, 0, none⟩ = some (.int .u32 xa) := grown_cell hg5 (fun e => absurd (Option.some.inj e) (by show wr.heap.size ≠ g; omega)) (cell_later HB4.out HQ.out.1)
      have hk1 : w5.cell? ⟨wr.heap.size, 1, none⟩ = some (.int .i64 xk) := grown_cell hg5 (fun e => absurd (Option.some.inj e) (by show wr.heap.size ≠ g; omega)) (cell_later HB4.out HQ.out.2)
      have hTall : ∀ p tr, f2 p = some tr → TreeAt w5 (R + 1) tr (G p) := fun p tr hp => (HTR.out p tr hp).same (by omega) (fun k h1 h2 => hsame k h2 (by omega))
      have hM5d : KMap 46 plK w5.drew w.heap.size n2 f2 := hM5.same rfl
      obtain ⟨w6, hst, hM6, hT6⟩ := hM5d.store placeK Try.underlying40 (by unfold maxLen; omega) (xa, xk) hx (.slice (some ⟨g, 0, none⟩) out.length cp)
      have hg6 : w5.grownBy w6 (some w.heap.size) := ⟨hT6.grown.os, hT6.grown.tape, hT6.grown.output, hT6.grown.size, fun k hk hne => hT6.grown.block k hk hne⟩
      have h56 := hg5.size
      have HRel : Hid (KRange 46 plK w6 S1 R l.length f (fun y => left y && !decide (y = (xa, xk))) cnt' ∧ KMap 46 plK w6 w.heap.size (n2 + 1) (fun y => if y = (xa, xk) then some (.slice (some ⟨g, 0, none⟩) out.length cp) else f2 y) ∧
          (∀ p tr, (if p = (xa, xk) then some (.slice (some ⟨g, 0, none⟩) out.length cp) else f2 p) = some tr → TreeAt w6 (R + 1) tr (G p)) ∧ w1.grownBy w6 (some w.heap.size) ∧ R < w6.heap.size) := by
        refine ⟨hR5.kept hg6 (fun e => by have := Option.some.inj e; omega) (fun e => by have := Option.some.inj e; omega), hM6, fun p tr hp => ?_, hG5.andThen hg6 (fun j e => .inr e), by have := hg6.size; omega⟩
        have hto : ∀ tr row, TreeAt w5 (R + 1) tr row → TreeAt w6 (R + 1) tr row := fun tr row h => h.same hg6.size (fun k h1 h2 => hg6.block k h2 (fun e => by have := Option.some.inj e; omega))
        by_cases e : p = (xa, xk)
        · rw [if_pos e] at hp
          cases hp
          rw [e]
          exact hto _ _ T5
        · rw [if_neg e] at hp
          exact hto _ _ (hTall p tr hp)
      have HOF2 : Hid (∀ p, (left p && !decide (p = (xa, xk))) = false → (if p = (xa, xk) then some (Value.slice (some ⟨g, 0, none⟩) out.length cp) else f2 p) = none → f p = none) := fun p h1 h2 => by
        by_cases e : p = (xa, xk)
        · rw [if_pos e] at h2; cases h2
        · rw [if_neg e] at h2
          exact HOF.out p (by simpa [e] using h1) h2
      clear h45 hsz4 hg5 T5 hsame hM5 hR5 hG5 hTall hM5d hM6 hT6 hg6 h56 hp5 HMk HRG3 HB4 HQ HTR HGR HM2 HOF HRO HRG
      go_wp2_with fail
      go_region
      all_goals go_wp2
      go_roundg cnt'
      case rel => exact ⟨_, _, n2 + 1, HRel.out.1, HRel.out.2.1, by omega, HRel.out.2.2.1, HOF2.out, HRel.out.2.2.2.1, HRel.out.2.2.2.2⟩
      case measure => omega

end Go.Proofs.Ytkkcpofaiocjpab
