/- The document's disk: its cells; take, Add. -/
import Derived.Test.YtafkkehcacdodaaGreatSecNum
import Derived.Deep.RegionLaw
import Derived.Deep.DrawnRows
set_option maxRecDepth 100000
namespace Go.Proofs.YtafkkehcacdodaaGreat
open Go.RowKit
attribute [local go_sem ↓] Go.wp_at_zero Go.wp_at_succ

section
variable {w : World} {tag : Nat → Nat} {base o : Nat} {s : St} {p : ML}
theorem MD.m0 (h : MD w tag base o s p) : w.cell? ⟨p.M, 0, none⟩ = some (.int .i64 s.n) := h.bM.cell 0
theorem MD.m1 (h : MD w tag base o s p) : w.cell? ⟨p.M, 1, none⟩ = some (.slice (some ⟨p.S, 0, none⟩) (s.n * 64) p.cS) := h.bM.cell 1
theorem MD.m2 (h : MD w tag base o s p) : w.cell? ⟨p.M, 2, none⟩ = some (.slice (some ⟨p.N, 0, none⟩) (s.n * 64) p.cN) := h.bM.cell 2
theorem MD.m3 (h : MD w tag base o s p) : w.cell? ⟨p.M, 3, none⟩ = some p.sv := h.bM.cell 3
theorem MD.m4 (h : MD w tag base o s p) : w.cell? ⟨p.M, 4, none⟩ = some p.ov := h.bM.cell 4
theorem MD.m5 (h : MD w tag base o s p) : w.cell? ⟨p.M, 5, none⟩ = some (.int .i64 s.ops) := h.bM.cell 5
theorem MD.fM (h : MD w tag base o s p) (j : Nat) : w.frozen? ⟨p.M, j, none⟩ = false := h.bM.frozen j
theorem MD.sform (h : MD w tag base o s p) : ∃ a c, p.sv = .slice a s.since.length c ∧ s.since.length ≤ c ∧ c ≤ maxLen := by
  rcases h.wS.2 with ⟨h1, h2⟩ | ⟨g, oo, cap, cs, h1, _, h2, h3, _⟩
  · exact ⟨none, 0, by rw [h1, h2], by omega, by decide⟩
  · exact ⟨_, _, h1, h2, h3⟩
theorem MD.oform (h : MD w tag base o s p) : ∃ a c, p.ov = .slice a s.outs.length c ∧ s.outs.length ≤ c ∧ c ≤ maxLen := by
  rcases h.wO.2 with ⟨h1, h2⟩ | ⟨g, oo, cap, cs, h1, _, h2, h3, _⟩
  · exact ⟨none, 0, by rw [h1, h2], by omega, by decide⟩
  · exact ⟨_, _, h1, h2, h3⟩
end

/-- Behind stores into the disk's own block: all but its outcomes and its count is as it was. -/
theorem MD.queue {w w' : World} {tag : Nat → Nat} {base o : Nat} {s : St} {p : ML} (h : MD w tag base o s p) (v : Value) (l : List Int) (n : Nat)
    (hq : Blk w' p.M [.int .i64 s.n, .slice (some ⟨p.S, 0, none⟩) (s.n * 64) p.cS, .slice (some ⟨p.N, 0, none⟩) (s.n * 64) p.cN, p.sv, v, .int .i64 n])
    (hw : Win w 1 v l.length (bytesV l)) (hv : ∀ g, v.ownBlock = some g → tag g = 16 * o + 5 ∧ base ≤ g) (hk : ∀ k, k ≠ p.M → w'.heap[k]? = w.heap[k]?) (hl : isBytes l) :
    MD w' tag base o { s with outs := l, ops := n } { p with ov := v } := by
  have hne : ∀ {g : Nat} {T : Nat}, tag g = T → T ≠ 16 * o + 1 → w'.heap[g]? = w.heap[g]? := fun {g T} hT hn => hk g (fun e => hn (by rw [← hT, e]; exact h.tM.1))
  exact ⟨hq, h.rS.same (hne h.tS.1 (by omega)), h.rN.same (hne h.tN.1 (by omega)), h.wS.same (fun g hg => hne (h.tV g hg).1 (by omega)), hw.same (fun g hg => hne (hv g hg).1 (by omega)), h.lb,
    fun k hk' => (h.bB k hk').same (hne (h.tB k hk').1 (by omega)), h.tM, h.tS, h.tN, h.tV, hv, h.tB, ⟨h.ok.n1, h.ok.n2, h.ok.sl, h.ok.nl, h.ok.sb, h.ok.nb, hl, h.ok.wr, h.ok.eq⟩⟩

theorem blk_m {w : World} {M : Nat} {a b c d e f x y : Value} (h : Blk w M [a, b, c, d, e, f]) : Blk ((w.setCell ⟨M, 5, none⟩ y).setCell ⟨M, 4, none⟩ x) M [a, b, c, d, x, y] := by
  have := (h.set 5 y).set 4 x
  simpa using this

theorem blk_m1 {w : World} {M : Nat} {a b c d e f y : Value} (h : Blk w M [a, b, c, d, e, f]) : Blk (w.setCell ⟨M, 5, none⟩ y) M [a, b, c, d, e, y] := by
  have := h.set 5 y
  simpa using this

theorem out_cases (c : Int) : (c % 3 = 0 ∧ Hid (doneB c = true) ∧ Hid (errC c = 0)) ∨ (c % 3 = 1 ∧ Hid (doneB c = false) ∧ Hid (errC c = 8)) ∨ (c % 3 = 2 ∧ Hid (doneB c = true) ∧ Hid (errC c = 8)) := by
  have : c % 3 = 0 ∨ c % 3 = 1 ∨ c % 3 = 2 := by omega
  rcases this with h | h | h
  · exact .inl ⟨h, by show doneB c = true; simp [doneB, h], by show errC c = 0; simp [errC, h]⟩
  · exact .inr (.inl ⟨h, by show doneB c = false; simp [doneB, h], by show errC c = 8; simp [errC, h]⟩)
  · exact .inr (.inr ⟨h, by show doneB c = true; simp [doneB, h], by show errC c = 8; simp [errC, h]⟩)

set_option maxHeartbeats 1000000 in
theorem rtake_ok (w : World) (tag : Nat → Nat) (base o : Nat) (s : St) (p : ML) (h : MD w tag base o s p) (hops : s.ops ≤ 1000000) (hout : s.outs.length ≤ 1000000) :
    Calls Tryz.prog 106 #[.pointer (some ⟨p.M, 0, none⟩)] w fun e w' => e = .returned (.tuple #[.bool (doneB s.out), .int .i64 (errC s.out)]) ∧ ∃ p', p'.M = p.M ∧ MD w' tag base o s.take p' ∧ Step tag tag base o w w' := by
  have h4 := h.m4
  have h5 := h.m5
  have f4 := h.fM 4
  have f5 := h.fM 5
  obtain ⟨b0, b1⟩ := St.out_byte h.ok.ob
  have HP : Hid (MD w tag base o s p) := h
  cases hs : s.outs with
  | nil =>
    obtain ⟨a, c, e, _, _⟩ := h.oform
    rw [e, hs] at h4
    have EO : Hid (s.outs = []) := hs
    clear h e hs b0 b1
    simp only [List.length_nil] at h4
    go_enter Tryz.func106, Tryz.ntmps106
    go_wp2
    go_ret2
    refine ⟨by simp [St.out, EO.out, doneB, errC], p, rfl, ?_, ?_⟩
    · have := HP.out.queue (w' := w.setCell ⟨p.M, 5, none⟩ (.int .i64 (s.ops + 1 : Nat))) p.ov [] (s.ops + 1) (blk_m1 HP.out.bM) (by have := HP.out.wO; rw [EO.out] at this; exact this) HP.out.tO (fun k hk => heap_setCell_other _ _ k _ hk) isBytes_nil
      simpa [St.take, EO.out] using this
    · exact step_set tag base o w HP.out.tM.2 (by have := HP.out.tM.1; omega) 5 _
  | cons c l =>
    rcases h.wO.2 with ⟨_, hz⟩ | ⟨g, oo, cap, cs, hv, hb, hn, hcm, hcap, hx⟩
    · rw [hs] at hz; simp at hz
    have EO : Hid (s.outs = c :: l) := hs
    have hlen : s.outs.length = l.length + 1 := by rw [hs]; rfl
    have hout' : s.out = c := by unfold St.out; rw [hs]; rfl
    rw [hout'] at b0 b1 ⊢
    rw [hlen] at hn hx hout
    rw [hv, hlen] at h4
    have hc0 : w.cell? ⟨g, oo, none⟩ = some (.int .u8 c) := by
      have := hb.range oo ((l.length + 1) * 1) 0 (.int .u8 c) (by rw [hx, hs]; rfl)
      simpa using this
    have hgQ : ¬ p.M = g := fun e => by have a := h.tM.1; have b := (h.tO g (by rw [hv]; rfl)).1; rw [e] at a; omega
    have hlt : g < w.heap.size := hb.lt
    have HX : Hid ((cs.drop oo).take ((l.length + 1) * 1) = bytesV s.outs) := hx
    have HV : Hid (p.ov = .slice (some ⟨g, oo, none⟩) s.outs.length cap) := hv
    have HB : Hid (Blk w g cs) := hb
    clear hx hv hb h hs hlen hout'
    unfold maxLen at hcm
    have HF : Hid (∃ u, (if cap = 1 then u = Value.slice (some ⟨g, oo, none⟩) l.length (cap - 1) else u = .slice (some ⟨g, oo + 1, none⟩) l.length (cap - 1)) ∧ ∃ p', p'.M = p.M ∧ MD ((w.setCell ⟨p.M, 5, none⟩ (.int .i64 (s.ops + 1 : Nat))).setCell ⟨p.M, 4, none⟩ u) tag base o s.take p' ∧ Step tag tag base o w ((w.setCell ⟨p.M, 5, none⟩ (.int .i64 (s.ops + 1 : Nat))).setCell ⟨p.M, 4, none⟩ u)) := by
      have hob := HP.out.ok.ob
      rw [EO.out] at hob
      by_cases hc1 : cap = 1
      · have hl0 : l = [] := List.eq_nil_of_length_eq_zero (by omega)
        refine ⟨.slice (some ⟨g, oo, none⟩) l.length (cap - 1), by rw [if_pos hc1], { p with ov := .slice (some ⟨g, oo, none⟩) l.length (cap - 1) }, rfl, ?_, ?_⟩
        · have := HP.out.queue (w' := (w.setCell ⟨p.M, 5, none⟩ (.int .i64 (s.ops + 1 : Nat))).setCell ⟨p.M, 4, none⟩ (.slice (some ⟨g, oo, none⟩) l.length (cap - 1))) (.slice (some ⟨g, oo, none⟩) l.length (cap - 1)) l (s.ops + 1) (blk_m HP.out.bM)
            ⟨by simp, .inr ⟨g, oo, cap - 1, cs, rfl, HB.out, by omega, by unfold maxLen; omega, by omega, by rw [hl0]; simp⟩⟩ (fun k hk => HP.out.tO k (by rw [HV.out]; exact hk)) (fun k hk => by rw [heap_setCell_other _ _ k _ hk, heap_setCell_other _ _ k _ hk]) (fun z hz => hob z (by simp [hz]))
          simpa [St.take, EO.out] using this
        · exact (step_set tag base o w HP.out.tM.2 (by have := HP.out.tM.1; omega) 5 _).set HP.out.tM.2 (by have := HP.out.tM.1; omega) 4 _
      · refine ⟨.slice (some ⟨g, oo + 1, none⟩) l.length (cap - 1), by rw [if_neg hc1], { p with ov := .slice (some ⟨g, oo + 1, none⟩) l.length (cap - 1) }, rfl, ?_, ?_⟩
        · have := HP.out.queue (w' := (w.setCell ⟨p.M, 5, none⟩ (.int .i64 (s.ops + 1 : Nat))).setCell ⟨p.M, 4, none⟩ (.slice (some ⟨g, oo + 1, none⟩) l.length (cap - 1))) (.slice (some ⟨g, oo + 1, none⟩) l.length (cap - 1)) l (s.ops + 1) (blk_m HP.out.bM)
            ⟨by simp, .inr ⟨g, oo + 1, cap - 1, cs, rfl, HB.out, by omega, by unfold maxLen; omega, by omega, by
              have := HX.out
              rw [EO.out] at this
              have e : ((cs.drop oo).take (l.length + 1)).drop 1 = bytesV l := by simpa using congrArg (List.drop 1) this
              rw [List.drop_take, List.drop_drop] at e
              simpa using e⟩⟩ (fun k hk => HP.out.tO k (by rw [HV.out]; exact hk)) (fun k hk => by rw [heap_setCell_other _ _ k _ hk, heap_setCell_other _ _ k _ hk]) (fun z hz => hob z (by simp [hz]))
          simpa [St.take, EO.out] using this
        · exact (step_set tag base o w HP.out.tM.2 (by have := HP.out.tM.1; omega) 5 _).set HP.out.tM.2 (by have := HP.out.tM.1; omega) 4 _
    by_cases hc1 : cap = 1
    · have hl0 : l.length = 0 := by omega
      subst hc1
      rw [hl0] at h4
      simp only [Nat.zero_add] at h4
      obtain ⟨u, hu, p', e1, e2, e3⟩ := HF.out
      rw [if_pos rfl, hl0] at hu
      subst hu
      have E1 : Hid (p'.M = p.M) := e1
      have E2 : Hid _ := e2
      have E3 : Hid _ := e3
      clear HF e1 e2 e3
      rcases out_cases c with ⟨k1, D1, D2⟩ | ⟨k1, D1, D2⟩ | ⟨k1, D1, D2⟩
      all_goals
        go_enter Tryz.func106, Tryz.ntmps106
        go_wp2
        go_ret2
        exact ⟨by rw [D1.out, D2.out]; rfl, p', E1.out, E2.out, E3.out⟩
    · obtain ⟨u, hu, p', e1, e2, e3⟩ := HF.out
      rw [if_neg hc1] at hu
      subst hu
      have E1 : Hid (p'.M = p.M) := e1
      have E2 : Hid _ := e2
      have E3 : Hid _ := e3
      clear HF e1 e2 e3
      rcases out_cases c with ⟨k1, D1, D2⟩ | ⟨k1, D1, D2⟩ | ⟨k1, D1, D2⟩
      all_goals
        go_enter Tryz.func106, Tryz.ntmps106
        go_wp2
        go_ret2
        exact ⟨by rw [D1.out, D2.out]; rfl, p', E1.out, E2.out, E3.out⟩

/-- Behind an append onto the outcomes. -/
theorem MD.added {w wx w3 : World} {tag : Nat → Nat} {base o : Nat} {s : St} {p : ML} (h : MD w tag base o s p) (hbase : base ≤ w.heap.size) (hx : Below w.heap.size w wx) (v' : Value) (l : List Int) (hlb : isBytes l)
    (hgrow : wx.grownBy w3 p.ov.ownBlock) (hat : v'.ownBlock = p.ov.ownBlock ∨ v'.ownBlock = some wx.heap.size) (hwin : Win w3 1 v' (s.outs.length + l.length) (bytesV s.outs ++ bytesV l)) :
    ∃ p' tag', p'.M = p.M ∧ MD (w3.setCell ⟨p.M, 4, none⟩ v') tag' base o (s.add l) p' ∧ Step tag tag' base o w (w3.setCell ⟨p.M, 4, none⟩ v') := by
  have s2 : Step tag tag base o w wx := step_below tag base o hbase hx
  obtain ⟨s3, htv⟩ := step_grown (tag := tag) (base := base) hgrow hat h.tO (show (16 * o + 5) / 16 = o by omega) (by have := hx.size; omega)
  have s4 : Step tag (retag tag v' (16 * o + 5)) base o w w3 := s2.trans s3
  have hT : ∀ {g : Nat}, g < w.heap.size → retag tag v' (16 * o + 5) g = tag g := fun {g} hg => s4.tags g hg
  have hsz2 := hx.size
  refine ⟨{ p with ov := v' }, retag tag v' (16 * o + 5), rfl, ?_, s4.set h.tM.2 (by rw [hT h.bM.lt]; have := h.tM.1; omega) 4 _⟩
  have e2 : ∀ g, g < w.heap.size → tag g ≠ 16 * o + 5 → w3.heap[g]? = w.heap[g]? := fun g hg hne => (hgrow.block g (by omega) (fun e => hne (h.tO g e.symm).1)).trans (hx.block g hg)
  have all : ∀ {g T : Nat}, g < w.heap.size → tag g = T → T ≠ 16 * o + 1 → T ≠ 16 * o + 5 → (w3.setCell ⟨p.M, 4, none⟩ v').heap[g]? = w.heap[g]? := fun {g T} hg ht n1 n5 => by
    rw [heap_setCell_other _ _ g _ (fun e => n1 (by rw [← ht, show g = p.M from e]; exact h.tM.1)), e2 g hg (by rw [ht]; exact n5)]
  refine ⟨?_, h.rS.same (all h.rS.lt h.tS.1 (by omega) (by omega)), h.rN.same (all h.rN.lt h.tN.1 (by omega) (by omega)), h.wS.same (fun g hg => all (h.wS.lt g hg) (h.tV g hg).1 (by omega) (by omega)), ?_, h.lb,
    fun k hk' => (h.bB k hk').same (all (h.bB k hk').lt (h.tB k hk').1 (by omega) (by omega)), ?_, ?_, ?_, ?_, htv, ?_, h.ok.add hlb⟩
  · have b3 : Blk w3 p.M _ := h.bM.same (e2 _ h.bM.lt (by rw [h.tM.1]; omega))
    have := b3.set 4 v'
    simpa [St.add] using this
  · have e : bytesV (s.add l).outs = bytesV s.outs ++ bytesV l := by simp [St.add]
    have e' : (s.add l).outs.length = s.outs.length + l.length := by simp [St.add]
    rw [e, e']
    refine hwin.same (fun g hg => heap_setCell_other _ _ g _ (fun e => ?_))
    have e1 : g = p.M := e
    have e3 := (htv g hg).1
    rw [e1, hT h.bM.lt, h.tM.1] at e3
    omega
  · exact ⟨by rw [hT h.bM.lt]; exact h.tM.1, h.tM.2⟩
  · exact ⟨by rw [hT h.rS.lt]; exact h.tS.1, h.tS.2⟩
  · exact ⟨by rw [hT h.rN.lt]; exact h.tN.1, h.tN.2⟩
  · intro g hg
    exact ⟨by rw [hT (h.wS.lt g hg)]; exact (h.tV g hg).1, (h.tV g hg).2⟩
  · intro k hk'
    exact ⟨by rw [hT (h.bB k hk').lt]; exact (h.tB k hk').1, (h.tB k hk').2⟩

end Go.Proofs.YtafkkehcacdodaaGreat
