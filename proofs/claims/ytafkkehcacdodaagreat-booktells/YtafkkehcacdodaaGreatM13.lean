/- The document's disk: its cells; take, Add. -/
import Derived.Test.YtafkkehcacdodaaGreatM8
import Derived.Deep.RegionLaw
import Derived.Deep.DrawnRows
import Derived.Deep.OwnRows
set_option maxRecDepth 100000
namespace Go.Proofs.YtafkkehcacdodaaGreat
open Go.RowKit
attribute [local go_sem ↓] Go.wp_at_zero Go.wp_at_succ

section
variable {w : World} {tag : Nat → Nat} {base o : Nat} {s : St} {p : ML}
theorem MD.m0 (h : MD w tag base o s p) : w.cell? ⟨p.M, 0, none⟩ = some (.int .i64 s.n) := h.bM.cell 0
theorem MD.m1 (h : MD w tag base o s p) : w.cell? ⟨p.M, 1, none⟩ = some (.slice (some ⟨p.S, 0, none⟩) (s.n * 64) p.cS) := h.bM.cell 1
theorem MD.m2 (h : MD w tag base o s p) : w.cell? ⟨p.M, 2, none⟩ = some (.slice (some ⟨p.N, 0, none⟩) (s.n * 64) p.cN) := h.bM.cell 2
theorem MD.m3 (h : MD w tag base o s p) : w.cell? ⟨p.M, 3, none⟩ = some p.sv := h.bM.cell 3
theorem MD.m4 (h : MD w tag base o s p) : w.cell? ⟨p.M, 4, none⟩ = some p.ov := h.bM.cell 4
theorem MD.m5 (h : MD w tag base o s p) : w.cell? ⟨p.M, 5, none⟩ = some (.int .i64 s.ops) := h.bM.cell 5
theorem MD.fM (h : MD w tag base o s p) (j : Nat) : w.frozen? ⟨p.M, j, none⟩ = false := h.bM.frozen j
theorem MD.sform (h : MD w tag base o s p) : ∃ a c, p.sv = .slice a s.since.length c ∧ s.since.length ≤ c ∧ c ≤ maxLen := by
  rcases h.wS.2 with ⟨h1, h2⟩ | ⟨g, oo, cap, cs, h1, _, h2, h3, _⟩
  · exact ⟨none, 0, by rw [h1, h2], by omega, by decide⟩
  · exact ⟨_, _, h1, h2, h3⟩
theorem MD.oform (h : MD w tag base o s p) : ∃ a c, p.ov = .slice a s.outs.length c ∧ s.outs.length ≤ c ∧ c ≤ maxLen := by
  rcases h.wO.2 with ⟨h1, h2⟩ | ⟨g, oo, cap, cs, h1, _, h2, h3, _⟩
  · exact ⟨none, 0, by rw [h1, h2], by omega, by decide⟩
  · exact ⟨_, _, h1, h2, h3⟩
end

/-- Behind stores into the disk's own block: all but its outcomes and its count is as it was. -/
theorem MD.queue {w w' : World} {tag : Nat → Nat} {base o : Nat} {s : St} {p : ML} (h : MD w tag base o s p) (v : Value) (l : List Int) (n : Nat)
    (hq : Blk w' p.M [.int .i64 s.n, .slice (some ⟨p.S, 0, none⟩) (s.n * 64) p.cS, .slice (some ⟨p.N, 0, none⟩) (s.n * 64) p.cN, p.sv, v, .int .i64 n])
    (hw : Win w 1 v l.length (bytesV l)) (hv : ∀ g, v.ownBlock = some g → tag g = 16 * o + 5 ∧ base ≤ g) (hk : ∀ k, k ≠ p.M → w'.heap[k]? = w.heap[k]?) (hl : isBytes l) :
    MD w' tag base o { s with outs := l, ops := n } { p with ov := v } := by
  have hne : ∀ {g : Nat} {T : Nat}, tag g = T → T ≠ 16 * o + 1 → w'.heap[g]? = w.heap[g]? := fun {g T} hT hn => hk g (fun e => hn (by rw [← hT, e]; exact h.tM.1))
  exact ⟨hq, h.rS.same (hne h.tS.1 (by omega)), h.rN.same (hne h.tN.1 (by omega)), h.wS.same (fun g hg => hne (h.tV g hg).1 (by omega)), hw.same (fun g hg => hne (hv g hg).1 (by omega)), h.lb,
    fun k hk' => (h.bB k hk').same (hne (h.tB k hk').1 (by omega)), h.tM, h.tS, h.tN, h.tV, hv, h.tB, ⟨h.ok.n1, h.ok.n2, h.ok.sl, h.ok.nl, h.ok.sb, h.ok.nb, hl, h.ok.wr, h.ok.eq⟩⟩

theorem blk_m {w : World} {M : Nat} {a b c d e f x y : Value} (h : Blk w M [a, b, c, d, e, f]) : Blk ((w.setCell ⟨M, 5, none⟩ y).setCell ⟨M, 4, none⟩ x) M [a, b, c, d, x, y] := by
  have := (h.set 5 y).set 4 x
  simpa using this

theorem blk_m1 {w : World} {M : Nat} {a b c d e f y : Value} (h : Blk w M [a, b, c, d, e, f]) : Blk (w.setCell ⟨M, 5, none⟩ y) M [a, b, c, d, e, y] := by
  have := h.set 5 y
  simpa using this

theorem out_cases (c : Int) : (c % 3 = 0 ∧ Hid (doneB c = true) ∧ Hid (errC c = 0)) ∨ (c % 3 = 1 ∧ Hid (doneB c = false) ∧ Hid (errC c = 8)) ∨ (c % 3 = 2 ∧ Hid (doneB c = true) ∧ Hid (errC c = 8)) := by
  have : c % 3 = 0 ∨ c % 3 = 1 ∨ c % 3 = 2 := by omega
  rcases this with h | h | h
  · exact .inl ⟨h, by show doneB c = true; simp [doneB, h], by show errC c = 0; simp [errC, h]⟩
  · exact .inr (.inl ⟨h, by show doneB c = false; simp [doneB, h], by show errC c = 8; simp [errC, h]⟩)
  · exact .inr (.inr ⟨h, by show doneB c = true; simp [doneB, h], by show errC c = 8; simp [errC, h]⟩)

set_option maxHeartbeats 1000000 in
theorem rtake_ok (w : World) (tag : Nat → Nat) (base o : Nat) (s : St) (p : ML) (h : MD w tag base o s p) (hops : s.ops ≤ 1000000) (hout : s.outs.length ≤ 1000000) :
    Calls Tryz.prog 106 #[.pointer (some ⟨p.M, 0, none⟩)] w fun e w' => e = .returned (.tuple #[.bool (doneB s.out), .int .i64 (errC s.out)]) ∧ ∃ p', p'.M = p.M ∧ MD w' tag base o s.take p' ∧ Step tag tag base o w w' := by
  have h4 := h.m4
  have h5 := h.m5
  have f4 := h.fM 4
  have f5 := h.fM 5
  obtain ⟨b0, b1⟩ := St.out_byte h.ok.ob
  have HP : Hid (MD w tag base o s p) := h
  cases hs : s.outs with
  | nil =>
    obtain ⟨a, c, e, _, _⟩ := h.oform
    rw [e, hs] at h4
    have EO : Hid (s.outs = []) := hs
    clear h e hs b0 b1
    simp only [List.length_nil] at h4
    go_enter Tryz.func106, Tryz.ntmps106
    go_wp2
    go_ret2
    refine ⟨by simp [St.out, EO.out, doneB, errC], p, rfl, ?_, ?_⟩
    · have := HP.out.queue (w' := w.setCell ⟨p.M, 5, none⟩ (.int .i64 (s.ops + 1 : Nat))) p.ov [] (s.ops + 1) (blk_m1 HP.out.bM) (by have := HP.out.wO; rw [EO.out] at this; exact this) HP.out.tO (fun k hk => heap_setCell_other _ _ k _ hk) isBytes_nil
      simpa [St.take, EO.out] using this
    · exact step_set tag base o w HP.out.tM.2 (by have := HP.out.tM.1; omega) 5 _
  | cons c l =>
    rcases h.wO.2 with ⟨_, hz⟩ | ⟨g, oo, cap, cs, hv, hb, hn, hcm, hcap, hx⟩
    · rw [hs] at hz; simp at hz
    have EO : Hid (s.outs = c :: l) := hs
    have hlen : s.outs.length = l.length + 1 := by rw [hs]; rfl
    have hout' : s.out = c := by unfold St.out; rw [hs]; rfl
    rw [hout'] at b0 b1 ⊢
    rw [hlen] at hn hx hout
    rw [hv, hlen] at h4
    have hc0 : w.cell? ⟨g, oo, none⟩ = some (.int .u8 c) := by
      have := hb.range oo ((l.length + 1) * 1) 0 (.int .u8 c) (by rw [hx, hs]; rfl)
      simpa using this
    have hgQ : ¬ p.M = g := fun e => by have a := h.tM.1; have b := (h.tO g (by rw [hv]; rfl)).1; rw [e] at a; omega
    have hlt : g < w.heap.size := hb.lt
    have HX : Hid ((cs.drop oo).take ((l.length + 1) * 1) = bytesV s.outs) := hx
    have HV : Hid (p.ov = .slice (some ⟨g, oo, none⟩) s.outs.length cap) := hv
    have HB : Hid (Blk w g cs) := hb
    clear hx hv hb h hs hlen hout'
    unfold maxLen at hcm
    have HF : Hid (∃ u, (if cap = 1 then u = Value.slice (some ⟨g, oo, none⟩) l.length (cap - 1) else u = .slice (some ⟨g, oo + 1, none⟩) l.length (cap - 1)) ∧ ∃ p', p'.M = p.M ∧ MD ((w.setCell ⟨p.M, 5, none⟩ (.int .i64 (s.ops + 1 : Nat))).setCell ⟨p.M, 4, none⟩ u) tag base o s.take p' ∧ Step tag tag base o w ((w.setCell ⟨p.M, 5, none⟩ (.int .i64 (s.ops + 1 : Nat))).setCell ⟨p.M, 4, none⟩ u)) := by
      have hob := HP.out.ok.ob
      rw [EO.out] at hob
      by_cases hc1 : cap = 1
      · have hl0 : l = [] := List.eq_nil_of_length_eq_zero (by omega)
        refine ⟨.slice (some ⟨g, oo, none⟩) l.length (cap - 1), by rw [if_pos hc1], { p with ov := .slice (some ⟨g, oo, none⟩) l.length (cap - 1) }, rfl, ?_, ?_⟩
        · have := HP.out.queue (w' := (w.setCell ⟨p.M, 5, none⟩ (.int .i64 (s.ops + 1 : Nat))).setCell ⟨p.M, 4, none⟩ (.slice (some ⟨g, oo, none⟩) l.length (cap - 1))) (.slice (some ⟨g, oo, none⟩) l.length (cap - 1)) l (s.ops + 1) (blk_m HP.out.bM)
            ⟨by simp, .inr ⟨g, oo, cap - 1, cs, rfl, HB.out, by omega, by unfold maxLen; omega, by omega, by rw [hl0]; simp⟩⟩ (fun k hk => HP.out.tO k (by rw [HV.out]; exact hk)) (fun k hk => by rw [heap_setCell_other _ _ k _ hk, heap_setCell_other _ _ k _ hk]) (fun z hz => hob z (by simp [hz]))
          simpa [St.take, EO.out] using this
        · exact (step_set tag base o w HP.out.tM.2 (by have := HP.out.tM.1; omega) 5 _).set HP.out.tM.2 (by have := HP.out.tM.1; omega) 4 _
      · refine ⟨.slice (some ⟨g, oo + 1, none⟩) l.length (cap - 1), by rw [if_neg hc1], { p with ov := .slice (some ⟨g, oo + 1, none⟩) l.length (cap - 1) }, rfl, ?_, ?_⟩
        · have := HP.out.queue (w' := (w.setCell ⟨p.M, 5, none⟩ (.int .i64 (s.ops + 1 : Nat))).setCell ⟨p.M, 4, none⟩ (.slice (some ⟨g, oo + 1, none⟩) l.length (cap - 1))) (.slice (some ⟨g, oo + 1, none⟩) l.length (cap - 1)) l (s.ops + 1) (blk_m HP.out.bM)
            ⟨by simp, .inr ⟨g, oo + 1, cap - 1, cs, rfl, HB.out, by omega, by unfold maxLen; omega, by omega, by
              have := HX.out
              rw [EO.out] at this
              have e : ((cs.drop oo).take (l.length + 1)).drop 1 = bytesV l := by simpa using congrArg (List.drop 1) this
              rw [List.drop_take, List.drop_drop] at e
              simpa using e⟩⟩ (fun k hk => HP.out.tO k (by rw [HV.out]; exact hk)) (fun k hk => by rw [heap_setCell_other _ _ k _ hk, heap_setCell_other _ _ k _ hk]) (fun z hz => hob z (by simp [hz]))
          simpa [St.take, EO.out] using this
        · exact (step_set tag base o w HP.out.tM.2 (by have := HP.out.tM.1; omega) 5 _).set HP.out.tM.2 (by have := HP.out.tM.1; omega) 4 _
    by_cases hc1 : cap = 1
    · have hl0 : l.length = 0 := by omega
      subst hc1
      rw [hl0] at h4
      simp only [Nat.zero_add] at h4
      obtain ⟨u, hu, p', e1, e2, e3⟩ := HF.out
      rw [if_pos rfl, hl0] at hu
      subst hu
      have E1 : Hid (p'.M = p.M) := e1
      have E2 : Hid _ := e2
      have E3 : Hid _ := e3
      clear HF e1 e2 e3
      rcases out_cases c with ⟨k1, D1, D2⟩ | ⟨k1, D1, D2⟩ | ⟨k1, D1, D2⟩
      all_goals
        go_enter Tryz.func106, Tryz.ntmps106
        go_wp2
        go_ret2
        exact ⟨by rw [D1.out, D2.out]; rfl, p', E1.out, E2.out, E3.out⟩
    · obtain ⟨u, hu, p', e1, e2, e3⟩ := HF.out
      rw [if_neg hc1] at hu
      subst hu
      have E1 : Hid (p'.M = p.M) := e1
      have E2 : Hid _ := e2
      have E3 : Hid _ := e3
      clear HF e1 e2 e3
      rcases out_cases c with ⟨k1, D1, D2⟩ | ⟨k1, D1, D2⟩ | ⟨k1, D1, D2⟩
      all_goals
        go_enter Tryz.func106, Tryz.ntmps106
        go_wp2
        go_ret2
        exact ⟨by rw [D1.out, D2.out]; rfl, p', E1.out, E2.out, E3.out⟩

/-- Behind an append onto the outcomes. -/
theorem MD.added {w wx w3 : World} {tag : Nat → Nat} {base o : Nat} {s : St} {p : ML} (h : MD w tag base o s p) (hbase : base ≤ w.heap.size) (hx : Below w.heap.size w wx) (v' : Value) (l : List Int) (hlb : isBytes l)
    (hgrow : wx.grownBy w3 p.ov.ownBlock) (hat : v'.ownBlock = p.ov.ownBlock ∨ v'.ownBlock = some wx.heap.size) (hwin : Win w3 1 v' (s.outs.length + l.length) (bytesV s.outs ++ bytesV l)) :
    ∃ p' tag', p'.M = p.M ∧ MD (w3.setCell ⟨p.M, 4, none⟩ v') tag' base o (s.add l) p' ∧ Step tag tag' base o w (w3.setCell ⟨p.M, 4, none⟩ v') := by
  have s2 : Step tag tag base o w wx := step_below tag base o hbase hx
  obtain ⟨s3, htv⟩ := step_grown (tag := tag) (base := base) hgrow hat h.tO (show (16 * o + 5) / 16 = o by omega) (by have := hx.size; omega)
  have s4 : Step tag (retag tag v' (16 * o + 5)) base o w w3 := s2.trans s3
  have hT : ∀ {g : Nat}, g < w.heap.size → retag tag v' (16 * o + 5) g = tag g := fun {g} hg => s4.tags g hg
  have hsz2 := hx.size
  refine ⟨{ p with ov := v' }, retag tag v' (16 * o + 5), rfl, ?_, s4.set h.tM.2 (by rw [hT h.bM.lt]; have := h.tM.1; omega) 4 _⟩
  have e2 : ∀ g, g < w.heap.size → tag g ≠ 16 * o + 5 → w3.heap[g]? = w.heap[g]? := fun g hg hne => (hgrow.block g (by omega) (fun e => hne (h.tO g e.symm).1)).trans (hx.block g hg)
  have all : ∀ {g T : Nat}, g < w.heap.size → tag g = T → T ≠ 16 * o + 1 → T ≠ 16 * o + 5 → (w3.setCell ⟨p.M, 4, none⟩ v').heap[g]? = w.heap[g]? := fun {g T} hg ht n1 n5 => by
    rw [heap_setCell_other _ _ g _ (fun e => n1 (by rw [← ht, show g = p.M from e]; exact h.tM.1)), e2 g hg (by rw [ht]; exact n5)]
  refine ⟨?_, h.rS.same (all h.rS.lt h.tS.1 (by omega) (by omega)), h.rN.same (all h.rN.lt h.tN.1 (by omega) (by omega)), h.wS.same (fun g hg => all (h.wS.lt g hg) (h.tV g hg).1 (by omega) (by omega)), ?_, h.lb,
    fun k hk' => (h.bB k hk').same (all (h.bB k hk').lt (h.tB k hk').1 (by omega) (by omega)), ?_, ?_, ?_, ?_, htv, ?_, h.ok.add hlb⟩
  · have b3 : Blk w3 p.M _ := h.bM.same (e2 _ h.bM.lt (by rw [h.tM.1]; omega))
    have := b3.set 4 v'
    simpa [St.add] using this
  · have e : bytesV (s.add l).outs = bytesV s.outs ++ bytesV l := by simp [St.add]
    have e' : (s.add l).outs.length = s.outs.length + l.length := by simp [St.add]
    rw [e, e']
    refine hwin.same (fun g hg => heap_setCell_other _ _ g _ (fun e => ?_))
    have e1 : g = p.M := e
    have e3 := (htv g hg).1
    rw [e1, hT h.bM.lt, h.tM.1] at e3
    omega
  · exact ⟨by rw [hT h.bM.lt]; exact h.tM.1, h.tM.2⟩
  · exact ⟨by rw [hT h.rS.lt]; exact h.tS.1, h.tS.2⟩
  · exact ⟨by rw [hT h.rN.lt]; exact h.tN.1, h.tN.2⟩
  · intro g hg
    exact ⟨by rw [hT (h.wS.lt g hg)]; exact (h.tV g hg).1, (h.tV g hg).2⟩
  · intro k hk'
    exact ⟨by rw [hT (h.bB k hk').lt]; exact (h.tB k hk').1, (h.tB k hk').2⟩

end Go.Proofs.YtafkkehcacdodaaGreat

namespace Go.Proofs.YtafkkehcacdodaaGreat
open Go.RowKit
attribute [local go_sem ↓] Go.wp_at_zero Go.wp_at_succ

theorem add_nil (s : St) : s.add [] = s := by simp [St.add]
theorem add_snoc (s : St) (l : List Int) (k : Nat) (h : k < l.length) : s.add (l.take (k + 1)) = (s.add (l.take k)).add [l.getD k 0] := by
  rw [take_snoc l k h]; simp [St.add]

set_option maxHeartbeats 4000000 in
theorem radd_ok (w : World) (tag : Nat → Nat) (base o : Nat) (s : St) (p : ML) (h : MD w tag base o s p) (hbase : base ≤ w.heap.size) (v : Value) (l : List Int) (hv : Bts w v l)
    (hvo : l ≠ [] → ∀ g, v.ownBlock = some g → tag g / 16 ≠ o) (hout : s.outs.length + l.length ≤ 1000000) :
    Calls Tryz.prog 12 #[.pointer (some ⟨p.M, 0, none⟩), v] w fun e w' => e = .returned (.tuple #[]) ∧ ∃ p' tag', p'.M = p.M ∧ MD w' tag' base o (s.add l) p' ∧ Step tag tag' base o w w' := by
  obtain ⟨i0, hi, hz0, hz1, hz2⟩ := info_parts info5
  have HV : Hid (Bts w v l) := hv
  have HVO : Hid (l ≠ [] → ∀ g, v.ownBlock = some g → tag g / 16 ≠ o) := hvo
  obtain ⟨a, cap, b, off, rfl, hl, hm, hbb, ha, _⟩ := hv
  unfold maxLen at hm
  go_enter Tryz.func12, Tryz.ntmps12
  go_wp2
  go_loopw [4] (fun i wr => ∃ (k : Nat) (p1 : ML) (tag1 : Nat → Nat), k ≤ l.length ∧ i = .int .i64 k ∧ p1.M = p.M ∧ MD wr tag1 base o (s.add (l.take k)) p1 ∧ Step tag tag1 base o w wr) (fun i _ => l.length - (intOf i).toNat)
  case atStart => exact ⟨0, p, tag, Nat.zero_le _, rfl, rfl, by rw [List.take_zero, add_nil]; exact h, Step.refl _ _ _ _⟩
  case round =>
    obtain ⟨k, p1, tag1, hk, rfl, hM, h1, hS⟩ := hrel
    by_cases hlt : k < l.length
    · have hltI : (k : Int) < (l.length : Int) := by omega
      rcases ha with rfl | hnil
      case inr => rw [hnil] at hlt; simp at hlt
      have hB1 := bts_other HV.out hS (HVO.out (by intro e; rw [e] at hlt; simp at hlt))
      have hcell : wr.cell? ⟨b, off + k, none⟩ = some (.int .u8 (l.getD k 0)) := by
        obtain ⟨a', cap', b', off', e, _, _, _, ha', hs'⟩ := hB1
        simp only [Value.slice.injEq] at e
        rcases ha' with rfl | hn
        · have := e.1
          simp only [Option.some.injEq, Addr.mk.injEq, and_true] at this
          obtain ⟨rfl, rfl⟩ := this
          exact hs' k hlt
        · rw [hn] at hlt; simp at hlt
      have hcb := getD_byte l hbb k
      have HAS : Hid (s.add (l.take (k + 1)) = (s.add (l.take k)).add [l.getD k 0]) := add_snoc s l k hlt
      have hol : (s.add (l.take k)).outs.length ≤ 1000000 := by simp [St.add]; omega
      generalize hC : l.getD k 0 = c at *
      clear hC
      generalize s.add (l.take k) = s1 at *
      have h4 := h1.m4
      have f4 := h1.fM 4
      rw [hM] at h4 f4
      have H1 : Hid (MD wr tag1 base o s1 p1) := h1
      have HS : Hid (Step tag tag1 base o w wr) := hS
      have HB : Hid (base ≤ wr.heap.size) := Nat.le_trans hbase hS.below.size
      have HF : Hid (∀ wx v' w3, Below wr.heap.size wr wx → wx.grownBy w3 p1.ov.ownBlock → (v'.ownBlock = p1.ov.ownBlock ∨ v'.ownBlock = some wx.heap.size) → Win w3 1 v' (s1.outs.length + 1) (bytesV s1.outs ++ [.int .u8 c]) →
        ∃ p' tag', p'.M = p.M ∧ MD (w3.setCell ⟨p.M, 4, none⟩ v') tag' base o (s1.add [c]) p' ∧ Step tag tag' base o w (w3.setCell ⟨p.M, 4, none⟩ v')) := by
        intro wx v' w3 hx hg ha hw
        obtain ⟨p', tag', e1, e2, e3⟩ := H1.out.added HB.out hx v' [c] (by intro z hz; simp at hz; subst hz; exact hcb) hg ha hw
        rw [hM] at e1 e2 e3
        exact ⟨p', tag', e1, e2, HS.out.trans e3⟩
      have K3 : Hid (∀ wx w3, Below wr.heap.size wr wx → wx.grownBy w3 p1.ov.ownBlock → w3.cell? ⟨p.M, 4, none⟩ = some p1.ov ∧ w3.frozen? ⟨p.M, 4, none⟩ = false) := by
        intro wx w3 hx hg
        have hne : p1.ov.ownBlock ≠ some p1.M := fun e => by have := (H1.out.tO _ e).1; rw [H1.out.tM.1] at this; omega
        have hb : Blk w3 p1.M _ := H1.out.bM.same ((hg.block p1.M (Nat.lt_of_lt_of_le H1.out.bM.lt hx.size) hne.symm).trans (hx.block p1.M H1.out.bM.lt))
        rw [← hM]
        exact ⟨hb.cell 4, hb.frozen 4⟩
      have HWin := h1.wO
      obtain ⟨ao, co, hov, _, _⟩ := h1.oform
      have hMlt : p.M < wr.heap.size := by rw [← hM]; exact h1.bM.lt
      rw [hov] at h4 HWin K3 HF
      clear hB1 hS h1
      go_wp2
      go_region_law ((refine step_win_append rfl (.tmp 15) (.tmp 20) 39 rfl 5 i0 (.int .u8 0) 1 1 Tryz.underlying39 hi hz0 hz1 hz2 rfl (by decide) (.slice ao s1.outs.length co) s1.outs.length (bytesV s1.outs) (by rfl) (by exact HWin.later (below_alloc wr _).drew) ⟨wr.heap.size, 0, none⟩ 1 1 [.int .u8 c] (by rfl) rfl (by exact news_new wr #[.int .u8 c] 5) (by intro u hu; simp at hu; subst hu; rfl) (by unfold maxLen; omega) (by omega) ?_; intro v' w3 hwin hgrow hat; obtain ⟨va, vc, hvv⟩ := win_shape hwin; subst hvv; obtain ⟨g4, g5⟩ := K3.out _ w3 (below_alloc wr _).drew hgrow))
      all_goals
        go_wp2
        go_roundw
        case rel =>
          obtain ⟨p', tag', e1, e2, e3⟩ := HF.out _ _ w3 (below_alloc wr _).drew hgrow hat hwin
          exact ⟨k + 1, p', tag', by omega, by go_num, e1, by rw [HAS.out]; exact e2, e3⟩
        case measure => simp [intOf]; omega
    · have hke : k = l.length := by omega
      subst hke
      rw [List.take_length] at h1
      go_wp2
      refine bodyPost_end (results_none rfl _ _ _) rfl ?_
      exact ⟨rfl, p1, tag1, hM, h1, hS⟩

end Go.Proofs.YtafkkehcacdodaaGreat

namespace Go.Proofs.YtafkkehcacdodaaGreat
open Go.RowKit
attribute [local go_sem ↓] Go.wp_at_zero Go.wp_at_succ

/-- Tags of a new disk's blocks. -/
def tagM (tag : Nat → Nat) (N o M S T : Nat) : Nat → Nat := fun k => if k < N then tag k else if k = M then 16 * o + 1 else if k = S then 16 * o + 2 else if k = T then 16 * o + 3 else 0

theorem made_zero5 (n : Nat) : (madeCells #[Value.int .u8 0] n).toList = bytesV (zeros n) := by
  apply List.ext_getElem?
  intro j
  by_cases hj : j < n
  · simp [madeCells, hj, zeros, Nat.mod_one]
  · simp [madeCells, hj, zeros]

set_option maxHeartbeats 400000 in
theorem rnew_no (w : World) (n : Int) (h : n < 1 ∨ 4096 < n) : Calls Tryz.prog 8 #[.int .i64 n] w fun e w' => e = .returned (.tuple #[.pointer none, .int .i64 1]) ∧ w' = w := by
  rcases h with h | h
  · go_enter Tryz.func8, Tryz.ntmps8
    go_wp2
    go_ret2
    exact ⟨rfl, rfl⟩
  · have h' : ¬ n < 1 := by omega
    go_enter Tryz.func8, Tryz.ntmps8
    go_wp2
    go_ret2
    exact ⟨rfl, rfl⟩

theorem row_made (w w' : World) (n : Nat) (Z : Array Value) (hZ : Z.toList = bytesV (zeros n)) (hn : n ≤ maxLen) (h : Below (w.alloc (.cells Z 5)).heap.size (w.alloc (.cells Z 5)) w') : Row w' 1 w.heap.size n n (bytesV (zeros n)) := by
  refine ⟨by simp [zeros], Nat.le_refl _, hn, _, (blk_new w Z 5).later h, ?_, ?_⟩
  · rw [hZ]; simp [zeros]
  · rw [hZ]; simp [zeros]

theorem made_md (w : World) (tag : Nat → Nat) (base o n N : Nat) (Z : Array Value) (hZ : Z.toList = bytesV (zeros N)) (hN : N = n * 64) (hbase : base ≤ w.heap.size) (h1 : 1 ≤ n) (h2 : n ≤ 4096) (A B : Nat) (hAB : (A = w.heap.size ∧ B = w.heap.size + 1) ∨ (A = w.heap.size + 1 ∧ B = w.heap.size)) :
    MD ((((w.alloc (.cells Z 5)).alloc (.cells Z 5)).alloc (.cells #[.int .i64 n, .slice (some ⟨A, 0, none⟩) N N, .slice (some ⟨B, 0, none⟩) N N, .slice none 0 0, .slice none 0 0, .int .i64 0] 71)).drew)
      (tagM tag w.heap.size o (w.heap.size + 1 + 1) A B) base o (St.new n) ⟨w.heap.size + 1 + 1, A, B, N, N, .slice none 0 0, .slice none 0 0, []⟩ ∧
    (∀ k, k < w.heap.size → tagM tag w.heap.size o (w.heap.size + 1 + 1) A B k = tag k) ∧
    Below w.heap.size w ((((w.alloc (.cells Z 5)).alloc (.cells Z 5)).alloc (.cells #[.int .i64 n, .slice (some ⟨A, 0, none⟩) N N, .slice (some ⟨B, 0, none⟩) N N, .slice none 0 0, .slice none 0 0, .int .i64 0] 71)).drew) := by
  subst hN
  have hb1 := below_alloc w (.cells Z 5)
  have hb2 := below_alloc (w.alloc (.cells Z 5)) (.cells Z 5)
  have hb3 := (below_alloc ((w.alloc (.cells Z 5)).alloc (.cells Z 5)) (.cells #[.int .i64 n, .slice (some ⟨A, 0, none⟩) (n * 64) (n * 64), .slice (some ⟨B, 0, none⟩) (n * 64) (n * 64), .slice none 0 0, .slice none 0 0, .int .i64 0] 71)).drew
  have hm : n * 64 ≤ maxLen := by unfold maxLen; omega
  have r1 := row_made w _ (n * 64) Z hZ hm (below_trans hb2 hb3)
  have r2 := row_made (w.alloc (.cells Z 5)) _ (n * 64) Z hZ hm hb3
  rw [World.size_alloc] at r2
  have bm := blk_new ((w.alloc (.cells Z 5)).alloc (.cells Z 5)) #[.int .i64 n, .slice (some ⟨A, 0, none⟩) (n * 64) (n * 64), .slice (some ⟨B, 0, none⟩) (n * 64) (n * 64), .slice none 0 0, .slice none 0 0, .int .i64 0] 71
  rw [World.size_alloc, World.size_alloc] at bm
  refine ⟨⟨bm, ?_, ?_, win_nil _ _, win_nil _ _, rfl, (fun k hk => by simp [St.new] at hk), ⟨?_, ?_⟩, ⟨?_, ?_⟩, ⟨?_, ?_⟩, (fun g hg => by simp [Value.ownBlock] at hg), (fun g hg => by simp [Value.ownBlock] at hg), (fun k hk => by simp [St.new] at hk), St.ok_new h1 h2⟩, fun k hk => by simp [tagM, hk], below_trans hb1 (below_trans hb2 hb3)⟩
  · rcases hAB with ⟨rfl, rfl⟩ | ⟨rfl, rfl⟩
    · exact r1
    · exact r2
  · rcases hAB with ⟨rfl, rfl⟩ | ⟨rfl, rfl⟩
    · exact r2
    · exact r1
  all_goals first
    | (show base ≤ _; dsimp only; omega)
    | (show tagM _ _ _ _ _ _ _ = _; dsimp only; unfold tagM; repeat (first | rw [if_pos rfl] | rw [if_neg (by omega)]))

set_option maxHeartbeats 2000000 in
theorem rnew_ok (w : World) (tag : Nat → Nat) (base o n : Nat) (hbase : base ≤ w.heap.size) (h1 : 1 ≤ n) (h2 : n ≤ 4096) :
    Calls Tryz.prog 8 #[.int .i64 n] w fun e w' => ∃ p tag', e = .returned (.tuple #[.pointer (some ⟨p.M, 0, none⟩), .int .i64 0]) ∧ MD w' tag' base o (St.new n) p ∧ (∀ k, k < w.heap.size → tag' k = tag k) ∧ Below w.heap.size w w' := by
  have h3 : ¬ (n : Int) < 1 := by omega
  have h4 : ¬ (4096 : Int) < n := by omega
  obtain ⟨N, hN⟩ : ∃ N, N = n * 64 := ⟨_, rfl⟩
  have hwr : IntKind.i64.wrap ((n : Int) * 64) = (N : Int) := by rw [IntWalk.i64_in _ (by omega)]; omega
  have hmk : ∀ W : World, (Instr.makeSlice 39 (.int .i64 (N : Int)) (.int .i64 (N : Int))).run Tryz.prog W = .ok (.slice (some ⟨W.heap.size, 0, none⟩) N N) (W.alloc (.cells (madeCells #[Value.int .u8 0] N) 5)) := fun W =>
    run_make_row' (P := Tryz.prog) 39 5 (.int .u8 0) 1 Tryz.underlying39 info5 rfl .i64 .i64 N (by omega) (by omega) W
  have HZ : Hid ((madeCells #[Value.int .u8 0] N).toList = bytesV (zeros N)) := made_zero5 _
  generalize madeCells #[Value.int .u8 0] N = Z at *
  have HN : Hid (N = n * 64) := hN
  have hNm : N ≤ 262144 := by omega
  clear hN
  go_enter Tryz.func8, Tryz.ntmps8
  go_wp2
  go_region_law (fail)
  all_goals
    go_wp2
    go_ret2
    first
      | exact ⟨_, _, rfl, made_md w tag base o n N Z HZ.out HN.out hbase h1 h2 w.heap.size (w.heap.size + 1) (.inl ⟨rfl, rfl⟩)⟩
      | exact ⟨_, _, rfl, made_md w tag base o n N Z HZ.out HN.out hbase h1 h2 (w.heap.size + 1) w.heap.size (.inr ⟨rfl, rfl⟩)⟩

end Go.Proofs.YtafkkehcacdodaaGreat

namespace Go.Proofs.YtafkkehcacdodaaGreat
open Go.RowKit
attribute [local go_sem ↓] Go.wp_at_zero Go.wp_at_succ

set_option maxHeartbeats 400000 in
theorem rread_no (w : World) (tag : Nat → Nat) (base o : Nat) (s : St) (p : ML) (h : MD w tag base o s p) (k : Int) (hk : hasB s.n k = false) :
    Calls Tryz.prog 73 #[.pointer (some ⟨p.M, 0, none⟩), .int .i64 k] w fun e w' => e = .returned (.tuple #[.slice none 0 0, .int .i64 1]) ∧ w' = w := by
  have h0 := h.m0
  unfold hasB at hk
  simp only [decide_eq_false_iff_not] at hk
  by_cases h1 : k < 0
  · go_enter Tryz.func73, Tryz.ntmps73
    go_wp2
    go_ret2
    exact ⟨rfl, rfl⟩
  · have h2 : (s.n : Int) ≤ k := by omega
    clear hk
    go_enter Tryz.func73, Tryz.ntmps73
    go_wp2
    go_ret2
    exact ⟨rfl, rfl⟩

theorem sec_getD (l : List Int) (k j : Nat) (hj : j < 64) : (sec l k).getD j 0 = l.getD (k * 64 + j) 0 := by
  unfold sec
  rw [List.getD_eq_getElem?_getD, List.getD_eq_getElem?_getD, List.getElem?_take_of_lt hj, List.getElem?_drop]

theorem row_byte {w : World} {g cap n : Nat} {l : List Int} (h : Row w 1 g cap n (bytesV l)) (j : Nat) (hj : j < l.length) : w.cell? ⟨g, j, none⟩ = some (.int .u8 (l.getD j 0)) := by
  have hl : l.length = n := by simpa using h.1
  rw [h.cell j (by omega)]
  simp [List.getElem?_eq_getElem hj]

set_option maxHeartbeats 2000000 in
theorem rread_ok (w : World) (tag : Nat → Nat) (base o : Nat) (s : St) (p : ML) (h : MD w tag base o s p) (k : Nat) (hk : k < s.n) :
    Calls Tryz.prog 73 #[.pointer (some ⟨p.M, 0, none⟩), .int .i64 k] w fun e w' => ∃ v, e = .returned (.tuple #[v, .int .i64 0]) ∧ Owns w' w.heap.size v (sec s.now k) ∧ Below w.heap.size w w' := by
  obtain ⟨i0, hi, hz0, hz1, hz2⟩ := info_parts info5
  have h0 := h.m0
  have HM2 : Hid (∀ wx, Below w.heap.size w wx → wx.cell? ⟨p.M, 2, none⟩ = some (.slice (some ⟨p.N, 0, none⟩) (s.n * 64) p.cN)) := fun wx hx => (h.bM.later hx).cell 2
  have HRN : Hid (Row w 1 p.N p.cN (s.n * 64) (bytesV s.now)) := h.rN
  have HNL : Hid (s.now.length = s.n * 64) := h.ok.nl
  have HSL : Hid ((sec s.now k).length = 64) := sec_len h.ok.nl hk
  have n2 := h.ok.n2
  have hcm : s.n * 64 ≤ p.cN ∧ p.cN ≤ maxLen := ⟨h.rN.2.1, h.rN.2.2.1⟩
  obtain ⟨hc1, hc2⟩ := hcm
  unfold maxLen at hc2
  have h1 : ¬ (k : Int) < 0 := by omega
  have h2 : ¬ (s.n : Int) ≤ (k : Int) := by omega
  clear h
  go_enter Tryz.func73, Tryz.ntmps73
  go_wp2
  go_loopw [6, 7] (fun v i wr => ∃ j : Nat, j ≤ 64 ∧ i = .int .i64 j ∧ Owns wr w.heap.size v ((sec s.now k).take j) ∧ Below w.heap.size w wr) (fun _ i _ => 64 - (intOf i).toNat)
  case atStart => exact ⟨0, Nat.zero_le _, rfl, World.ownsRow_nil _ _ _ _, Below.refl _ _⟩
  case round =>
    obtain ⟨j, hj, rfl, hown, hbel⟩ := hrel
    by_cases hlt : j < 64
    · have hltI : (j : Int) < 64 := by omega
      have hm2 := HM2.out wr hbel
      have hcell : wr.cell? ⟨p.N, k * 64 + j, none⟩ = some (.int .u8 ((sec s.now k).getD j 0)) := by
        rw [sec_getD _ _ _ hlt]
        exact row_byte (HRN.out.later hbel) _ (by rw [HNL.out]; omega)
      have htl : Hid (((sec s.now k).take j).length = j) := by show _ = _; rw [List.length_take, HSL.out]; omega
      have hts : Hid ((sec s.now k).take (j + 1) = (sec s.now k).take j ++ [(sec s.now k).getD j 0]) := take_snoc _ j (by rw [HSL.out]; omega)
      have hsz := hbel.size
      generalize hC : (sec s.now k).getD j 0 = c at *
      clear hC
      have hown2 : (wr.alloc (.cells #[.int .u8 c] 5)).ownsRow w.heap.size 5 1 _ ((sec s.now k).take j).length (((sec s.now k).take j).map (Value.int .u8)) := World.ownsRow.alloc hown _
      obtain ⟨L, hL⟩ : ∃ L : Nat, L = s.n * 64 := ⟨_, rfl⟩
      obtain ⟨A, hA⟩ : ∃ A : Nat, A = k * 64 := ⟨_, rfl⟩
      obtain ⟨q, hq⟩ : ∃ q : Nat, q = A + j := ⟨_, rfl⟩
      rw [← hA, ← hq] at hcell
      rw [← hL] at hm2
      have e1 : IntKind.i64.wrap ((k : Int) * 64) = (A : Int) := by rw [IntWalk.i64_in _ (by omega)]; omega
      have e2 : IntKind.i64.wrap ((A : Int) + (j : Int)) = (q : Int) := by rw [IntWalk.i64_in _ (by omega)]; omega
      have hqlt : (q : Int) < (L : Int) := by omega
      have hLm : L ≤ 262144 := by omega
      clear hq hA hL h1 h2 hk hc1 n2 hltI
      have hltI : (j : Int) < 64 := by omega
      go_wp2_with (at_builtin; refine wpList_append_own _ rfl _ _ 39 rfl w.heap.size 5 i0 (.int .u8 0) 1 1 Tryz.underlying39 hi hz0 hz1 hz2 rfl (by decide) _ _ _ rfl hown2 ⟨wr.heap.size, 0, none⟩ 1 1 [.int .u8 c] rfl rfl ?c1 ?c2 ?c3 ?c4 ?c5 ?_)
      case c1 =>
        intro j u hj
        match j, hj with
        | 0, hj => simp at hj; subst hj; simp [Addr.add]
      case c2 => intro u hu; simp at hu; subst hu; rfl
      case c3 => rw [htl.out]; unfold maxLen; omega
      case c4 => rw [htl.out]; omega
      case c5 => simp; omega
      intro v' w1 hown' hgrow _
      have R1 : Owns w1 w.heap.size v' ((sec s.now k).take (j + 1)) := by
        unfold Owns; rw [hts.out]; simpa using hown'
      have R2 : Below w.heap.size w w1 := by
        refine (hbel.alloc hsz _).grown hgrow (by simp; omega) ?_
        intro j hj
        exact (hown.lt j hj).1
      clear hown' hgrow hown2
      go_wp2
      go_roundw
      case rel => exact ⟨j + 1, by omega, by go_num, R1, R2⟩
      case measure => simp [intOf]; omega
    · have hje : j = 64 := by omega
      subst hje
      have hge : (64 : Int) ≤ ((64 : Nat) : Int) := by omega
      go_wp2
      go_ret2
      refine ⟨_, rfl, ?_, hbel⟩
      rw [List.take_of_length_le (by rw [HSL.out]; omega)] at hown
      exact hown

/-- The document's Sync, under way: k bytes have been copied. -/
structure RMid (w : World) (base : Nat) (s : St) (p : ML) (k : Nat) (wr : World) : Prop where
  row : Row wr 1 p.S p.cS (s.n * 64) (bytesV (s.now.take k ++ s.sure.drop k))
  kept : ∀ q, q ≠ p.S → wr.heap[q]? = w.heap[q]?
  below : Below base w wr

theorem copied_set (a b : List Int) (k : Nat) (h : a.length = b.length) (hk : k < a.length) : (bytesV (a.take k ++ b.drop k)).set k (.int .u8 (a.getD k 0)) = bytesV (a.take (k + 1) ++ b.drop (k + 1)) := by
  apply List.ext_getElem?
  intro j
  rw [List.getElem?_set]
  by_cases e : k = j
  · subst e
    rw [if_pos rfl]
    simp only [List.length_map, List.length_append, List.length_take, List.length_drop, List.getElem?_map]
    rw [if_pos (by omega), List.getElem?_append_left (by simp; omega), List.getElem?_take_of_lt (by omega), List.getElem?_eq_getElem hk]
    simp [List.getD_eq_getElem?_getD, List.getElem?_eq_getElem hk]
  · rw [if_neg e]
    simp only [List.getElem?_map]
    congr 1
    by_cases hj : j < k
    · rw [List.getElem?_append_left (by simp; omega), List.getElem?_append_left (by simp; omega), List.getElem?_take_of_lt hj, List.getElem?_take_of_lt (by omega)]
    · rw [List.getElem?_append_right (by simp; omega), List.getElem?_append_right (by simp; omega), List.getElem?_drop, List.getElem?_drop]
      congr 1
      simp; omega

theorem MD.settle {w wr : World} {tag : Nat → Nat} {base o : Nat} {s : St} {p : ML} (h : MD w tag base o s p) (hM : RMid w base s p (s.n * 64) wr) :
    MD (wr.setCell ⟨p.M, 3, none⟩ (.slice none 0 0)) tag base o s.settled { p with sv := .slice none 0 0, bs := [] } ∧ Step tag tag base o w (wr.setCell ⟨p.M, 3, none⟩ (.slice none 0 0)) := by
  have hMS : p.M ≠ p.S := fun e => by have a := h.tM.1; have b := h.tS.1; rw [e] at a; omega
  have all : ∀ {g T : Nat}, tag g = T → T ≠ 16 * o + 1 → T ≠ 16 * o + 2 → (wr.setCell ⟨p.M, 3, none⟩ (.slice none 0 0)).heap[g]? = w.heap[g]? := fun {g T} ht n1 n2 => by
    rw [heap_setCell_other _ _ g _ (fun e => n1 (by rw [← ht, show g = p.M from e]; exact h.tM.1))]
    exact hM.kept g (fun e => n2 (by rw [← ht, e]; exact h.tS.1))
  have hr : Row wr 1 p.S p.cS (s.n * 64) (bytesV s.now) := by
    have := hM.row
    rw [List.take_of_length_le (by rw [h.ok.nl]; omega), List.drop_of_length_le (by rw [h.ok.sl]; omega), List.append_nil] at this
    exact this
  constructor
  · refine ⟨?_, hr.same (heap_setCell_other _ _ _ _ (fun e => hMS e.symm)), h.rN.same (all h.tN.1 (by omega) (by omega)), win_nil _ _, h.wO.same (fun g hg => all (h.tO g hg).1 (by omega) (by omega)), rfl, (fun k hk => by simp [St.settled] at hk), h.tM, h.tS, h.tN, (fun g hg => by simp [Value.ownBlock] at hg), h.tO, (fun k hk => by simp [St.settled] at hk), h.ok.settled⟩
    have := (h.bM.same (hM.kept p.M hMS)).set 3 (.slice none 0 0)
    simpa [St.settled] using this
  · refine Step.set ?_ h.tM.2 (by have := h.tM.1; omega) 3 _
    exact ⟨hM.below, fun _ _ => rfl, fun q hq hne => hM.kept q (fun e => hne (by rw [e]; have := h.tS.1; omega))⟩

set_option maxHeartbeats 4000000 in
theorem rsync_ok (w : World) (tag : Nat → Nat) (base o : Nat) (s : St) (p : ML) (h : MD w tag base o s p) (hops : s.ops ≤ 1000000) (hout : s.outs.length ≤ 1000000) :
    Calls Tryz.prog 81 #[.pointer (some ⟨p.M, 0, none⟩)] w fun e w' => e = .returned (.int .i64 (errC s.out)) ∧ ∃ p', p'.M = p.M ∧ MD w' tag base o s.sync p' ∧ Step tag tag base o w w' := by
  have HT := rtake_ok w tag base o s p h hops hout
  clear h
  by_cases hd : doneB s.out = true
  · have HS : Hid (s.sync = s.take.settled) := by show _ = _; unfold St.sync; rw [if_pos hd]
    go_enter Tryz.func81, Tryz.ntmps81
    go_wp2_with (go_at_call 106; refine HT.mono ?_; rintro e w1 ⟨rfl, p1, hD, hP, hS⟩)
    clear HT
    have HP : Hid (MD w1 tag base o s.take p1) := hP
    have HS1 : Hid (Step tag tag base o w w1) := hS
    obtain ⟨L, hL⟩ : ∃ L : Nat, L = s.n * 64 := ⟨_, rfl⟩
    have HL : Hid (L = s.n * 64) := hL
    have hLm : L ≤ 262144 := by have : s.n ≤ 4096 := hP.ok.n2; omega
    have hcN : L ≤ p1.cN := by rw [hL]; exact hP.rN.2.1
    have hcN2 : p1.cN ≤ 9223372036854775807 := hP.rN.2.2.1
    have hcS : L ≤ p1.cS := by rw [hL]; exact hP.rS.2.1
    have hcS2 : p1.cS ≤ 9223372036854775807 := hP.rS.2.2.1
    have HMS : Hid (p1.M ≠ p1.S) := fun e => by have a := hP.tM.1; have b := hP.tS.1; rw [e] at a; omega
    have HNS : Hid (p1.N ≠ p1.S) := fun e => by have a := hP.tN.1; have b := hP.tS.1; rw [e] at a; omega
    have HNL : Hid (s.now.length = L) := by show _ = _; rw [hL]; exact hP.ok.nl
    have HSL : Hid (s.sure.length = L) := by show _ = _; rw [hL]; exact hP.ok.sl
    clear hP hS hL
    go_loopw [5] (fun i wr => ∃ (k : Nat), k ≤ L ∧ i = .int .i64 k ∧ RMid w1 base s.take p1 k wr) (fun i _ => L - (intOf i).toNat)
    case atStart => exact ⟨0, Nat.zero_le _, rfl, by have := HP.out.rS; simpa using this, fun _ _ => rfl, Below.refl _ _⟩
    case round =>
      obtain ⟨k, hk, rfl, hM⟩ := hrel
      have hbM := HP.out.bM.same (hM.kept p1.M HMS.out)
      have c1 : wr.cell? ⟨p.M, 1, none⟩ = some (.slice (some ⟨p1.S, 0, none⟩) L p1.cS) := by rw [← hD, HL.out]; exact hbM.cell 1
      have c2 : wr.cell? ⟨p.M, 2, none⟩ = some (.slice (some ⟨p1.N, 0, none⟩) L p1.cN) := by rw [← hD, HL.out]; exact hbM.cell 2
      by_cases hlt : k < L
      · have hltI : (k : Int) < (L : Int) := by omega
        have c3 : wr.cell? ⟨p1.N, k, none⟩ = some (.int .u8 (s.now.getD k 0)) := row_byte (HP.out.rN.same (hM.kept p1.N HNS.out)) k (by rw [show s.take.now = s.now from rfl, HNL.out]; exact hlt)
        have c4 : wr.cell? ⟨p1.S, k, none⟩ = (bytesV (s.now.take k ++ s.sure.drop k))[k]? := hM.row.cell k (by rw [show s.take.n = s.n from rfl]; have := HL.out; omega)
        have c4' : ∃ u, wr.cell? ⟨p1.S, k, none⟩ = some u := ⟨_, by rw [c4]; exact List.getElem?_eq_getElem (by simp [HNL.out, HSL.out]; omega)⟩
        obtain ⟨u, c4'⟩ := c4'
        clear c4
        have f4 : wr.frozen? ⟨p1.S, k, none⟩ = false := hM.row.frozen k
        have HST : Hid ((bytesV (s.now.take k ++ s.sure.drop k)).set k (.int .u8 (s.now.getD k 0)) = bytesV (s.now.take (k + 1) ++ s.sure.drop (k + 1))) := copied_set _ _ k (by rw [HNL.out, HSL.out]) (by rw [HNL.out]; exact hlt)
        generalize hC : s.now.getD k 0 = c at *
        clear hC
        have K2 : Hid ((wr.setCell ⟨p1.S, k, none⟩ (.int .u8 c)).drew.cell? ⟨p.M, 1, none⟩ = some (.slice (some ⟨p1.S, 0, none⟩) L p1.cS) ∧ (wr.setCell ⟨p1.S, k, none⟩ (.int .u8 c)).drew.cell? ⟨p.M, 2, none⟩ = some (.slice (some ⟨p1.N, 0, none⟩) L p1.cN) ∧ (wr.setCell ⟨p1.S, k, none⟩ (.int .u8 c)).drew.cell? ⟨p1.N, k, none⟩ = some (.int .u8 c)) := by
          refine ⟨?_, ?_, ?_⟩
          · show (wr.setCell _ _).cell? _ = _
            rw [World.cell?_setCell_other _ _ _ _ (by intro e; exact HMS.out (by rw [hD]; exact (congrArg Addr.block e).symm))]; exact c1
          · show (wr.setCell _ _).cell? _ = _
            rw [World.cell?_setCell_other _ _ _ _ (by intro e; exact HMS.out (by rw [hD]; exact (congrArg Addr.block e).symm))]; exact c2
          · show (wr.setCell _ _).cell? _ = _
            rw [World.cell?_setCell_other _ _ _ _ (by intro e; exact HNS.out (congrArg Addr.block e).symm)]; exact c3
        have K1 : wr.drew.cell? ⟨p.M, 1, none⟩ = some (.slice (some ⟨p1.S, 0, none⟩) L p1.cS) ∧ wr.drew.cell? ⟨p.M, 2, none⟩ = some (.slice (some ⟨p1.N, 0, none⟩) L p1.cN) ∧ wr.drew.cell? ⟨p1.N, k, none⟩ = some (.int .u8 c) := ⟨c1, c2, c3⟩
        have HM : Hid (RMid w1 base s.take p1 k wr) := hM
        clear hM hbM
        go_wp2
        go_region_held3 (fun w' => w'.cell? ⟨p.M, 1, none⟩ = some (.slice (some ⟨p1.S, 0, none⟩) L p1.cS) ∧ w'.cell? ⟨p.M, 2, none⟩ = some (.slice (some ⟨p1.N, 0, none⟩) L p1.cN) ∧ w'.cell? ⟨p1.N, k, none⟩ = some (.int .u8 c)) (first | (with_reducible exact K1) | (with_reducible exact K2.out)) (fail)
        go_wp2
        go_roundw
        case rel =>
          refine ⟨k + 1, by omega, by go_num, ?_, ?_, ?_⟩
          · have := HM.out.row.set k (.int .u8 c)
            rw [show s.take.now = s.now from rfl, show s.take.sure = s.sure from rfl, HST.out] at this
            exact this
          · intro q hq
            show (wr.setCell _ _).heap[q]? = _
            rw [heap_setCell_other _ _ q _ hq]
            exact HM.out.kept q hq
          · exact (HM.out.below.setCell HP.out.tS.2 _).drew
        case measure => simp [intOf]; omega
      · have hke : k = L := by omega
        subst hke
        have f3 : wr.frozen? ⟨p.M, 3, none⟩ = false := by rw [← hD]; exact hbM.frozen 3
        have c3 : wr.cell? ⟨p.M, 3, none⟩ = some p1.sv := by rw [← hD]; exact hbM.cell 3
        have HM : Hid (RMid w1 base s.take p1 k wr) := hM
        clear hM hbM
        go_wp2
        go_ret
        have hM := HM.out
        rw [HL.out] at hM
        obtain ⟨e1, e2⟩ := HP.out.settle hM
        rw [hD] at e1 e2
        exact ⟨rfl, { p1 with M := p.M, sv := .slice none 0 0, bs := [] }, rfl, by rw [HS.out]; exact e1, HS1.out.trans e2⟩
  · have hd' : doneB s.out = false := by simpa using hd
    have HS : Hid (s.sync = s.take) := by show _ = _; unfold St.sync; rw [if_neg hd]
    clear hd
    go_enter Tryz.func81, Tryz.ntmps81
    go_wp2_with (go_at_call 106; refine HT.mono ?_; rintro e w1 ⟨rfl, p1, hD, hP, hS⟩)
    go_ret
    exact ⟨rfl, p1, hD, by rw [HS.out]; exact hP, hS⟩

end Go.Proofs.YtafkkehcacdodaaGreat
