/- The small functions of a disk. -/
import Derived.Test.YtafkkehcacdodaaGreatSecState
set_option maxRecDepth 100000
namespace Go.Proofs.YtafkkehcacdodaaGreat
open Go.RowKit

section
variable {w : World} {tag : Nat → Nat} {base o : Nat} {s : St} {p : PL}
theorem PD.d0 (h : PD w tag base o s p) : w.cell? ⟨p.D, 0, none⟩ = some (.pointer (some ⟨p.Q, 0, none⟩)) := h.bD.cell 0
theorem PD.d1 (h : PD w tag base o s p) : w.cell? ⟨p.D, 1, none⟩ = some (.func (.func 67) #[.pointer (some ⟨p.Q, 0, none⟩)] #[]) := h.bD.cell 1
theorem PD.d2 (h : PD w tag base o s p) : w.cell? ⟨p.D, 2, none⟩ = some (.slice (some ⟨p.C, 0, none⟩) s.n p.cC) := h.bD.cell 2
theorem PD.d3 (h : PD w tag base o s p) : w.cell? ⟨p.D, 3, none⟩ = some (.slice (some ⟨p.L, 0, none⟩) s.n p.cL) := h.bD.cell 3
theorem PD.d4 (h : PD w tag base o s p) : w.cell? ⟨p.D, 4, none⟩ = some p.uv := h.bD.cell 4
theorem PD.q0 (h : PD w tag base o s p) : w.cell? ⟨p.Q, 0, none⟩ = some p.wv := h.bQ.cell 0
theorem PD.q1 (h : PD w tag base o s p) : w.cell? ⟨p.Q, 1, none⟩ = some (.int .i64 s.ops) := h.bQ.cell 1
theorem PD.fD (h : PD w tag base o s p) (j : Nat) : w.frozen? ⟨p.D, j, none⟩ = false := h.bD.frozen j
theorem PD.fQ (h : PD w tag base o s p) (j : Nat) : w.frozen? ⟨p.Q, j, none⟩ = false := h.bQ.frozen j
theorem PD.uform (h : PD w tag base o s p) : ∃ a c, p.uv = .slice a s.since.length c ∧ s.since.length ≤ c ∧ c ≤ maxLen := by
  rcases h.wU.2 with ⟨h1, h2⟩ | ⟨g, oo, cap, cs, h1, _, h2, h3, _⟩
  · exact ⟨none, 0, by rw [h1, h2], by omega, by decide⟩
  · exact ⟨_, _, h1, h2, h3⟩
theorem PD.wform (h : PD w tag base o s p) : ∃ a c, p.wv = .slice a s.outs.length c ∧ s.outs.length ≤ c ∧ c ≤ maxLen := by
  rcases h.wW.2 with ⟨h1, h2⟩ | ⟨g, oo, cap, cs, h1, _, h2, h3, _⟩
  · exact ⟨none, 0, by rw [h1, h2], by omega, by decide⟩
  · exact ⟨_, _, h1, h2, h3⟩
end

theorem run_equalIn_func (d : Nat) (w : World) (f : Fn) (a b : Array Value) : (Op.equalIn (d + 1) 97 (.func f a b) .nilFunc).run Tryz.prog w = .ok false w := by
  simp [Op.equalIn, run_underlying Tryz.underlying97]
theorem run_equal_func (w : World) (f : Fn) (a b : Array Value) : (Op.equal 97 (.func f a b) .nilFunc).run Tryz.prog w = .ok false w := run_equalIn_func 9999 w f a b
theorem run_neq_func (w : World) (f : Fn) (a b : Array Value) : (binOp .neq 97 (.func f a b) .nilFunc).run Tryz.prog w = .ok (.bool true) w := by
  simp only [binOp]
  simp [run_equal_func w f a b]

set_option maxHeartbeats 400000 in
theorem made_ok (w : World) (tag : Nat → Nat) (base o : Nat) (s : St) (p : PL) (h : PD w tag base o s p) :
    Calls Tryz.prog 41 #[.pointer (some ⟨p.D, 0, none⟩)] w fun e w' => e = .returned (.bool true) ∧ w' = w := by
  have h1 := h.d1
  clear h
  have hne := run_neq_func
  go_enter Tryz.func41, Tryz.ntmps41
  go_wp2
  go_ret
  exact ⟨rfl, rfl⟩

def hasB (n : Nat) (k : Int) : Bool := decide (0 ≤ k ∧ k < n)

set_option maxHeartbeats 400000 in
theorem has_ok (w : World) (tag : Nat → Nat) (base o : Nat) (s : St) (p : PL) (h : PD w tag base o s p) (k : Int) :
    Calls Tryz.prog 94 #[.pointer (some ⟨p.D, 0, none⟩), .int .i64 k] w fun e w' => e = .returned (.bool (hasB s.n k)) ∧ w' = w := by
  have h1 := h.d3
  clear h
  by_cases h0 : 0 ≤ k
  · go_enter Tryz.func94, Tryz.ntmps94
    go_wp2
    go_ret
    exact ⟨ret_bool (by unfold hasB; simp [h0]), rfl⟩
  · go_enter Tryz.func94, Tryz.ntmps94
    go_wp2
    go_ret
    exact ⟨ret_bool (by unfold hasB; simp; omega), rfl⟩

set_option maxHeartbeats 400000 in
theorem size_ok (w : World) (tag : Nat → Nat) (base o : Nat) (s : St) (p : PL) (h : PD w tag base o s p) :
    Calls Tryz.prog 62 #[.pointer (some ⟨p.D, 0, none⟩)] w fun e w' => e = .returned (.int .i64 s.n) ∧ w' = w := by
  have h1 := h.d3
  go_enter Tryz.func62, Tryz.ntmps62
  go_wp2_with (go_at_call 41; refine (made_ok _ tag base o s p h).mono ?_; rintro e w' ⟨rfl, rfl⟩)
  go_ret
  exact ⟨rfl, rfl⟩

set_option maxHeartbeats 400000 in
theorem ops_ok (w : World) (tag : Nat → Nat) (base o : Nat) (s : St) (p : PL) (h : PD w tag base o s p) :
    Calls Tryz.prog 58 #[.pointer (some ⟨p.D, 0, none⟩)] w fun e w' => e = .returned (.int .i64 s.ops) ∧ w' = w := by
  have h1 := h.d0
  have h2 := h.q1
  go_enter Tryz.func58, Tryz.ntmps58
  go_wp2_with (go_at_call 41; refine (made_ok _ tag base o s p h).mono ?_; rintro e w' ⟨rfl, rfl⟩)
  go_ret
  exact ⟨rfl, rfl⟩

/-- Behind stores into the queue's block: all but the queue is as it was. -/
theorem PD.queue {w w' : World} {tag : Nat → Nat} {base o : Nat} {s : St} {p : PL} (h : PD w tag base o s p) (v : Value) (l : List Int) (n : Nat) (hq : Blk w' p.Q [v, .int .i64 n])
    (hw : Win w 1 v l.length (bytesV l)) (hv : ∀ g, v.ownBlock = some g → tag g = 16 * o + 5 ∧ base ≤ g) (hk : ∀ k, k ≠ p.Q → w'.heap[k]? = w.heap[k]?) (hl : isBytes l) :
    PD w' tag base o { s with outs := l, ops := n } { p with wv := v } := by
  have hne : ∀ {g : Nat} {T : Nat}, tag g = T → T ≠ 16 * o + 2 → w'.heap[g]? = w.heap[g]? := fun {g T} hT hn => hk g (fun e => hn (by rw [← hT, e]; exact h.tQ.1))
  exact ⟨h.bD.same (hne h.tD.1 (by omega)), hq, h.rC.same (hne h.tC.1 (by omega)), h.rL.same (hne h.tL.1 (by omega)), hw.same (fun g hg => hne (hv g hg).1 (by omega)), h.wU.same (fun g hg => hne (h.tU g hg).1 (by omega)),
    h.tD, h.tQ, h.tC, h.tL, hv, h.tU, ⟨h.ok.n1, h.ok.n2, h.ok.sl, h.ok.nl, h.ok.sb, h.ok.nb, hl, h.ok.wr, h.ok.eq⟩⟩

theorem blk_q {w : World} {Q : Nat} {a b c d : Value} (h : Blk w Q [a, b]) : Blk ((w.setCell ⟨Q, 1, none⟩ d).setCell ⟨Q, 0, none⟩ c) Q [c, d] := by
  have := (h.set 1 d).set 0 c
  simpa using this

set_option maxHeartbeats 1000000 in
theorem next_ok (w : World) (tag : Nat → Nat) (base o : Nat) (s : St) (p : PL) (h : PD w tag base o s p) (hops : s.ops ≤ 1000000) (hout : s.outs.length ≤ 1000000) :
    Calls Tryz.prog 67 #[.pointer (some ⟨p.Q, 0, none⟩)] w fun e w' => e = .returned (.int .u8 s.out) ∧ ∃ p', p'.D = p.D ∧ PD w' tag base o s.take p' ∧ Step tag tag base o w w' := by
  have h0 := h.q0
  have h1 := h.q1
  have f0 := h.fQ 0
  have f1 := h.fQ 1
  have HP : Hid (PD w tag base o s p) := h
  cases hs : s.outs with
  | nil =>
    obtain ⟨a, c, e, _, _⟩ := h.wform
    have E : Hid (p.wv = .slice a s.outs.length c) := e
    rw [e, hs] at h0
    have EO : Hid (s.outs = []) := hs
    clear h e hs
    simp only [List.length_nil] at h0
    go_enter Tryz.func67, Tryz.ntmps67
    go_wp2
    go_ret
    refine ⟨by simp [St.out, EO.out], p, rfl, ?_, ?_⟩
    · have := HP.out.queue (w' := w.setCell ⟨p.Q, 1, none⟩ (.int .i64 (s.ops + 1 : Nat))) p.wv [] (s.ops + 1) (by simpa using HP.out.bQ.set 1 (.int .i64 (s.ops + 1 : Nat))) (by have := HP.out.wW; rw [EO.out] at this; exact this) HP.out.tW (fun k hk => heap_setCell_other _ _ k _ hk) isBytes_nil
      simpa [St.take, EO.out] using this
    · exact step_set tag base o w HP.out.tQ.2 (by have := HP.out.tQ.1; omega) 1 _
  | cons c l =>
    rcases h.wW.2 with ⟨_, hz⟩ | ⟨g, oo, cap, cs, hv, hb, hn, hcm, hcap, hx⟩
    · rw [hs] at hz; simp at hz
    have EO : Hid (s.outs = c :: l) := hs
    have hlen : s.outs.length = l.length + 1 := by rw [hs]; rfl
    rw [hlen] at hn hx hout
    rw [hv, hlen] at h0
    have hc0 : w.cell? ⟨g, oo, none⟩ = some (.int .u8 c) := by
      have := hb.range oo ((l.length + 1) * 1) 0 (.int .u8 c) (by rw [hx, hs]; rfl)
      simpa using this
    have hgQ : ¬ p.Q = g := fun e => by have a := h.tQ.1; have b := (h.tW g (by rw [hv]; rfl)).1; rw [e] at a; omega
    have hlt : g < w.heap.size := hb.lt
    have HX : Hid ((cs.drop oo).take ((l.length + 1) * 1) = bytesV s.outs) := hx
    have HV : Hid (p.wv = .slice (some ⟨g, oo, none⟩) s.outs.length cap) := hv
    have HB : Hid (Blk w g cs) := hb
    clear hx hv hb h hs hlen
    unfold maxLen at hcm
    by_cases hc1 : cap = 1
    · have hl0 : l.length = 0 := by omega
      subst hc1
      have HL : Hid (l = []) := List.eq_nil_of_length_eq_zero hl0
      rw [hl0] at h0
      simp only [Nat.zero_add] at h0
      go_enter Tryz.func67, Tryz.ntmps67
      go_wp2
      go_ret
      refine ⟨by simp [St.out, EO.out], { p with wv := .slice (some ⟨g, oo, none⟩) 0 0 }, rfl, ?_, ?_⟩
      · have := HP.out.queue (w' := (w.setCell ⟨p.Q, 1, none⟩ (.int .i64 (s.ops + 1 : Nat))).setCell ⟨p.Q, 0, none⟩ (.slice (some ⟨g, oo, none⟩) 0 0)) (.slice (some ⟨g, oo, none⟩) 0 0) [] (s.ops + 1) (blk_q HP.out.bQ)
          ⟨by simp, .inr ⟨g, oo, 0, cs, rfl, HB.out, Nat.le_refl _, by decide, by omega, by simp⟩⟩ (fun k hk => HP.out.tW k (by rw [HV.out]; exact hk)) (fun k hk => by rw [heap_setCell_other _ _ k _ hk, heap_setCell_other _ _ k _ hk]) isBytes_nil
        simpa [St.take, EO.out, HL.out] using this
      · exact (step_set tag base o w HP.out.tQ.2 (by have := HP.out.tQ.1; omega) 1 _).set HP.out.tQ.2 (by have := HP.out.tQ.1; omega) 0 _
    · go_enter Tryz.func67, Tryz.ntmps67
      go_wp2
      go_ret
      refine ⟨by simp [St.out, EO.out], { p with wv := .slice (some ⟨g, oo + 1, none⟩) l.length (cap - 1) }, rfl, ?_, ?_⟩
      · have hob := HP.out.ok.ob
        rw [EO.out] at hob
        have := HP.out.queue (w' := (w.setCell ⟨p.Q, 1, none⟩ (.int .i64 (s.ops + 1 : Nat))).setCell ⟨p.Q, 0, none⟩ (.slice (some ⟨g, oo + 1, none⟩) l.length (cap - 1))) (.slice (some ⟨g, oo + 1, none⟩) l.length (cap - 1)) l (s.ops + 1) (blk_q HP.out.bQ)
          ⟨by simp, .inr ⟨g, oo + 1, cap - 1, cs, rfl, HB.out, by omega, by unfold maxLen; omega, by omega, by
            have := HX.out
            rw [EO.out] at this
            have e : ((cs.drop oo).take (l.length + 1)).drop 1 = bytesV l := by simpa using congrArg (List.drop 1) this
            rw [List.drop_take, List.drop_drop] at e
            simpa using e⟩⟩ (fun k hk => HP.out.tW k (by rw [HV.out]; exact hk)) (fun k hk => by rw [heap_setCell_other _ _ k _ hk, heap_setCell_other _ _ k _ hk]) (fun z hz => hob z (by simp [hz]))
        simpa [St.take, EO.out] using this
      · exact (step_set tag base o w HP.out.tQ.2 (by have := HP.out.tQ.1; omega) 1 _).set HP.out.tQ.2 (by have := HP.out.tQ.1; omega) 0 _

end Go.Proofs.YtafkkehcacdodaaGreat
