/- The contracts of the reader's segment and fault. -/
import Derived.Test.YtdejjokgchbgnaaFrameRead
set_option maxRecDepth 100000
namespace Go.Proofs.Ytdejjokgchbgnaa
open Go.RowKit
attribute [local go_sem ↓] Go.wp_at_zero Go.wp_at_succ

/-- frame, its cells a letter. -/
theorem frame_let (p : Dg) (ao ab : Option Addr) (no nb co cb : Nat) (k f t : Int) (w : World) :
    Calls Try.prog 60 #[ipV p (.slice ao no co) (.slice ab nb cb), .int .i64 k, .int .i64 f, .int .i64 t] w fun e w' => ∃ C : Array Value, e = .returned (.agg C) ∧ Hid (C = frC p (.slice ao no co) (.slice ab nb cb) ⟨0, k, f, t, 0, Inn.zero⟩) ∧ Below w.heap.size w w' := by
  refine (frame_any p ao ab no nb co cb k f t w).mono ?_
  rintro e w' ⟨rfl, hb⟩
  exact ⟨_, rfl, (rfl : frC p (.slice ao no co) (.slice ab nb cb) ⟨0, k, f, t, 0, Inn.zero⟩ = _), hb⟩

/-- A frame in a variable of its own. -/
theorem fr_var (w4 : World) (C : Array Value) (hC : C.size = 22) (h1 : C.all (·.oneCell') = true) : ∃ W5, FC W5 w4.heap.size C ∧ Below w4.heap.size w4 W5 ∧ (storeCells ⟨w4.heap.size, 0, none⟩ C.toList).run Try.prog (w4.alloc (.cells zeroFC 37)) = .ok () W5 :=
  ⟨_, FC.laid (C := zeroFC) (fc_new (w := w4) rfl (Below.refl _ _)) rfl C hC, setCells_below _ _ _ _ _ (Nat.le_refl _) (below_alloc _ _), run_store_fr C ((fc_new (w := w4) rfl (Below.refl _ _)).there rfl) hC h1⟩

/-- The load of a whole frame whose cells are a letter. -/
theorem load_let {ops : Array Oper} {rest : List Oper} {op : Oper} {a : Act} {w : World} {Q : Exit → Act → World → Prop} (hgd : op.guard = none) (x : Operand) (ho : op.op = .load 37 x)
    (n : Nat) (hx : a.eval x = .pointer (some ⟨n, 0, none⟩)) (C : Array Value) (hF : FC w n C) (hL : C.size = 22)
    (h : wpList Try.prog ops Q rest (a.put op.dst (.agg C)) w) : wpList Try.prog ops Q (op :: rest) a w := by
  refine load_step hgd x ho n hx C.toList hF.range (by simpa using hL) ?_
  rw [Array.toArray_toList]
  exact h

theorem results_let {fn : Func} {t u : Tmp} (h : fn.results = #[.cell t 37, .tmp u]) (tmps : Array Value) (W : World) (n : Nat) (C : Array Value) (ht : tmps.getD t undef = .pointer (some ⟨n, 0, none⟩)) (hr : W.rangeAt n 0 C.toList) (hL : C.size = 22) :
    (results fn tmps).run Try.prog W = .ok (.tuple #[.agg C, tmps.getD u undef]) W := by
  have := results_fr2 h tmps W n C.toList ht hr (by simpa using hL)
  rwa [Array.toArray_toList] at this

set_option maxHeartbeats 4000000 in
theorem segment_ok (p : Dg) (ao : Option Addr) (no co b off nb cb : Nat) (w : World) (k : p.Ok) (hA : At w b off nb cb p.body) (hl : nb ≤ 70000) (g : TGood p.src p.dst p.body) :
    Calls Try.prog 44 #[ipV p (.slice ao no co) (.slice (some ⟨b, off, none⟩) nb cb)] w fun e w' =>
      e = .returned (.tuple #[frV p (.slice ao no co) (.slice (some ⟨b, off, none⟩) nb cb) ⟨0, 2, w2 p.body 0, w2 p.body 2, b1 p.body 13, Inn.zero⟩, .int .i64 0]) ∧ Below w.heap.size w w' := by
  have hb1 := below_alloc w (.cells (ipC p (.slice ao no co) (.slice (some ⟨b, off, none⟩) nb cb)) 65)
  have hb2 := below_alloc (w.alloc (.cells (ipC p (.slice ao no co) (.slice (some ⟨b, off, none⟩) nb cb)) 65)) (.cells zeroFC 37)
  have hu := tparse_ok p.src p.dst b off nb cb p.body _ k.src0 k.src1 k.dst0 k.dst1 (hA.later (below_trans hb1 hb2)) hl g
  clear hA g
  go_enter Try.func44, Try.ntmps44
  go_wp2_with fail
  refine hu.mono ?_
  rintro e w3 ⟨a1, k1, a2, k2, rfl, -, -, hb3⟩
  have F3 := fc_new (n := w.heap.size + 1) (by simp) hb3
  obtain ⟨c0, c1, c2, c3, c4, c5, c6, c7, c8, c9, c10⟩ := ip_box (below_trans hb2 hb3)
  have hs3 := hb3.size
  simp only [World.size_alloc] at hs3
  have bel3 := below_trans (below_trans hb1 hb2) hb3
  have q1 : w.heap.size < w3.heap.size := by omega
  have q2 : ¬ (w.heap.size = w3.heap.size) := by omega
  clear hu hb1 hb2 hb3
  go_wp2_with fail
  refine (frame_let p ao (some ⟨b, off, none⟩) no nb co cb 2 (w2 p.body 0) (w2 p.body 2) _).mono ?_
  rintro e w4 ⟨C, rfl, HC, hb4⟩
  have hb34 := below_trans (below_alloc _ _) hb4
  have F4 := F3.later (by omega) hb34
  have bel4 := below_trans bel3 hb34
  have d4 : w4.cell? ⟨w3.heap.size, 4, none⟩ = some (.int .i64 (b1 p.body 13)) := box_cell hb4 4 _ rfl
  have hs4 := hb4.size
  simp only [World.size_alloc] at hs4
  have hC22 : C.size = 22 := by rw [HC.out]; rfl
  obtain ⟨W5, F5, hb5, hst5⟩ := fr_var w4 C hC22 (by rw [HC.out]; exact oneFr _ _ _ _ _ _ _ _)
  have d5 := cell_later hb5 d4
  have c16 : W5.cell? ⟨w4.heap.size, 16, none⟩ = some (.int .i64 0) := F5.c 16 _ (by rw [HC.out]; rfl)
  have f16 := F5.f 16
  obtain ⟨C', hC'⟩ : ∃ C', C' = C.set 16 (.int .i64 (b1 p.body 13)) (by omega) := ⟨_, rfl⟩
  have F6 : FC (W5.setCell ⟨w4.heap.size, 16, none⟩ (.int .i64 (b1 p.body 13))) w4.heap.size C' := by rw [hC']; exact F5.set 16 (by omega) _
  have HC' : Hid (C' = frC p (.slice ao no co) (.slice (some ⟨b, off, none⟩) nb cb) ⟨0, 2, w2 p.body 0, w2 p.body 2, b1 p.body 13, Inn.zero⟩) := by
    show C' = _
    subst hC'
    have := HC.out
    subst this
    rfl
  have hC'22 : C'.size = 22 := by rw [HC'.out]; rfl
  have F7 : FC (W5.setCell ⟨w4.heap.size, 16, none⟩ (.int .i64 (b1 p.body 13))) (w.heap.size + 1) zeroFC := (F4.later (by omega) hb5).far (by omega)
  have bel6 : Below w.heap.size w (W5.setCell ⟨w4.heap.size, 16, none⟩ (.int .i64 (b1 p.body 13))) := (below_trans bel4 hb5).setCell (by show w.heap.size ≤ w4.heap.size; omega) _
  have hst7 := run_store_fr C' (F7.there rfl) hC'22 (by rw [HC'.out]; exact oneFr _ _ _ _ _ _ _ _)
  have hr7 := range_set C'.toList (by simpa using hC'22) (F7.there rfl)
  have bel7 := setCells_below (w.heap.size + 1) C'.toList 0 _ w.heap.size (by omega) bel6
  clear c0 c1 c2 c3 c4 c5 c6 c7 c8 c9 c10 F3 bel3 hb34 hb4 F4 bel4 d4 F5 hb5 hC' F7 bel6
  go_wp2_with (refine load_let rfl (.tmp 6) rfl w4.heap.size rfl C' F6 hC'22 ?_)
  refine bodyPost_ret (results_let rfl _ _ (w.heap.size + 1) C' rfl hr7 hC'22) rfl ?_
  exact ⟨by rw [HC'.out]; rfl, bel7⟩
end Go.Proofs.Ytdejjokgchbgnaa
