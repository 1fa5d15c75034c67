/- The contracts of the reader's segment that is none, and of its fault. -/
import Derived.Test.YtdejjokgchbgnaaFrameSegment
set_option maxRecDepth 100000
namespace Go.Proofs.Ytdejjokgchbgnaa
open Go.RowKit
attribute [local go_sem ↓] Go.wp_at_zero Go.wp_at_succ

set_option maxHeartbeats 4000000 in
theorem segment_no (p : Dg) (ao ab : Option Addr) (no co b off nb cb : Nat) (w : World) (k : p.Ok) (ha : ab = some ⟨b, off, none⟩ ∨ p.body = []) (hA : At w b off nb cb p.body) (hl : nb ≤ 70000) (g : ¬ parseT p.src p.dst p.body = 0) :
    Calls Try.prog 44 #[ipV p (.slice ao no co) (.slice ab nb cb)] w fun e w' =>
      e = .returned (.tuple #[zeroFV, .int .i64 (whyI (parseT p.src p.dst p.body))]) ∧ Below w.heap.size w w' := by
  have hb1 := below_alloc w (.cells (ipC p (.slice ao no co) (.slice ab nb cb)) 65)
  have hb2 := below_alloc (w.alloc (.cells (ipC p (.slice ao no co) (.slice ab nb cb)) 65)) (.cells zeroFC 37)
  have hu := tparse_no p.src p.dst ab b off nb cb p.body _ k.src0 k.src1 k.dst0 k.dst1 ha (hA.later (below_trans hb1 hb2)) hl g
  have hne : (parseT p.src p.dst p.body != 0) = true := by rw [bne_iff_ne]; exact g
  clear hA g
  go_enter Try.func44, Try.ntmps44
  go_wp2_with fail
  refine hu.mono ?_
  rintro e w3 ⟨rfl, hb3⟩
  have F3 := fc_new (n := w.heap.size + 1) (by simp) hb3
  have hs3 := hb3.size
  simp only [World.size_alloc] at hs3
  have bel3 := below_trans (below_trans hb1 hb2) hb3
  clear hu hb1 hb2 hb3
  go_wp2_with fail
  refine (whyOf_any _ _).mono ?_
  rintro e w4 ⟨rfl, rfl⟩
  have F4 := F3.later (by omega) (below_alloc w3 (.cells (pcC Pc.zero (.slice none 0 0) (.slice none 0 0)) 69))
  have bel4 := below_trans bel3 (below_alloc w3 (.cells (pcC Pc.zero (.slice none 0 0) (.slice none 0 0)) 69))
  go_wp2_with (refine store_fr rfl (.tmp 2) (.tmp 22) rfl (w.heap.size + 1) zeroFC rfl rfl (F4.there rfl) rfl oneZ ?_)
  refine bodyPost_ret (results_fr2 rfl _ _ (w.heap.size + 1) _ rfl (range_set zeroFC.toList rfl (F4.there rfl)) rfl) rfl ?_
  exact ⟨rfl, setCells_below _ _ _ _ _ (by omega) bel4⟩

set_option maxHeartbeats 4000000 in
theorem fault_no (p : Dg) (ao ab : Option Addr) (no co nb cb : Nat) (a : Option Addr) (b off len cap : Nat) (l : List Int) (w : World) (ha : a = some ⟨b, off, none⟩ ∨ l = []) (hA : At w b off len cap l) (h : quoteO l = none) :
    Calls Try.prog 64 #[ipV p (.slice ao no co) (.slice ab nb cb), .slice a len cap] w fun e w' => e = .returned (.tuple #[zeroFV, .int .i64 1]) ∧ Below w.heap.size w w' := by
  have hb1 := below_alloc w (.cells (ipC p (.slice ao no co) (.slice ab nb cb)) 65)
  have hb2 := below_alloc (w.alloc (.cells (ipC p (.slice ao no co) (.slice ab nb cb)) 65)) (.cells zeroFC 37)
  have hu := quote_no a b off len cap l _ ha (hA.later (below_trans hb1 hb2)) h
  clear hA
  go_enter Try.func64, Try.ntmps64
  go_wp2_with fail
  refine hu.mono ?_
  rintro e w3 ⟨rfl, hb3⟩
  have F3 := fc_new (n := w.heap.size + 1) (by simp) hb3
  have hs3 := hb3.size
  simp only [World.size_alloc] at hs3
  have bel3 := below_trans (below_trans hb1 hb2) hb3
  have F4 := F3.later (by omega) (below_alloc w3 (.cells (inC Inn.zero) 35))
  have bel4 := below_trans bel3 (below_alloc w3 (.cells (inC Inn.zero) 35))
  clear hu hb1 hb2 hb3 F3 bel3
  go_wp2_with (refine store_fr rfl (.tmp 4) (.tmp 16) rfl (w.heap.size + 1) zeroFC rfl rfl (F4.there rfl) rfl oneZ ?_)
  refine bodyPost_ret (results_fr2 rfl _ _ (w.heap.size + 1) _ rfl (range_set zeroFC.toList rfl (F4.there rfl)) rfl) rfl ?_
  exact ⟨rfl, setCells_below _ _ _ _ _ (by omega) bel4⟩

theorem set_inner (p : Dg) (vo vb : Value) (k : Int) (x : Inn) (C : Array Value) (hC : C = frC p vo vb ⟨0, k, 0, 0, 0, Inn.zero⟩) (h1 : 17 < C.size) (h2 : 18 < (C.set 17 (.int .i64 x.proto) h1).size) (h3 : 19 < ((C.set 17 (.int .i64 x.proto) h1).set 18 (.int .u32 x.sa) h2).size) (h4 : 20 < (((C.set 17 (.int .i64 x.proto) h1).set 18 (.int .u32 x.sa) h2).set 19 (.int .i64 x.sp) h3).size) (h5 : 21 < ((((C.set 17 (.int .i64 x.proto) h1).set 18 (.int .u32 x.sa) h2).set 19 (.int .i64 x.sp) h3).set 20 (.int .u32 x.da) h4).size) :
    (((((C.set 17 (.int .i64 x.proto) h1).set 18 (.int .u32 x.sa) h2).set 19 (.int .i64 x.sp) h3).set 20 (.int .u32 x.da) h4).set 21 (.int .i64 x.dp) h5) = frC p vo vb ⟨0, k, 0, 0, 0, x⟩ := by
  subst hC
  apply Array.ext'
  simp only [Array.toList_set]
  rfl

set_option maxHeartbeats 4000000 in
theorem fault_ok (p : Dg) (ao ab : Option Addr) (no co nb cb : Nat) (b off len cap : Nat) (l : List Int) (x : Inn) (w : World) (hA : At w b off len cap l) (h : quoteO l = some x) :
    Calls Try.prog 64 #[ipV p (.slice ao no co) (.slice ab nb cb), .slice (some ⟨b, off, none⟩) len cap] w fun e w' =>
      e = .returned (.tuple #[frV p (.slice ao no co) (.slice ab nb cb) ⟨0, 5, 0, 0, 0, x⟩, .int .i64 0]) ∧ Below w.heap.size w w' := by
  have hb1 := below_alloc w (.cells (ipC p (.slice ao no co) (.slice ab nb cb)) 65)
  have hb2 := below_alloc (w.alloc (.cells (ipC p (.slice ao no co) (.slice ab nb cb)) 65)) (.cells zeroFC 37)
  have hu := quote_ok b off len cap l x _ (hA.later (below_trans hb1 hb2)) h
  clear hA
  go_enter Try.func64, Try.ntmps64
  go_wp2_with fail
  refine hu.mono ?_
  rintro e w3 ⟨rfl, hb3⟩
  have F3 := fc_new (n := w.heap.size + 1) (by simp) hb3
  obtain ⟨c0, c1, c2, c3, c4, c5, c6, c7, c8, c9, c10⟩ := ip_box (below_trans hb2 hb3)
  have hs3 := hb3.size
  simp only [World.size_alloc] at hs3
  have bel3 := below_trans (below_trans hb1 hb2) hb3
  have q1 : w.heap.size < w3.heap.size := by omega
  have q2 : ¬ (w.heap.size = w3.heap.size) := by omega
  clear hu hb1 hb2 hb3
  go_wp2_with fail
  refine (frame_let p ao ab no nb co cb 5 0 0 _).mono ?_
  rintro e w4 ⟨C, rfl, HC, hb4⟩
  have hb34 := below_trans (below_alloc _ _) hb4
  have F4 := F3.later (by omega) hb34
  have bel4 := below_trans bel3 hb34
  have d0 : w4.cell? ⟨w3.heap.size, 0, none⟩ = some (.int .i64 x.proto) := box_cell hb4 0 _ rfl
  have d1 : w4.cell? ⟨w3.heap.size, 1, none⟩ = some (.int .u32 x.sa) := box_cell hb4 1 _ rfl
  have d2 : w4.cell? ⟨w3.heap.size, 2, none⟩ = some (.int .i64 x.sp) := box_cell hb4 2 _ rfl
  have d3 : w4.cell? ⟨w3.heap.size, 3, none⟩ = some (.int .u32 x.da) := box_cell hb4 3 _ rfl
  have d4 : w4.cell? ⟨w3.heap.size, 4, none⟩ = some (.int .i64 x.dp) := box_cell hb4 4 _ rfl
  have hs4 := hb4.size
  simp only [World.size_alloc] at hs4
  have hC22 : C.size = 22 := by rw [HC.out]; rfl
  obtain ⟨W5, F5, hb5, hst5⟩ := fr_var w4 C hC22 (by rw [HC.out]; exact oneFr _ _ _ _ _ _ _ _)
  have d0 := cell_later hb5 d0
  have d1 := cell_later hb5 d1
  have d2 := cell_later hb5 d2
  have d3 := cell_later hb5 d3
  have d4 := cell_later hb5 d4
  have e17 : W5.cell? ⟨w4.heap.size, 17, none⟩ = some (.int .i64 0) := F5.c 17 _ (by rw [HC.out]; rfl)
  have e18 : W5.cell? ⟨w4.heap.size, 18, none⟩ = some (.int .u32 0) := F5.c 18 _ (by rw [HC.out]; rfl)
  have e19 : W5.cell? ⟨w4.heap.size, 19, none⟩ = some (.int .i64 0) := F5.c 19 _ (by rw [HC.out]; rfl)
  have e20 : W5.cell? ⟨w4.heap.size, 20, none⟩ = some (.int .u32 0) := F5.c 20 _ (by rw [HC.out]; rfl)
  have e21 : W5.cell? ⟨w4.heap.size, 21, none⟩ = some (.int .i64 0) := F5.c 21 _ (by rw [HC.out]; rfl)
  have fz := F5.f
  have G1 := F5.set 17 (by rw [hC22]; decide) (.int .i64 x.proto)
  have G2 := G1.set 18 (by rw [Array.size_set, hC22]; decide) (.int .u32 x.sa)
  have G3 := G2.set 19 (by simp only [Array.size_set, hC22]; decide) (.int .i64 x.sp)
  have G4 := G3.set 20 (by simp only [Array.size_set, hC22]; decide) (.int .u32 x.da)
  have G5 := G4.set 21 (by simp only [Array.size_set, hC22]; decide) (.int .i64 x.dp)
  obtain ⟨W6, hW6⟩ : ∃ W6, W6 = (((((W5.setCell ⟨w4.heap.size, 17, none⟩ (.int .i64 x.proto)).setCell ⟨w4.heap.size, 18, none⟩ (.int .u32 x.sa)).setCell ⟨w4.heap.size, 19, none⟩ (.int .i64 x.sp)).setCell ⟨w4.heap.size, 20, none⟩ (.int .u32 x.da)).setCell ⟨w4.heap.size, 21, none⟩ (.int .i64 x.dp)) := ⟨_, rfl⟩
  obtain ⟨C', HC', F6⟩ : ∃ C', Hid (C' = frC p (.slice ao no co) (.slice ab nb cb) ⟨0, 5, 0, 0, 0, x⟩) ∧ FC W6 w4.heap.size C' := by
    rw [hW6]
    exact ⟨_, set_inner p _ _ 5 x C HC.out _ _ _ _ _, G5⟩
  have hC'22 : C'.size = 22 := by rw [HC'.out]; rfl
  have hle : w.heap.size ≤ w4.heap.size := by omega
  have hnq : ¬ w4.heap.size = w.heap.size + 1 := by omega
  have F7 : FC W6 (w.heap.size + 1) zeroFC := by rw [hW6]; exact (((((F4.later (by omega) hb5).far hnq).far hnq).far hnq).far hnq).far hnq
  have bel6 : Below w.heap.size w W6 := by rw [hW6]; exact ((((((below_trans bel4 hb5).setCell hle _).setCell hle _).setCell hle _).setCell hle _).setCell hle _)
  have hst7 := run_store_fr C' (F7.there rfl) hC'22 (by rw [HC'.out]; exact oneFr _ _ _ _ _ _ _ _)
  have hr7 := range_set C'.toList (by simpa using hC'22) (F7.there rfl)
  have bel7 := setCells_below (w.heap.size + 1) C'.toList 0 _ w.heap.size (by omega) bel6
  have q5 : ¬ (w4.heap.size = w3.heap.size) := by omega
  clear c0 c1 c2 c3 c4 c5 c6 c7 c8 c9 c10 F3 bel3 hb34 hb4 F4 bel4 F5 hb5 F7 bel6 G1 G2 G3 G4 G5
  have HW6 : Hid ((((((W5.setCell ⟨w4.heap.size, 17, none⟩ (.int .i64 x.proto)).setCell ⟨w4.heap.size, 18, none⟩ (.int .u32 x.sa)).setCell ⟨w4.heap.size, 19, none⟩ (.int .i64 x.sp)).setCell ⟨w4.heap.size, 20, none⟩ (.int .u32 x.da)).setCell ⟨w4.heap.size, 21, none⟩ (.int .i64 x.dp)) = W6) := hW6.symm
  clear hW6
  go_wp2_with (rw [HW6.out]; refine load_let rfl (.tmp 8) rfl w4.heap.size rfl C' F6 hC'22 ?_)
  refine bodyPost_ret (results_let rfl _ _ (w.heap.size + 1) C' rfl hr7 hC'22) rfl ?_
  exact ⟨by rw [HC'.out]; rfl, bel7⟩
end Go.Proofs.Ytdejjokgchbgnaa
