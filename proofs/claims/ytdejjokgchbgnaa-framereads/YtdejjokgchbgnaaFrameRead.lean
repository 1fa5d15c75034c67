/- The contract of Read, over the contract of the way that its protocol is read. -/
import Derived.Test.YtdejjokgchbgnaaFrameWay
set_option maxRecDepth 100000
namespace Go.Proofs.Ytdejjokgchbgnaa
open Go.RowKit
attribute [local go_sem ↓] Go.wp_at_zero Go.wp_at_succ

/-- The store of a whole frame, as one step of a region that draws its order. -/
theorem step_store_fr {ops : Array Oper} {o : Oper} {a : Act} {w : World} {K : Act → World → Prop} {Q : Exit → Act → World → Prop} {E : Prop} (hgd : o.guard = none) (x y : Operand) (ho : o.op = .store 37 x y)
    (n : Nat) (C : Array Value) (hx : a.eval x = .pointer (some ⟨n, 0, none⟩)) (hy : a.eval y = .agg C) (ht : w.there n 0 22) (hC : C.size = 22) (h1 : C.all (·.oneCell') = true)
    (h : K (a.put o.dst undef) (w.setCells n 0 C.toList)) : if Region.wanted o (yielded ops a.tmps) = true then Oper.wp Try.prog o a w K Q else E := by
  have hw : Region.wanted o (yielded ops a.tmps) = true := by simp [Region.wanted, hgd]
  rw [if_pos hw]
  exact wp_store_mid 37 x y ho n 0 C hx hy (by rw [hC]; exact ht) (by rw [hC]; exact infoF) h1 h

theorem run_store_fr {w : World} {n : Nat} (C : Array Value) (ht : w.there n 0 22) (hC : C.size = 22) (h1 : C.all (·.oneCell') = true) :
    (storeCells ⟨n, 0, none⟩ C.toList).run Try.prog w = .ok () (w.setCells n 0 C.toList) := by
  have := run_storeCells_cells (P := Try.prog) n 0 C.toList 0 w (fun j hj => by simpa using (ht j (by rw [← hC]; simpa using hj)).1) (fun j hj => by simpa using (ht j (by rw [← hC]; simpa using hj)).2)
    (fun v hv => (Array.all_eq_true_iff_forall_mem.1 h1) v (by simpa using hv))
  simpa only [Nat.add_zero] using this

theorem far_set (n m : Nat) (hn : n ≠ m) (vs : List Value) : ∀ (k j : Nat) (w : World), (w.setCells n k vs).cell? ⟨m, j, none⟩ = w.cell? ⟨m, j, none⟩ := by
  induction vs with
  | nil => intro k j w; rfl
  | cons v vs ih => intro k j w; rw [World.setCells, ih]; exact World.cell?_setCell_far w ⟨n, k, none⟩ ⟨m, j, none⟩ v hn

theorem part_no (p : Dg) (h : partB p = false) : p.mf = false ∧ p.off = 0 := by
  unfold partB at h
  simp at h
  exact h

set_option maxHeartbeats 4000000 in
theorem read_17 (b off len cap : Nat) (l : List Int) (w : World) (hA : At w b off len cap l) (g : Good l) (hp : partB (dgOf l) = false) (hE : wayF (dgOf l).proto = 43) (C : Option Addr → Nat → Option Addr → Nat → Array Value) (y : Int)
    (hC : ∀ a1 k1 a2 k2, (C a1 k1 a2 k2).size = 22) (h1 : ∀ a1 k1 a2 k2, (C a1 k1 a2 k2).all (·.oneCell') = true)
    (hm : ∀ a1 k1 a2 k2 W, Bts W (.slice a1 (dgOf l).opts.length k1) (dgOf l).opts → Bts W (.slice a2 (dgOf l).body.length k2) (dgOf l).body →
      Calls Try.prog 43 #[ipV (dgOf l) (.slice a1 (dgOf l).opts.length k1) (.slice a2 (dgOf l).body.length k2)] W fun e w' => e = .returned (.tuple #[.agg (C a1 k1 a2 k2), .int .i64 y]) ∧ Below W.heap.size W w') :
    Calls Try.prog 12 #[.slice (some ⟨b, off, none⟩) len cap] w fun e w' =>
      ∃ a1 k1 a2 k2, e = .returned (.tuple #[.agg (C a1 k1 a2 k2), .int .i64 y]) ∧ Bts w' (.slice a1 (dgOf l).opts.length k1) (dgOf l).opts ∧ Bts w' (.slice a2 (dgOf l).body.length k2) (dgOf l).body ∧ Below w.heap.size w w' := by
  obtain ⟨hmf, hoff⟩ := part_no _ hp
  have hB1 : Hid (isBytes (dgOf l).opts) := isBytes_part l hA.bytes _ _
  have hB2 : Hid (isBytes (dgOf l).body) := isBytes_part l hA.bytes _ _
  have hpa := parse_own b off len cap l _ (hA.later (below_alloc w (.cells zeroFC 37))) g
  rcases hpd : dgOf l with ⟨tos, id, df, mf, of, ttl, pr, src, dst, opts, body⟩
  rw [hpd] at hpa hm hmf hoff hB1 hB2 hE
  simp only at hmf hoff hE
  subst hmf hoff
  have hwy := fun W => way_any pr W
  rw [hE] at hwy
  clear hA g hp hpd hE
  go_enter Try.func12, Try.ntmps12
  go_wp2_with fail
  refine hpa.mono ?_
  rintro e w1 ⟨a1, k1, a2, k2, rfl, ho1, ho2, hb1⟩
  have F1 := fc_new (n := w.heap.size) rfl hb1
  have hs1 := hb1.size
  simp only [World.size_alloc] at hs1 ho1 ho2
  have bel1 := below_trans (below_alloc _ _) hb1
  have hbp := below_alloc w1 (.cells (ipC ⟨tos, id, df, false, 0, ttl, pr, src, dst, opts, body⟩ (.slice a1 opts.length k1) (.slice a2 body.length k2)) 29)
  have bx := ip_box (w := w1) (p := ⟨tos, id, df, false, 0, ttl, pr, src, dst, opts, body⟩) (vo := .slice a1 opts.length k1) (vb := .slice a2 body.length k2) (t := 29) (Below.refl _ _)
  have hbd : Below w1.heap.size w1 (w1.alloc (.cells (ipC ⟨tos, id, df, false, 0, ttl, pr, src, dst, opts, body⟩ (.slice a1 opts.length k1) (.slice a2 body.length k2)) 29)).drew := below_drewN hbp 1
  have hBo := (ho1.bts hB1.out).later hbd
  have hBb := (ho2.bts hB2.out).later hbd
  have hmw := hm a1 k1 a2 k2 _ hBo hBb
  have HO : Hid (Owns w1 (w.heap.size + 1) (.slice a1 opts.length k1) opts ∧ Owns w1 (w.heap.size + 1) (.slice a2 body.length k2) body) := ⟨ho1, ho2⟩
  have HB : Hid (Below w1.heap.size w1 (w1.alloc (.cells (ipC ⟨tos, id, df, false, 0, ttl, pr, src, dst, opts, body⟩ (.slice a1 opts.length k1) (.slice a2 body.length k2)) 29)).drew) := hbd
  have HE : Hid (Below w.heap.size w w1) := bel1
  have HF : Hid (FC w1 w.heap.size zeroFC) := F1
  have hn1 : w.heap.size ≠ w1.heap.size := by omega
  clear hpa hb1 hm hbp hBo hBb ho1 ho2 F1 bel1 hbd
  go_wp2_with fail
  go_region_held3 (fun w' => w'.cell? ⟨w1.heap.size, 0, none⟩ = some (.int .i64 tos) ∧ w'.cell? ⟨w1.heap.size, 1, none⟩ = some (.int .i64 id) ∧ w'.cell? ⟨w1.heap.size, 2, none⟩ = some (.bool df) ∧ w'.cell? ⟨w1.heap.size, 3, none⟩ = some (.bool false) ∧ w'.cell? ⟨w1.heap.size, 4, none⟩ = some (.int .i64 0) ∧ w'.cell? ⟨w1.heap.size, 5, none⟩ = some (.int .i64 ttl) ∧ w'.cell? ⟨w1.heap.size, 6, none⟩ = some (.int .i64 pr) ∧ w'.cell? ⟨w1.heap.size, 7, none⟩ = some (.int .u32 src) ∧ w'.cell? ⟨w1.heap.size, 8, none⟩ = some (.int .u32 dst) ∧ w'.cell? ⟨w1.heap.size, 9, none⟩ = some (.slice a1 opts.length k1) ∧ w'.cell? ⟨w1.heap.size, 10, none⟩ = some (.slice a2 body.length k2)) (first | exact bx | exact ip_box (below_drewN (Below.refl _ _) 1) | (exact ip_box hb23) | (simp only [far_set _ _ hn1]; exact ip_box hb23) | go_keep)
    (first
      | (go_at_call 28; refine (hwy _).mono ?_; rintro e w' ⟨rfl, rfl⟩)
      | (go_at_call 43; refine hmw.mono ?_; rintro e w3 ⟨rfl, hb3⟩; have hb23 := below_trans (below_drewN (Below.refl (w1.alloc (.cells (ipC ⟨tos, id, df, false, 0, ttl, pr, src, dst, opts, body⟩ (.slice a1 opts.length k1) (.slice a2 body.length k2)) 29)).heap.size (w1.alloc (.cells (ipC ⟨tos, id, df, false, 0, ttl, pr, src, dst, opts, body⟩ (.slice a1 opts.length k1) (.slice a2 body.length k2)) 29))) 1) hb3; have hb13 := below_trans HB.out hb3; have F3 := HF.out.later (by omega) hb13; have hst := run_store_fr (C a1 k1 a2 k2) (F3.there rfl) (hC _ _ _ _) (h1 _ _ _ _)))
  go_wp2
  refine bodyPost_ret (results_fr2 rfl _ _ w.heap.size _ rfl (range_set (C a1 k1 a2 k2).toList (by simp [hC]) (F3.there rfl)) (by simp [hC])) rfl ?_
  refine ⟨a1, k1, a2, k2, by simp, ?_, ?_, setCells_below _ _ _ _ _ (Nat.le_refl _) (below_trans HE.out hb13)⟩
  · exact (setCells_owns _ _ _ _ (Nat.lt_succ_self _) _ _ _ (HO.out.1.later hb13)).bts hB1.out
  · exact (setCells_owns _ _ _ _ (Nat.lt_succ_self _) _ _ _ (HO.out.2.later hb13)).bts hB2.out

set_option maxHeartbeats 4000000 in
theorem read_6 (b off len cap : Nat) (l : List Int) (w : World) (hA : At w b off len cap l) (g : Good l) (hp : partB (dgOf l) = false) (hE : wayF (dgOf l).proto = 44) (C : Option Addr → Nat → Option Addr → Nat → Array Value) (y : Int)
    (hC : ∀ a1 k1 a2 k2, (C a1 k1 a2 k2).size = 22) (h1 : ∀ a1 k1 a2 k2, (C a1 k1 a2 k2).all (·.oneCell') = true)
    (hm : ∀ a1 k1 a2 k2 W, Bts W (.slice a1 (dgOf l).opts.length k1) (dgOf l).opts → Bts W (.slice a2 (dgOf l).body.length k2) (dgOf l).body →
      Calls Try.prog 44 #[ipV (dgOf l) (.slice a1 (dgOf l).opts.length k1) (.slice a2 (dgOf l).body.length k2)] W fun e w' => e = .returned (.tuple #[.agg (C a1 k1 a2 k2), .int .i64 y]) ∧ Below W.heap.size W w') :
    Calls Try.prog 12 #[.slice (some ⟨b, off, none⟩) len cap] w fun e w' =>
      ∃ a1 k1 a2 k2, e = .returned (.tuple #[.agg (C a1 k1 a2 k2), .int .i64 y]) ∧ Bts w' (.slice a1 (dgOf l).opts.length k1) (dgOf l).opts ∧ Bts w' (.slice a2 (dgOf l).body.length k2) (dgOf l).body ∧ Below w.heap.size w w' := by
  obtain ⟨hmf, hoff⟩ := part_no _ hp
  have hB1 : Hid (isBytes (dgOf l).opts) := isBytes_part l hA.bytes _ _
  have hB2 : Hid (isBytes (dgOf l).body) := isBytes_part l hA.bytes _ _
  have hpa := parse_own b off len cap l _ (hA.later (below_alloc w (.cells zeroFC 37))) g
  rcases hpd : dgOf l with ⟨tos, id, df, mf, of, ttl, pr, src, dst, opts, body⟩
  rw [hpd] at hpa hm hmf hoff hB1 hB2 hE
  simp only at hmf hoff hE
  subst hmf hoff
  have hwy := fun W => way_any pr W
  rw [hE] at hwy
  clear hA g hp hpd hE
  go_enter Try.func12, Try.ntmps12
  go_wp2_with fail
  refine hpa.mono ?_
  rintro e w1 ⟨a1, k1, a2, k2, rfl, ho1, ho2, hb1⟩
  have F1 := fc_new (n := w.heap.size) rfl hb1
  have hs1 := hb1.size
  simp only [World.size_alloc] at hs1 ho1 ho2
  have bel1 := below_trans (below_alloc _ _) hb1
  have hbp := below_alloc w1 (.cells (ipC ⟨tos, id, df, false, 0, ttl, pr, src, dst, opts, body⟩ (.slice a1 opts.length k1) (.slice a2 body.length k2)) 29)
  have bx := ip_box (w := w1) (p := ⟨tos, id, df, false, 0, ttl, pr, src, dst, opts, body⟩) (vo := .slice a1 opts.length k1) (vb := .slice a2 body.length k2) (t := 29) (Below.refl _ _)
  have hbd : Below w1.heap.size w1 (w1.alloc (.cells (ipC ⟨tos, id, df, false, 0, ttl, pr, src, dst, opts, body⟩ (.slice a1 opts.length k1) (.slice a2 body.length k2)) 29)).drew := below_drewN hbp 1
  have hBo := (ho1.bts hB1.out).later hbd
  have hBb := (ho2.bts hB2.out).later hbd
  have hmw := hm a1 k1 a2 k2 _ hBo hBb
  have HO : Hid (Owns w1 (w.heap.size + 1) (.slice a1 opts.length k1) opts ∧ Owns w1 (w.heap.size + 1) (.slice a2 body.length k2) body) := ⟨ho1, ho2⟩
  have HB : Hid (Below w1.heap.size w1 (w1.alloc (.cells (ipC ⟨tos, id, df, false, 0, ttl, pr, src, dst, opts, body⟩ (.slice a1 opts.length k1) (.slice a2 body.length k2)) 29)).drew) := hbd
  have HE : Hid (Below w.heap.size w w1) := bel1
  have HF : Hid (FC w1 w.heap.size zeroFC) := F1
  have hn1 : w.heap.size ≠ w1.heap.size := by omega
  clear hpa hb1 hm hbp hBo hBb ho1 ho2 F1 bel1 hbd
  go_wp2_with fail
  go_region_held3 (fun w' => w'.cell? ⟨w1.heap.size, 0, none⟩ = some (.int .i64 tos) ∧ w'.cell? ⟨w1.heap.size, 1, none⟩ = some (.int .i64 id) ∧ w'.cell? ⟨w1.heap.size, 2, none⟩ = some (.bool df) ∧ w'.cell? ⟨w1.heap.size, 3, none⟩ = some (.bool false) ∧ w'.cell? ⟨w1.heap.size, 4, none⟩ = some (.int .i64 0) ∧ w'.cell? ⟨w1.heap.size, 5, none⟩ = some (.int .i64 ttl) ∧ w'.cell? ⟨w1.heap.size, 6, none⟩ = some (.int .i64 pr) ∧ w'.cell? ⟨w1.heap.size, 7, none⟩ = some (.int .u32 src) ∧ w'.cell? ⟨w1.heap.size, 8, none⟩ = some (.int .u32 dst) ∧ w'.cell? ⟨w1.heap.size, 9, none⟩ = some (.slice a1 opts.length k1) ∧ w'.cell? ⟨w1.heap.size, 10, none⟩ = some (.slice a2 body.length k2)) (first | exact bx | exact ip_box (below_drewN (Below.refl _ _) 1) | (exact ip_box hb23) | (simp only [far_set _ _ hn1]; exact ip_box hb23) | go_keep)
    (first
      | (go_at_call 28; refine (hwy _).mono ?_; rintro e w' ⟨rfl, rfl⟩)
      | (go_at_call 44; refine hmw.mono ?_; rintro e w3 ⟨rfl, hb3⟩; have hb23 := below_trans (below_drewN (Below.refl (w1.alloc (.cells (ipC ⟨tos, id, df, false, 0, ttl, pr, src, dst, opts, body⟩ (.slice a1 opts.length k1) (.slice a2 body.length k2)) 29)).heap.size (w1.alloc (.cells (ipC ⟨tos, id, df, false, 0, ttl, pr, src, dst, opts, body⟩ (.slice a1 opts.length k1) (.slice a2 body.length k2)) 29))) 1) hb3; have hb13 := below_trans HB.out hb3; have F3 := HF.out.later (by omega) hb13; have hst := run_store_fr (C a1 k1 a2 k2) (F3.there rfl) (hC _ _ _ _) (h1 _ _ _ _)))
  go_wp2
  refine bodyPost_ret (results_fr2 rfl _ _ w.heap.size _ rfl (range_set (C a1 k1 a2 k2).toList (by simp [hC]) (F3.there rfl)) (by simp [hC])) rfl ?_
  refine ⟨a1, k1, a2, k2, by simp, ?_, ?_, setCells_below _ _ _ _ _ (Nat.le_refl _) (below_trans HE.out hb13)⟩
  · exact (setCells_owns _ _ _ _ (Nat.lt_succ_self _) _ _ _ (HO.out.1.later hb13)).bts hB1.out
  · exact (setCells_owns _ _ _ _ (Nat.lt_succ_self _) _ _ _ (HO.out.2.later hb13)).bts hB2.out

set_option maxHeartbeats 4000000 in
theorem read_1 (b off len cap : Nat) (l : List Int) (w : World) (hA : At w b off len cap l) (g : Good l) (hp : partB (dgOf l) = false) (hE : wayF (dgOf l).proto = 45) (C : Option Addr → Nat → Option Addr → Nat → Array Value) (y : Int)
    (hC : ∀ a1 k1 a2 k2, (C a1 k1 a2 k2).size = 22) (h1 : ∀ a1 k1 a2 k2, (C a1 k1 a2 k2).all (·.oneCell') = true)
    (hm : ∀ a1 k1 a2 k2 W, Bts W (.slice a1 (dgOf l).opts.length k1) (dgOf l).opts → Bts W (.slice a2 (dgOf l).body.length k2) (dgOf l).body →
      Calls Try.prog 45 #[ipV (dgOf l) (.slice a1 (dgOf l).opts.length k1) (.slice a2 (dgOf l).body.length k2)] W fun e w' => e = .returned (.tuple #[.agg (C a1 k1 a2 k2), .int .i64 y]) ∧ Below W.heap.size W w') :
    Calls Try.prog 12 #[.slice (some ⟨b, off, none⟩) len cap] w fun e w' =>
      ∃ a1 k1 a2 k2, e = .returned (.tuple #[.agg (C a1 k1 a2 k2), .int .i64 y]) ∧ Bts w' (.slice a1 (dgOf l).opts.length k1) (dgOf l).opts ∧ Bts w' (.slice a2 (dgOf l).body.length k2) (dgOf l).body ∧ Below w.heap.size w w' := by
  obtain ⟨hmf, hoff⟩ := part_no _ hp
  have hB1 : Hid (isBytes (dgOf l).opts) := isBytes_part l hA.bytes _ _
  have hB2 : Hid (isBytes (dgOf l).body) := isBytes_part l hA.bytes _ _
  have hpa := parse_own b off len cap l _ (hA.later (below_alloc w (.cells zeroFC 37))) g
  rcases hpd : dgOf l with ⟨tos, id, df, mf, of, ttl, pr, src, dst, opts, body⟩
  rw [hpd] at hpa hm hmf hoff hB1 hB2 hE
  simp only at hmf hoff hE
  subst hmf hoff
  have hwy := fun W => way_any pr W
  rw [hE] at hwy
  clear hA g hp hpd hE
  go_enter Try.func12, Try.ntmps12
  go_wp2_with fail
  refine hpa.mono ?_
  rintro e w1 ⟨a1, k1, a2, k2, rfl, ho1, ho2, hb1⟩
  have F1 := fc_new (n := w.heap.size) rfl hb1
  have hs1 := hb1.size
  simp only [World.size_alloc] at hs1 ho1 ho2
  have bel1 := below_trans (below_alloc _ _) hb1
  have hbp := below_alloc w1 (.cells (ipC ⟨tos, id, df, false, 0, ttl, pr, src, dst, opts, body⟩ (.slice a1 opts.length k1) (.slice a2 body.length k2)) 29)
  have bx := ip_box (w := w1) (p := ⟨tos, id, df, false, 0, ttl, pr, src, dst, opts, body⟩) (vo := .slice a1 opts.length k1) (vb := .slice a2 body.length k2) (t := 29) (Below.refl _ _)
  have hbd : Below w1.heap.size w1 (w1.alloc (.cells (ipC ⟨tos, id, df, false, 0, ttl, pr, src, dst, opts, body⟩ (.slice a1 opts.length k1) (.slice a2 body.length k2)) 29)).drew := below_drewN hbp 1
  have hBo := (ho1.bts hB1.out).later hbd
  have hBb := (ho2.bts hB2.out).later hbd
  have hmw := hm a1 k1 a2 k2 _ hBo hBb
  have HO : Hid (Owns w1 (w.heap.size + 1) (.slice a1 opts.length k1) opts ∧ Owns w1 (w.heap.size + 1) (.slice a2 body.length k2) body) := ⟨ho1, ho2⟩
  have HB : Hid (Below w1.heap.size w1 (w1.alloc (.cells (ipC ⟨tos, id, df, false, 0, ttl, pr, src, dst, opts, body⟩ (.slice a1 opts.length k1) (.slice a2 body.length k2)) 29)).drew) := hbd
  have HE : Hid (Below w.heap.size w w1) := bel1
  have HF : Hid (FC w1 w.heap.size zeroFC) := F1
  have hn1 : w.heap.size ≠ w1.heap.size := by omega
  clear hpa hb1 hm hbp hBo hBb ho1 ho2 F1 bel1 hbd
  go_wp2_with fail
  go_region_held3 (fun w' => w'.cell? ⟨w1.heap.size, 0, none⟩ = some (.int .i64 tos) ∧ w'.cell? ⟨w1.heap.size, 1, none⟩ = some (.int .i64 id) ∧ w'.cell? ⟨w1.heap.size, 2, none⟩ = some (.bool df) ∧ w'.cell? ⟨w1.heap.size, 3, none⟩ = some (.bool false) ∧ w'.cell? ⟨w1.heap.size, 4, none⟩ = some (.int .i64 0) ∧ w'.cell? ⟨w1.heap.size, 5, none⟩ = some (.int .i64 ttl) ∧ w'.cell? ⟨w1.heap.size, 6, none⟩ = some (.int .i64 pr) ∧ w'.cell? ⟨w1.heap.size, 7, none⟩ = some (.int .u32 src) ∧ w'.cell? ⟨w1.heap.size, 8, none⟩ = some (.int .u32 dst) ∧ w'.cell? ⟨w1.heap.size, 9, none⟩ = some (.slice a1 opts.length k1) ∧ w'.cell? ⟨w1.heap.size, 10, none⟩ = some (.slice a2 body.length k2)) (first | exact bx | exact ip_box (below_drewN (Below.refl _ _) 1) | (exact ip_box hb23) | (simp only [far_set _ _ hn1]; exact ip_box hb23) | go_keep)
    (first
      | (go_at_call 28; refine (hwy _).mono ?_; rintro e w' ⟨rfl, rfl⟩)
      | (go_at_call 45; refine hmw.mono ?_; rintro e w3 ⟨rfl, hb3⟩; have hb23 := below_trans (below_drewN (Below.refl (w1.alloc (.cells (ipC ⟨tos, id, df, false, 0, ttl, pr, src, dst, opts, body⟩ (.slice a1 opts.length k1) (.slice a2 body.length k2)) 29)).heap.size (w1.alloc (.cells (ipC ⟨tos, id, df, false, 0, ttl, pr, src, dst, opts, body⟩ (.slice a1 opts.length k1) (.slice a2 body.length k2)) 29))) 1) hb3; have hb13 := below_trans HB.out hb3; have F3 := HF.out.later (by omega) hb13; have hst := run_store_fr (C a1 k1 a2 k2) (F3.there rfl) (hC _ _ _ _) (h1 _ _ _ _)))
  go_wp2
  refine bodyPost_ret (results_fr2 rfl _ _ w.heap.size _ rfl (range_set (C a1 k1 a2 k2).toList (by simp [hC]) (F3.there rfl)) (by simp [hC])) rfl ?_
  refine ⟨a1, k1, a2, k2, by simp, ?_, ?_, setCells_below _ _ _ _ _ (Nat.le_refl _) (below_trans HE.out hb13)⟩
  · exact (setCells_owns _ _ _ _ (Nat.lt_succ_self _) _ _ _ (HO.out.1.later hb13)).bts hB1.out
  · exact (setCells_owns _ _ _ _ (Nat.lt_succ_self _) _ _ _ (HO.out.2.later hb13)).bts hB2.out

set_option maxHeartbeats 4000000 in
theorem read_other (b off len cap : Nat) (l : List Int) (w : World) (hA : At w b off len cap l) (g : Good l) (hp : partB (dgOf l) = false) (hE : wayF (dgOf l).proto = 46) (C : Option Addr → Nat → Option Addr → Nat → Array Value) (y : Int)
    (hC : ∀ a1 k1 a2 k2, (C a1 k1 a2 k2).size = 22) (h1 : ∀ a1 k1 a2 k2, (C a1 k1 a2 k2).all (·.oneCell') = true)
    (hm : ∀ a1 k1 a2 k2 W, Bts W (.slice a1 (dgOf l).opts.length k1) (dgOf l).opts → Bts W (.slice a2 (dgOf l).body.length k2) (dgOf l).body →
      Calls Try.prog 46 #[ipV (dgOf l) (.slice a1 (dgOf l).opts.length k1) (.slice a2 (dgOf l).body.length k2)] W fun e w' => e = .returned (.tuple #[.agg (C a1 k1 a2 k2), .int .i64 y]) ∧ Below W.heap.size W w') :
    Calls Try.prog 12 #[.slice (some ⟨b, off, none⟩) len cap] w fun e w' =>
      ∃ a1 k1 a2 k2, e = .returned (.tuple #[.agg (C a1 k1 a2 k2), .int .i64 y]) ∧ Bts w' (.slice a1 (dgOf l).opts.length k1) (dgOf l).opts ∧ Bts w' (.slice a2 (dgOf l).body.length k2) (dgOf l).body ∧ Below w.heap.size w w' := by
  obtain ⟨hmf, hoff⟩ := part_no _ hp
  have hB1 : Hid (isBytes (dgOf l).opts) := isBytes_part l hA.bytes _ _
  have hB2 : Hid (isBytes (dgOf l).body) := isBytes_part l hA.bytes _ _
  have hpa := parse_own b off len cap l _ (hA.later (below_alloc w (.cells zeroFC 37))) g
  rcases hpd : dgOf l with ⟨tos, id, df, mf, of, ttl, pr, src, dst, opts, body⟩
  rw [hpd] at hpa hm hmf hoff hB1 hB2 hE
  simp only at hmf hoff hE
  subst hmf hoff
  have hwy := fun W => way_any pr W
  rw [hE] at hwy
  clear hA g hp hpd hE
  go_enter Try.func12, Try.ntmps12
  go_wp2_with fail
  refine hpa.mono ?_
  rintro e w1 ⟨a1, k1, a2, k2, rfl, ho1, ho2, hb1⟩
  have F1 := fc_new (n := w.heap.size) rfl hb1
  have hs1 := hb1.size
  simp only [World.size_alloc] at hs1 ho1 ho2
  have bel1 := below_trans (below_alloc _ _) hb1
  have hbp := below_alloc w1 (.cells (ipC ⟨tos, id, df, false, 0, ttl, pr, src, dst, opts, body⟩ (.slice a1 opts.length k1) (.slice a2 body.length k2)) 29)
  have bx := ip_box (w := w1) (p := ⟨tos, id, df, false, 0, ttl, pr, src, dst, opts, body⟩) (vo := .slice a1 opts.length k1) (vb := .slice a2 body.length k2) (t := 29) (Below.refl _ _)
  have hbd : Below w1.heap.size w1 (w1.alloc (.cells (ipC ⟨tos, id, df, false, 0, ttl, pr, src, dst, opts, body⟩ (.slice a1 opts.length k1) (.slice a2 body.length k2)) 29)).drew := below_drewN hbp 1
  have hBo := (ho1.bts hB1.out).later hbd
  have hBb := (ho2.bts hB2.out).later hbd
  have hmw := hm a1 k1 a2 k2 _ hBo hBb
  have HO : Hid (Owns w1 (w.heap.size + 1) (.slice a1 opts.length k1) opts ∧ Owns w1 (w.heap.size + 1) (.slice a2 body.length k2) body) := ⟨ho1, ho2⟩
  have HB : Hid (Below w1.heap.size w1 (w1.alloc (.cells (ipC ⟨tos, id, df, false, 0, ttl, pr, src, dst, opts, body⟩ (.slice a1 opts.length k1) (.slice a2 body.length k2)) 29)).drew) := hbd
  have HE : Hid (Below w.heap.size w w1) := bel1
  have HF : Hid (FC w1 w.heap.size zeroFC) := F1
  have hn1 : w.heap.size ≠ w1.heap.size := by omega
  clear hpa hb1 hm hbp hBo hBb ho1 ho2 F1 bel1 hbd
  go_wp2_with fail
  go_region_held3 (fun w' => w'.cell? ⟨w1.heap.size, 0, none⟩ = some (.int .i64 tos) ∧ w'.cell? ⟨w1.heap.size, 1, none⟩ = some (.int .i64 id) ∧ w'.cell? ⟨w1.heap.size, 2, none⟩ = some (.bool df) ∧ w'.cell? ⟨w1.heap.size, 3, none⟩ = some (.bool false) ∧ w'.cell? ⟨w1.heap.size, 4, none⟩ = some (.int .i64 0) ∧ w'.cell? ⟨w1.heap.size, 5, none⟩ = some (.int .i64 ttl) ∧ w'.cell? ⟨w1.heap.size, 6, none⟩ = some (.int .i64 pr) ∧ w'.cell? ⟨w1.heap.size, 7, none⟩ = some (.int .u32 src) ∧ w'.cell? ⟨w1.heap.size, 8, none⟩ = some (.int .u32 dst) ∧ w'.cell? ⟨w1.heap.size, 9, none⟩ = some (.slice a1 opts.length k1) ∧ w'.cell? ⟨w1.heap.size, 10, none⟩ = some (.slice a2 body.length k2)) (first | exact bx | exact ip_box (below_drewN (Below.refl _ _) 1) | (exact ip_box hb23) | (simp only [far_set _ _ hn1]; exact ip_box hb23) | go_keep)
    (first
      | (go_at_call 28; refine (hwy _).mono ?_; rintro e w' ⟨rfl, rfl⟩)
      | (go_at_call 46; refine hmw.mono ?_; rintro e w3 ⟨rfl, hb3⟩; have hb23 := below_trans (below_drewN (Below.refl (w1.alloc (.cells (ipC ⟨tos, id, df, false, 0, ttl, pr, src, dst, opts, body⟩ (.slice a1 opts.length k1) (.slice a2 body.length k2)) 29)).heap.size (w1.alloc (.cells (ipC ⟨tos, id, df, false, 0, ttl, pr, src, dst, opts, body⟩ (.slice a1 opts.length k1) (.slice a2 body.length k2)) 29))) 1) hb3; have hb13 := below_trans HB.out hb3; have F3 := HF.out.later (by omega) hb13; have hst := run_store_fr (C a1 k1 a2 k2) (F3.there rfl) (hC _ _ _ _) (h1 _ _ _ _)))
  go_wp2
  refine bodyPost_ret (results_fr2 rfl _ _ w.heap.size _ rfl (range_set (C a1 k1 a2 k2).toList (by simp [hC]) (F3.there rfl)) (by simp [hC])) rfl ?_
  refine ⟨a1, k1, a2, k2, by simp, ?_, ?_, setCells_below _ _ _ _ _ (Nat.le_refl _) (below_trans HE.out hb13)⟩
  · exact (setCells_owns _ _ _ _ (Nat.lt_succ_self _) _ _ _ (HO.out.1.later hb13)).bts hB1.out
  · exact (setCells_owns _ _ _ _ (Nat.lt_succ_self _) _ _ _ (HO.out.2.later hb13)).bts hB2.out
end Go.Proofs.Ytdejjokgchbgnaa
