/- The contract of Read, over the contract of the way that its protocol is read. -/
import Derived.Test.YtdejjokgchbgnaaM8
import Derived.Test.YtdejjokgchbgnaaM2
import Derived.Test.YtdejjokgchbgnaaCopy
import Derived.Test.YtdejjokgchbgnaaJoin
import Derived.Test.YtdejjokgchbgnaaM5
import Derived.Deep.OwnRows
import Derived.Deep.RegionHeld3
import Derived.Deep.DrawnRows
set_option maxRecDepth 100000
namespace Go.Proofs.Ytdejjokgchbgnaa
open Go.RowKit
attribute [local go_sem ↓] Go.wp_at_zero Go.wp_at_succ

/-- The store of a whole frame, as one step of a region that draws its order. -/
theorem step_store_fr {ops : Array Oper} {o : Oper} {a : Act} {w : World} {K : Act → World → Prop} {Q : Exit → Act → World → Prop} {E : Prop} (hgd : o.guard = none) (x y : Operand) (ho : o.op = .store 37 x y)
    (n : Nat) (C : Array Value) (hx : a.eval x = .pointer (some ⟨n, 0, none⟩)) (hy : a.eval y = .agg C) (ht : w.there n 0 22) (hC : C.size = 22) (h1 : C.all (·.oneCell') = true)
    (h : K (a.put o.dst undef) (w.setCells n 0 C.toList)) : if Region.wanted o (yielded ops a.tmps) = true then Oper.wp Try.prog o a w K Q else E := by
  have hw : Region.wanted o (yielded ops a.tmps) = true := by simp [Region.wanted, hgd]
  rw [if_pos hw]
  exact wp_store_mid 37 x y ho n 0 C hx hy (by rw [hC]; exact ht) (by rw [hC]; exact infoF) h1 h

theorem run_store_fr {w : World} {n : Nat} (C : Array Value) (ht : w.there n 0 22) (hC : C.size = 22) (h1 : C.all (·.oneCell') = true) :
    (storeCells ⟨n, 0, none⟩ C.toList).run Try.prog w = .ok () (w.setCells n 0 C.toList) := by
  have := run_storeCells_cells (P := Try.prog) n 0 C.toList 0 w (fun j hj => by simpa using (ht j (by rw [← hC]; simpa using hj)).1) (fun j hj => by simpa using (ht j (by rw [← hC]; simpa using hj)).2)
    (fun v hv => (Array.all_eq_true_iff_forall_mem.1 h1) v (by simpa using hv))
  simpa only [Nat.add_zero] using this

theorem far_set (n m : Nat) (hn : n ≠ m) (vs : List Value) : ∀ (k j : Nat) (w : World), (w.setCells n k vs).cell? ⟨m, j, none⟩ = w.cell? ⟨m, j, none⟩ := by
  induction vs with
  | nil => intro k j w; rfl
  | cons v vs ih => intro k j w; rw [World.setCells, ih]; exact World.cell?_setCell_far w ⟨n, k, none⟩ ⟨m, j, none⟩ v hn

theorem part_no (p : Dg) (h : partB p = false) : p.mf = false ∧ p.off = 0 := by
  unfold partB at h
  simp at h
  exact h

set_option maxHeartbeats 4000000 in
theorem read_17 (b off len cap : Nat) (l : List Int) (w : World) (hA : At w b off len cap l) (g : Good l) (hp : partB (dgOf l) = false) (hE : wayF (dgOf l).proto = 43) (C : Option Addr → Nat → Option Addr → Nat → Array Value) (y : Int)
    (hC : ∀ a1 k1 a2 k2, (C a1 k1 a2 k2).size = 22) (h1 : ∀ a1 k1 a2 k2, (C a1 k1 a2 k2).all (·.oneCell') = true)
    (hm : ∀ a1 k1 a2 k2 W, Bts W (.slice a1 (dgOf l).opts.length k1) (dgOf l).opts → Bts W (.slice a2 (dgOf l).body.length k2) (dgOf l).body →
      Calls Try.prog 43 #[ipV (dgOf l) (.slice a1 (dgOf l).opts.length k1) (.slice a2 (dgOf l).body.length k2)] W fun e w' => e = .returned (.tuple #[.agg (C a1 k1 a2 k2), .int .i64 y]) ∧ Below W.heap.size W w') :
    Calls Try.prog 12 #[.slice (some ⟨b, off, none⟩) len cap] w fun e w' =>
      ∃ a1 k1 a2 k2, e = .returned (.tuple #[.agg (C a1 k1 a2 k2), .int .i64 y]) ∧ Bts w' (.slice a1 (dgOf l).opts.length k1) (dgOf l).opts ∧ Bts w' (.slice a2 (dgOf l).body.length k2) (dgOf l).body ∧ Below w.heap.size w w' := by
  obtain ⟨hmf, hoff⟩ := part_no _ hp
  have hB1 : Hid (isBytes (dgOf l).opts) := isBytes_part l hA.bytes _ _
  have hB2 : Hid (isBytes (dgOf l).body) := isBytes_part l hA.bytes _ _
  have hpa := parse_own b off len cap l _ (hA.later (below_alloc w (.cells zeroFC 37))) g
  rcases hpd : dgOf l with ⟨tos, id, df, mf, of, ttl, pr, src, dst, opts, body⟩
  rw [hpd] at hpa hm hmf hoff hB1 hB2 hE
  simp only at hmf hoff hE
  subst hmf hoff
  have hwy := fun W => way_any pr W
  rw [hE] at hwy
  clear hA g hp hpd hE
  go_enter Try.func12, Try.ntmps12
  go_wp2_with fail
  refine hpa.mono ?_
  rintro e w1 ⟨a1, k1, a2, k2, rfl, ho1, ho2, hb1⟩
  have F1 := fc_new (n := w.heap.size) rfl hb1
  have hs1 := hb1.size
  simp only [World.size_alloc] at hs1 ho1 ho2
  have bel1 := below_trans (below_alloc _ _) hb1
  have hbp := below_alloc w1 (.cells (ipC ⟨tos, id, df, false, 0, ttl, pr, src, dst, opts, body⟩ (.slice a1 opts.length k1) (.slice a2 body.length k2)) 29)
  have bx := ip_box (w := w1) (p := ⟨tos, id, df, false, 0, ttl, pr, src, dst, opts, body⟩) (vo := .slice a1 opts.length k1) (vb := .slice a2 body.length k2) (t := 29) (Below.refl _ _)
  have hbd : Below w1.heap.size w1 (w1.alloc (.cells (ipC ⟨tos, id, df, false, 0, ttl, pr, src, dst, opts, body⟩ (.slice a1 opts.length k1) (.slice a2 body.length k2)) 29)).drew := below_drewN hbp 1
  have hBo := (ho1.bts hB1.out).later hbd
  have hBb := (ho2.bts hB2.out).later hbd
  have hmw := hm a1 k1 a2 k2 _ hBo hBb
  have HO : Hid (Owns w1 (w.heap.size + 1) (.slice a1 opts.length k1) opts ∧ Owns w1 (w.heap.size + 1) (.slice a2 body.length k2) body) := ⟨ho1, ho2⟩
  have HB : Hid (Below w1.heap.size w1 (w1.alloc (.cells (ipC ⟨tos, id, df, false, 0, ttl, pr, src, dst, opts, body⟩ (.slice a1 opts.length k1) (.slice a2 body.length k2)) 29)).drew) := hbd
  have HE : Hid (Below w.heap.size w w1) := bel1
  have HF : Hid (FC w1 w.heap.size zeroFC) := F1
  have hn1 : w.heap.size ≠ w1.heap.size := by omega
  clear hpa hb1 hm hbp hBo hBb ho1 ho2 F1 bel1 hbd
  go_wp2_with fail
  go_region_held3 (fun w' => w'.cell? ⟨w1.heap.size, 0, none⟩ = some (.int .i64 tos) ∧ w'.cell? ⟨w1.heap.size, 1, none⟩ = some (.int .i64 id) ∧ w'.cell? ⟨w1.heap.size, 2, none⟩ = some (.bool df) ∧ w'.cell? ⟨w1.heap.size, 3, none⟩ = some (.bool false) ∧ w'.cell? ⟨w1.heap.size, 4, none⟩ = some (.int .i64 0) ∧ w'.cell? ⟨w1.heap.size, 5, none⟩ = some (.int .i64 ttl) ∧ w'.cell? ⟨w1.heap.size, 6, none⟩ = some (.int .i64 pr) ∧ w'.cell? ⟨w1.heap.size, 7, none⟩ = some (.int .u32 src) ∧ w'.cell? ⟨w1.heap.size, 8, none⟩ = some (.int .u32 dst) ∧ w'.cell? ⟨w1.heap.size, 9, none⟩ = some (.slice a1 opts.length k1) ∧ w'.cell? ⟨w1.heap.size, 10, none⟩ = some (.slice a2 body.length k2)) (first | exact bx | exact ip_box (below_drewN (Below.refl _ _) 1) | (exact ip_box hb23) | (simp only [far_set _ _ hn1]; exact ip_box hb23) | go_keep)
    (first
      | (go_at_call 28; refine (hwy _).mono ?_; rintro e w' ⟨rfl, rfl⟩)
      | (go_at_call 43; refine hmw.mono ?_; rintro e w3 ⟨rfl, hb3⟩; have hb23 := below_trans (below_drewN (Below.refl (w1.alloc (.cells (ipC ⟨tos, id, df, false, 0, ttl, pr, src, dst, opts, body⟩ (.slice a1 opts.length k1) (.slice a2 body.length k2)) 29)).heap.size (w1.alloc (.cells (ipC ⟨tos, id, df, false, 0, ttl, pr, src, dst, opts, body⟩ (.slice a1 opts.length k1) (.slice a2 body.length k2)) 29))) 1) hb3; have hb13 := below_trans HB.out hb3; have F3 := HF.out.later (by omega) hb13; have hst := run_store_fr (C a1 k1 a2 k2) (F3.there rfl) (hC _ _ _ _) (h1 _ _ _ _)))
  go_wp2
  refine bodyPost_ret (results_fr2 rfl _ _ w.heap.size _ rfl (range_set (C a1 k1 a2 k2).toList (by simp [hC]) (F3.there rfl)) (by simp [hC])) rfl ?_
  refine ⟨a1, k1, a2, k2, by simp, ?_, ?_, setCells_below _ _ _ _ _ (Nat.le_refl _) (below_trans HE.out hb13)⟩
  · exact (setCells_owns _ _ _ _ (Nat.lt_succ_self _) _ _ _ (HO.out.1.later hb13)).bts hB1.out
  · exact (setCells_owns _ _ _ _ (Nat.lt_succ_self _) _ _ _ (HO.out.2.later hb13)).bts hB2.out

set_option maxHeartbeats 4000000 in
theorem read_6 (b off len cap : Nat) (l : List Int) (w : World) (hA : At w b off len cap l) (g : Good l) (hp : partB (dgOf l) = false) (hE : wayF (dgOf l).proto = 44) (C : Option Addr → Nat → Option Addr → Nat → Array Value) (y : Int)
    (hC : ∀ a1 k1 a2 k2, (C a1 k1 a2 k2).size = 22) (h1 : ∀ a1 k1 a2 k2, (C a1 k1 a2 k2).all (·.oneCell') = true)
    (hm : ∀ a1 k1 a2 k2 W, Bts W (.slice a1 (dgOf l).opts.length k1) (dgOf l).opts → Bts W (.slice a2 (dgOf l).body.length k2) (dgOf l).body →
      Calls Try.prog 44 #[ipV (dgOf l) (.slice a1 (dgOf l).opts.length k1) (.slice a2 (dgOf l).body.length k2)] W fun e w' => e = .returned (.tuple #[.agg (C a1 k1 a2 k2), .int .i64 y]) ∧ Below W.heap.size W w') :
    Calls Try.prog 12 #[.slice (some ⟨b, off, none⟩) len cap] w fun e w' =>
      ∃ a1 k1 a2 k2, e = .returned (.tuple #[.agg (C a1 k1 a2 k2), .int .i64 y]) ∧ Bts w' (.slice a1 (dgOf l).opts.length k1) (dgOf l).opts ∧ Bts w' (.slice a2 (dgOf l).body.length k2) (dgOf l).body ∧ Below w.heap.size w w' := by
  obtain ⟨hmf, hoff⟩ := part_no _ hp
  have hB1 : Hid (isBytes (dgOf l).opts) := isBytes_part l hA.bytes _ _
  have hB2 : Hid (isBytes (dgOf l).body) := isBytes_part l hA.bytes _ _
  have hpa := parse_own b off len cap l _ (hA.later (below_alloc w (.cells zeroFC 37))) g
  rcases hpd : dgOf l with ⟨tos, id, df, mf, of, ttl, pr, src, dst, opts, body⟩
  rw [hpd] at hpa hm hmf hoff hB1 hB2 hE
  simp only at hmf hoff hE
  subst hmf hoff
  have hwy := fun W => way_any pr W
  rw [hE] at hwy
  clear hA g hp hpd hE
  go_enter Try.func12, Try.ntmps12
  go_wp2_with fail
  refine hpa.mono ?_
  rintro e w1 ⟨a1, k1, a2, k2, rfl, ho1, ho2, hb1⟩
  have F1 := fc_new (n := w.heap.size) rfl hb1
  have hs1 := hb1.size
  simp only [World.size_alloc] at hs1 ho1 ho2
  have bel1 := below_trans (below_alloc _ _) hb1
  have hbp := below_alloc w1 (.cells (ipC ⟨tos, id, df, false, 0, ttl, pr, src, dst, opts, body⟩ (.slice a1 opts.length k1) (.slice a2 body.length k2)) 29)
  have bx := ip_box (w := w1) (p := ⟨tos, id, df, false, 0, ttl, pr, src, dst, opts, body⟩) (vo := .slice a1 opts.length k1) (vb := .slice a2 body.length k2) (t := 29) (Below.refl _ _)
  have hbd : Below w1.heap.size w1 (w1.alloc (.cells (ipC ⟨tos, id, df, false, 0, ttl, pr, src, dst, opts, body⟩ (.slice a1 opts.length k1) (.slice a2 body.length k2)) 29)).drew := below_drewN hbp 1
  have hBo := (ho1.bts hB1.out).later hbd
  have hBb := (ho2.bts hB2.out).later hbd
  have hmw := hm a1 k1 a2 k2 _ hBo hBb
  have HO : Hid (Owns w1 (w.heap.size + 1) (.slice a1 opts.length k1) opts ∧ Owns w1 (w.heap.size + 1) (.slice a2 body.length k2) body) := ⟨ho1, ho2⟩
  have HB : Hid (Below w1.heap.size w1 (w1.alloc (.cells (ipC ⟨tos, id, df, false, 0, ttl, pr, src, dst, opts, body⟩ (.slice a1 opts.length k1) (.slice a2 body.length k2)) 29)).drew) := hbd
  have HE : Hid (Below w.heap.size w w1) := bel1
  have HF : Hid (FC w1 w.heap.size zeroFC) := F1
  have hn1 : w.heap.size ≠ w1.heap.size := by omega
  clear hpa hb1 hm hbp hBo hBb ho1 ho2 F1 bel1 hbd
  go_wp2_with fail
  go_region_held3 (fun w' => w'.cell? ⟨w1.heap.size, 0, none⟩ = some (.int .i64 tos) ∧ w'.cell? ⟨w1.heap.size, 1, none⟩ = some (.int .i64 id) ∧ w'.cell? ⟨w1.heap.size, 2, none⟩ = some (.bool df) ∧ w'.cell? ⟨w1.heap.size, 3, none⟩ = some (.bool false) ∧ w'.cell? ⟨w1.heap.size, 4, none⟩ = some (.int .i64 0) ∧ w'.cell? ⟨w1.heap.size, 5, none⟩ = some (.int .i64 ttl) ∧ w'.cell? ⟨w1.heap.size, 6, none⟩ = some (.int .i64 pr) ∧ w'.cell? ⟨w1.heap.size, 7, none⟩ = some (.int .u32 src) ∧ w'.cell? ⟨w1.heap.size, 8, none⟩ = some (.int .u32 dst) ∧ w'.cell? ⟨w1.heap.size, 9, none⟩ = some (.slice a1 opts.length k1) ∧ w'.cell? ⟨w1.heap.size, 10, none⟩ = some (.slice a2 body.length k2)) (first | exact bx | exact ip_box (below_drewN (Below.refl _ _) 1) | (exact ip_box hb23) | (simp only [far_set _ _ hn1]; exact ip_box hb23) | go_keep)
    (first
      | (go_at_call 28; refine (hwy _).mono ?_; rintro e w' ⟨rfl, rfl⟩)
      | (go_at_call 44; refine hmw.mono ?_; rintro e w3 ⟨rfl, hb3⟩; have hb23 := below_trans (below_drewN (Below.refl (w1.alloc (.cells (ipC ⟨tos, id, df, false, 0, ttl, pr, src, dst, opts, body⟩ (.slice a1 opts.length k1) (.slice a2 body.length k2)) 29)).heap.size (w1.alloc (.cells (ipC ⟨tos, id, df, false, 0, ttl, pr, src, dst, opts, body⟩ (.slice a1 opts.length k1) (.slice a2 body.length k2)) 29))) 1) hb3; have hb13 := below_trans HB.out hb3; have F3 := HF.out.later (by omega) hb13; have hst := run_store_fr (C a1 k1 a2 k2) (F3.there rfl) (hC _ _ _ _) (h1 _ _ _ _)))
  go_wp2
  refine bodyPost_ret (results_fr2 rfl _ _ w.heap.size _ rfl (range_set (C a1 k1 a2 k2).toList (by simp [hC]) (F3.there rfl)) (by simp [hC])) rfl ?_
  refine ⟨a1, k1, a2, k2, by simp, ?_, ?_, setCells_below _ _ _ _ _ (Nat.le_refl _) (below_trans HE.out hb13)⟩
  · exact (setCells_owns _ _ _ _ (Nat.lt_succ_self _) _ _ _ (HO.out.1.later hb13)).bts hB1.out
  · exact (setCells_owns _ _ _ _ (Nat.lt_succ_self _) _ _ _ (HO.out.2.later hb13)).bts hB2.out

set_option maxHeartbeats 4000000 in
theorem read_1 (b off len cap : Nat) (l : List Int) (w : World) (hA : At w b off len cap l) (g : Good l) (hp : partB (dgOf l) = false) (hE : wayF (dgOf l).proto = 45) (C : Option Addr → Nat → Option Addr → Nat → Array Value) (y : Int)
    (hC : ∀ a1 k1 a2 k2, (C a1 k1 a2 k2).size = 22) (h1 : ∀ a1 k1 a2 k2, (C a1 k1 a2 k2).all (·.oneCell') = true)
    (hm : ∀ a1 k1 a2 k2 W, Bts W (.slice a1 (dgOf l).opts.length k1) (dgOf l).opts → Bts W (.slice a2 (dgOf l).body.length k2) (dgOf l).body →
      Calls Try.prog 45 #[ipV (dgOf l) (.slice a1 (dgOf l).opts.length k1) (.slice a2 (dgOf l).body.length k2)] W fun e w' => e = .returned (.tuple #[.agg (C a1 k1 a2 k2), .int .i64 y]) ∧ Below W.heap.size W w') :
    Calls Try.prog 12 #[.slice (some ⟨b, off, none⟩) len cap] w fun e w' =>
      ∃ a1 k1 a2 k2, e = .returned (.tuple #[.agg (C a1 k1 a2 k2), .int .i64 y]) ∧ Bts w' (.slice a1 (dgOf l).opts.length k1) (dgOf l).opts ∧ Bts w' (.slice a2 (dgOf l).body.length k2) (dgOf l).body ∧ Below w.heap.size w w' := by
  obtain ⟨hmf, hoff⟩ := part_no _ hp
  have hB1 : Hid (isBytes (dgOf l).opts) := isBytes_part l hA.bytes _ _
  have hB2 : Hid (isBytes (dgOf l).body) := isBytes_part l hA.bytes _ _
  have hpa := parse_own b off len cap l _ (hA.later (below_alloc w (.cells zeroFC 37))) g
  rcases hpd : dgOf l with ⟨tos, id, df, mf, of, ttl, pr, src, dst, opts, body⟩
  rw [hpd] at hpa hm hmf hoff hB1 hB2 hE
  simp only at hmf hoff hE
  subst hmf hoff
  have hwy := fun W => way_any pr W
  rw [hE] at hwy
  clear hA g hp hpd hE
  go_enter Try.func12, Try.ntmps12
  go_wp2_with fail
  refine hpa.mono ?_
  rintro e w1 ⟨a1, k1, a2, k2, rfl, ho1, ho2, hb1⟩
  have F1 := fc_new (n := w.heap.size) rfl hb1
  have hs1 := hb1.size
  simp only [World.size_alloc] at hs1 ho1 ho2
  have bel1 := below_trans (below_alloc _ _) hb1
  have hbp := below_alloc w1 (.cells (ipC ⟨tos, id, df, false, 0, ttl, pr, src, dst, opts, body⟩ (.slice a1 opts.length k1) (.slice a2 body.length k2)) 29)
  have bx := ip_box (w := w1) (p := ⟨tos, id, df, false, 0, ttl, pr, src, dst, opts, body⟩) (vo := .slice a1 opts.length k1) (vb := .slice a2 body.length k2) (t := 29) (Below.refl _ _)
  have hbd : Below w1.heap.size w1 (w1.alloc (.cells (ipC ⟨tos, id, df, false, 0, ttl, pr, src, dst, opts, body⟩ (.slice a1 opts.length k1) (.slice a2 body.length k2)) 29)).drew := below_drewN hbp 1
  have hBo := (ho1.bts hB1.out).later hbd
  have hBb := (ho2.bts hB2.out).later hbd
  have hmw := hm a1 k1 a2 k2 _ hBo hBb
  have HO : Hid (Owns w1 (w.heap.size + 1) (.slice a1 opts.length k1) opts ∧ Owns w1 (w.heap.size + 1) (.slice a2 body.length k2) body) := ⟨ho1, ho2⟩
  have HB : Hid (Below w1.heap.size w1 (w1.alloc (.cells (ipC ⟨tos, id, df, false, 0, ttl, pr, src, dst, opts, body⟩ (.slice a1 opts.length k1) (.slice a2 body.length k2)) 29)).drew) := hbd
  have HE : Hid (Below w.heap.size w w1) := bel1
  have HF : Hid (FC w1 w.heap.size zeroFC) := F1
  have hn1 : w.heap.size ≠ w1.heap.size := by omega
  clear hpa hb1 hm hbp hBo hBb ho1 ho2 F1 bel1 hbd
  go_wp2_with fail
  go_region_held3 (fun w' => w'.cell? ⟨w1.heap.size, 0, none⟩ = some (.int .i64 tos) ∧ w'.cell? ⟨w1.heap.size, 1, none⟩ = some (.int .i64 id) ∧ w'.cell? ⟨w1.heap.size, 2, none⟩ = some (.bool df) ∧ w'.cell? ⟨w1.heap.size, 3, none⟩ = some (.bool false) ∧ w'.cell? ⟨w1.heap.size, 4, none⟩ = some (.int .i64 0) ∧ w'.cell? ⟨w1.heap.size, 5, none⟩ = some (.int .i64 ttl) ∧ w'.cell? ⟨w1.heap.size, 6, none⟩ = some (.int .i64 pr) ∧ w'.cell? ⟨w1.heap.size, 7, none⟩ = some (.int .u32 src) ∧ w'.cell? ⟨w1.heap.size, 8, none⟩ = some (.int .u32 dst) ∧ w'.cell? ⟨w1.heap.size, 9, none⟩ = some (.slice a1 opts.length k1) ∧ w'.cell? ⟨w1.heap.size, 10, none⟩ = some (.slice a2 body.length k2)) (first | exact bx | exact ip_box (below_drewN (Below.refl _ _) 1) | (exact ip_box hb23) | (simp only [far_set _ _ hn1]; exact ip_box hb23) | go_keep)
    (first
      | (go_at_call 28; refine (hwy _).mono ?_; rintro e w' ⟨rfl, rfl⟩)
      | (go_at_call 45; refine hmw.mono ?_; rintro e w3 ⟨rfl, hb3⟩; have hb23 := below_trans (below_drewN (Below.refl (w1.alloc (.cells (ipC ⟨tos, id, df, false, 0, ttl, pr, src, dst, opts, body⟩ (.slice a1 opts.length k1) (.slice a2 body.length k2)) 29)).heap.size (w1.alloc (.cells (ipC ⟨tos, id, df, false, 0, ttl, pr, src, dst, opts, body⟩ (.slice a1 opts.length k1) (.slice a2 body.length k2)) 29))) 1) hb3; have hb13 := below_trans HB.out hb3; have F3 := HF.out.later (by omega) hb13; have hst := run_store_fr (C a1 k1 a2 k2) (F3.there rfl) (hC _ _ _ _) (h1 _ _ _ _)))
  go_wp2
  refine bodyPost_ret (results_fr2 rfl _ _ w.heap.size _ rfl (range_set (C a1 k1 a2 k2).toList (by simp [hC]) (F3.there rfl)) (by simp [hC])) rfl ?_
  refine ⟨a1, k1, a2, k2, by simp, ?_, ?_, setCells_below _ _ _ _ _ (Nat.le_refl _) (below_trans HE.out hb13)⟩
  · exact (setCells_owns _ _ _ _ (Nat.lt_succ_self _) _ _ _ (HO.out.1.later hb13)).bts hB1.out
  · exact (setCells_owns _ _ _ _ (Nat.lt_succ_self _) _ _ _ (HO.out.2.later hb13)).bts hB2.out

set_option maxHeartbeats 4000000 in
theorem read_other (b off len cap : Nat) (l : List Int) (w : World) (hA : At w b off len cap l) (g : Good l) (hp : partB (dgOf l) = false) (hE : wayF (dgOf l).proto = 46) (C : Option Addr → Nat → Option Addr → Nat → Array Value) (y : Int)
    (hC : ∀ a1 k1 a2 k2, (C a1 k1 a2 k2).size = 22) (h1 : ∀ a1 k1 a2 k2, (C a1 k1 a2 k2).all (·.oneCell') = true)
    (hm : ∀ a1 k1 a2 k2 W, Bts W (.slice a1 (dgOf l).opts.length k1) (dgOf l).opts → Bts W (.slice a2 (dgOf l).body.length k2) (dgOf l).body →
      Calls Try.prog 46 #[ipV (dgOf l) (.slice a1 (dgOf l).opts.length k1) (.slice a2 (dgOf l).body.length k2)] W fun e w' => e = .returned (.tuple #[.agg (C a1 k1 a2 k2), .int .i64 y]) ∧ Below W.heap.size W w') :
    Calls Try.prog 12 #[.slice (some ⟨b, off, none⟩) len cap] w fun e w' =>
      ∃ a1 k1 a2 k2, e = .returned (.tuple #[.agg (C a1 k1 a2 k2), .int .i64 y]) ∧ Bts w' (.slice a1 (dgOf l).opts.length k1) (dgOf l).opts ∧ Bts w' (.slice a2 (dgOf l).body.length k2) (dgOf l).body ∧ Below w.heap.size w w' := by
  obtain ⟨hmf, hoff⟩ := part_no _ hp
  have hB1 : Hid (isBytes (dgOf l).opts) := isBytes_part l hA.bytes _ _
  have hB2 : Hid (isBytes (dgOf l).body) := isBytes_part l hA.bytes _ _
  have hpa := parse_own b off len cap l _ (hA.later (below_alloc w (.cells zeroFC 37))) g
  rcases hpd : dgOf l with ⟨tos, id, df, mf, of, ttl, pr, src, dst, opts, body⟩
  rw [hpd] at hpa hm hmf hoff hB1 hB2 hE
  simp only at hmf hoff hE
  subst hmf hoff
  have hwy := fun W => way_any pr W
  rw [hE] at hwy
  clear hA g hp hpd hE
  go_enter Try.func12, Try.ntmps12
  go_wp2_with fail
  refine hpa.mono ?_
  rintro e w1 ⟨a1, k1, a2, k2, rfl, ho1, ho2, hb1⟩
  have F1 := fc_new (n := w.heap.size) rfl hb1
  have hs1 := hb1.size
  simp only [World.size_alloc] at hs1 ho1 ho2
  have bel1 := below_trans (below_alloc _ _) hb1
  have hbp := below_alloc w1 (.cells (ipC ⟨tos, id, df, false, 0, ttl, pr, src, dst, opts, body⟩ (.slice a1 opts.length k1) (.slice a2 body.length k2)) 29)
  have bx := ip_box (w := w1) (p := ⟨tos, id, df, false, 0, ttl, pr, src, dst, opts, body⟩) (vo := .slice a1 opts.length k1) (vb := .slice a2 body.length k2) (t := 29) (Below.refl _ _)
  have hbd : Below w1.heap.size w1 (w1.alloc (.cells (ipC ⟨tos, id, df, false, 0, ttl, pr, src, dst, opts, body⟩ (.slice a1 opts.length k1) (.slice a2 body.length k2)) 29)).drew := below_drewN hbp 1
  have hBo := (ho1.bts hB1.out).later hbd
  have hBb := (ho2.bts hB2.out).later hbd
  have hmw := hm a1 k1 a2 k2 _ hBo hBb
  have HO : Hid (Owns w1 (w.heap.size + 1) (.slice a1 opts.length k1) opts ∧ Owns w1 (w.heap.size + 1) (.slice a2 body.length k2) body) := ⟨ho1, ho2⟩
  have HB : Hid (Below w1.heap.size w1 (w1.alloc (.cells (ipC ⟨tos, id, df, false, 0, ttl, pr, src, dst, opts, body⟩ (.slice a1 opts.length k1) (.slice a2 body.length k2)) 29)).drew) := hbd
  have HE : Hid (Below w.heap.size w w1) := bel1
  have HF : Hid (FC w1 w.heap.size zeroFC) := F1
  have hn1 : w.heap.size ≠ w1.heap.size := by omega
  clear hpa hb1 hm hbp hBo hBb ho1 ho2 F1 bel1 hbd
  go_wp2_with fail
  go_region_held3 (fun w' => w'.cell? ⟨w1.heap.size, 0, none⟩ = some (.int .i64 tos) ∧ w'.cell? ⟨w1.heap.size, 1, none⟩ = some (.int .i64 id) ∧ w'.cell? ⟨w1.heap.size, 2, none⟩ = some (.bool df) ∧ w'.cell? ⟨w1.heap.size, 3, none⟩ = some (.bool false) ∧ w'.cell? ⟨w1.heap.size, 4, none⟩ = some (.int .i64 0) ∧ w'.cell? ⟨w1.heap.size, 5, none⟩ = some (.int .i64 ttl) ∧ w'.cell? ⟨w1.heap.size, 6, none⟩ = some (.int .i64 pr) ∧ w'.cell? ⟨w1.heap.size, 7, none⟩ = some (.int .u32 src) ∧ w'.cell? ⟨w1.heap.size, 8, none⟩ = some (.int .u32 dst) ∧ w'.cell? ⟨w1.heap.size, 9, none⟩ = some (.slice a1 opts.length k1) ∧ w'.cell? ⟨w1.heap.size, 10, none⟩ = some (.slice a2 body.length k2)) (first | exact bx | exact ip_box (below_drewN (Below.refl _ _) 1) | (exact ip_box hb23) | (simp only [far_set _ _ hn1]; exact ip_box hb23) | go_keep)
    (first
      | (go_at_call 28; refine (hwy _).mono ?_; rintro e w' ⟨rfl, rfl⟩)
      | (go_at_call 46; refine hmw.mono ?_; rintro e w3 ⟨rfl, hb3⟩; have hb23 := below_trans (below_drewN (Below.refl (w1.alloc (.cells (ipC ⟨tos, id, df, false, 0, ttl, pr, src, dst, opts, body⟩ (.slice a1 opts.length k1) (.slice a2 body.length k2)) 29)).heap.size (w1.alloc (.cells (ipC ⟨tos, id, df, false, 0, ttl, pr, src, dst, opts, body⟩ (.slice a1 opts.length k1) (.slice a2 body.length k2)) 29))) 1) hb3; have hb13 := below_trans HB.out hb3; have F3 := HF.out.later (by omega) hb13; have hst := run_store_fr (C a1 k1 a2 k2) (F3.there rfl) (hC _ _ _ _) (h1 _ _ _ _)))
  go_wp2
  refine bodyPost_ret (results_fr2 rfl _ _ w.heap.size _ rfl (range_set (C a1 k1 a2 k2).toList (by simp [hC]) (F3.there rfl)) (by simp [hC])) rfl ?_
  refine ⟨a1, k1, a2, k2, by simp, ?_, ?_, setCells_below _ _ _ _ _ (Nat.le_refl _) (below_trans HE.out hb13)⟩
  · exact (setCells_owns _ _ _ _ (Nat.lt_succ_self _) _ _ _ (HO.out.1.later hb13)).bts hB1.out
  · exact (setCells_owns _ _ _ _ (Nat.lt_succ_self _) _ _ _ (HO.out.2.later hb13)).bts hB2.out
end Go.Proofs.Ytdejjokgchbgnaa

namespace Go.Proofs.Ytdejjokgchbgnaa
open Go.RowKit

theorem Bts.at_ne {W : World} {a : Option Addr} {n k : Nat} {l : List Int} (h : Bts W (.slice a n k) l) : n = l.length ∧ ∃ b off, (a = some ⟨b, off, none⟩ ∨ l = []) ∧ At W b off n k l := by
  obtain ⟨a', c', b, off, e, h2, h3, h4, h5, h6⟩ := h
  simp only [Value.slice.injEq] at e
  obtain ⟨rfl, rfl, rfl⟩ := e
  exact ⟨rfl, b, off, h5, ⟨h2, h3, rfl, h4, h6⟩⟩

theorem body_len (l : List Int) (g : Good l) : (dgOf l).body.length ≤ 70000 := by
  have := g.a
  show ((l.drop _).take _).length ≤ _
  rw [List.length_take, List.length_drop]
  omega

theorem read_udp_ok (b off len cap : Nat) (l : List Int) (w : World) (hA : At w b off len cap l) (g : Good l) (hp : partB (dgOf l) = false) (h17 : (dgOf l).proto = 17) (hu : parseU (dgOf l).src (dgOf l).dst (dgOf l).body = 0) :
    Calls Try.prog 12 #[.slice (some ⟨b, off, none⟩) len cap] w fun e w' =>
      ∃ a1 k1 a2 k2, e = .returned (.tuple #[.agg (frC (dgOf l) (.slice a1 (dgOf l).opts.length k1) (.slice a2 (dgOf l).body.length k2) (rsOf (dgOf l))), .int .i64 0]) ∧ Bts w' (.slice a1 (dgOf l).opts.length k1) (dgOf l).opts ∧ Bts w' (.slice a2 (dgOf l).body.length k2) (dgOf l).body ∧ Below w.heap.size w w' := by
  have hr : rsOf (dgOf l) = ⟨0, 1, w2 (dgOf l).body 0, w2 (dgOf l).body 2, 0, Inn.zero⟩ := by unfold rsOf rsU; rw [if_pos h17, if_pos hu]
  have hk := dg_ok l hA.bytes
  have hl := body_len l g
  refine read_17 b off len cap l w hA g hp (by unfold wayF; rw [if_pos h17]) (fun a1 k1 a2 k2 => frC (dgOf l) (.slice a1 (dgOf l).opts.length k1) (.slice a2 (dgOf l).body.length k2) (rsOf (dgOf l))) 0 (fun _ _ _ _ => rfl) (fun _ _ _ _ => oneFr _ _ _ _ _ _ _ _) ?_
  intro a1 k1 a2 k2 W hO hB
  obtain ⟨-, b', off', ha, hA'⟩ := hB.at_ne
  have g' := ugood_of _ _ _ hu
  rcases ha with rfl | ha
  · rw [hr]
    exact datagram_ok (dgOf l) a1 _ k1 b' off' _ k2 W hk hA' hl g'
  · have := g'.a; rw [ha] at this; simp at this

theorem read_udp_no (b off len cap : Nat) (l : List Int) (w : World) (hA : At w b off len cap l) (g : Good l) (hp : partB (dgOf l) = false) (h17 : (dgOf l).proto = 17) (hu : ¬ parseU (dgOf l).src (dgOf l).dst (dgOf l).body = 0) :
    Calls Try.prog 12 #[.slice (some ⟨b, off, none⟩) len cap] w fun e w' => e = .returned (.tuple #[.agg zeroFC, .int .i64 (rsOf (dgOf l)).why]) ∧ Below w.heap.size w w' := by
  have hr : (rsOf (dgOf l)).why = whyI (parseU (dgOf l).src (dgOf l).dst (dgOf l).body) := by unfold rsOf rsU; rw [if_pos h17, if_neg hu]; rfl
  have hk := dg_ok l hA.bytes
  have hl := body_len l g
  refine (read_17 b off len cap l w hA g hp (by unfold wayF; rw [if_pos h17]) (fun _ _ _ _ => zeroFC) (rsOf (dgOf l)).why (fun _ _ _ _ => rfl) (fun _ _ _ _ => oneZ) ?_).mono ?_
  · intro a1 k1 a2 k2 W hO hB
    obtain ⟨-, b', off', ha, hA'⟩ := hB.at_ne
    rw [hr]
    exact datagram_no (dgOf l) a1 a2 _ k1 b' off' _ k2 W hk ha hA' hl hu
  · rintro e w' ⟨_, _, _, _, rfl, -, -, hb⟩
    exact ⟨rfl, hb⟩

theorem read_oth (b off len cap : Nat) (l : List Int) (w : World) (hA : At w b off len cap l) (g : Good l) (hp : partB (dgOf l) = false) (h17 : ¬ (dgOf l).proto = 17) (h6 : ¬ (dgOf l).proto = 6) (h1 : ¬ (dgOf l).proto = 1) :
    Calls Try.prog 12 #[.slice (some ⟨b, off, none⟩) len cap] w fun e w' => e = .returned (.tuple #[.agg zeroFC, .int .i64 4]) ∧ Below w.heap.size w w' := by
  refine (read_other b off len cap l w hA g hp (by unfold wayF; rw [if_neg h17, if_neg h6, if_neg h1]) (fun _ _ _ _ => zeroFC) 4 (fun _ _ _ _ => rfl) (fun _ _ _ _ => oneZ) ?_).mono ?_
  · intro a1 k1 a2 k2 W hO hB
    exact other_any (dgOf l) a1 a2 _ k1 _ k2 W
  · rintro e w' ⟨_, _, _, _, rfl, -, -, hb⟩
    exact ⟨rfl, hb⟩
end Go.Proofs.Ytdejjokgchbgnaa

namespace Go.Proofs.Ytdejjokgchbgnaa
open Go.ChangeShapes Go.WideShapes Go.ChangeAt Go.RowKit

theorem sees_mark (w : World) (N : Nat) (A : Array Value) (t : TypeId) (m : Nat × Nat) (l : List Int) (hA : A = (l.map (Value.int .u8)).toArray) (hN : N = w.heap.size) : Sees (w.alloc (.cells A t m)) N 0 l := by
  intro i hi
  rw [Nat.zero_add, hA]
  rw [Go.Joins.cell_alloc_mark_at _ _ _ _ _ _ hN]
  simp [List.getElem?_eq_getElem hi]

theorem conv_bytes (w : World) (C : Array Value) (n c g : Nat) (hg : g = w.heap.size) :
    (convert 23 23 (.slice (some ⟨g, 0, none⟩) n c)).run Try.prog (w.alloc (.cells C 5)) = .ok (.slice (some ⟨g, 0, none⟩) n c) (w.alloc (.cells C 5 (C.size, C.size + 1))) :=
  Go.Joins.run_convert_bytes_const_at w 23 5 C n c g hg Try.underlying23 Try.underlying5

def hiU : Ud := ⟨1000, 53, false, [104, 105]⟩

theorem hi_fits : UFits hiU := ⟨by decide, by decide, by decide⟩

theorem hi_bts (w : World) (N : Nat) (hN : N = w.heap.size) : Bts (w.alloc (.cells #[.int .u8 104, .int .u8 105] 5 (2, 3))) (.slice (some ⟨N, 0, none⟩) 2 2) hiU.data :=
  ⟨_, 2, N, 0, rfl, by decide, by decide, (by unfold isBytes; decide), .inl rfl, sees_mark w N _ 5 (2, 3) [104, 105] rfl hN⟩

theorem u32_of_wf {x : Int} (h : (Lit.int .u32 x).wf = true) : 0 ≤ x ∧ x < 4294967296 := by
  simp [Lit.wf, IntKind.min, IntKind.max, IntKind.signed, IntKind.bits] at h
  omega

def IsU32 (_ : World) (v : Value) : Prop := ∃ x : Int, v = .int .u32 x ∧ 0 ≤ x ∧ x < 4294967296

@[reducible] def sentV (s d : Int) (u : Ud) (vd : Value) : Value := .agg #[.int .u32 s, .int .u32 d, .int .i64 u.src, .int .i64 u.dst, .bool u.bare, vd]

@[reducible] def sentC (s d : Int) (u : Ud) (vd : Value) : Array Value := #[.int .u32 s, .int .u32 d, .int .i64 u.src, .int .i64 u.dst, .bool u.bare, vd]

/-- A datagram between two addresses, as a Go value may hold it. -/
def IsSent (w : World) (v : Value) : Prop :=
  ∃ (s d : Int) (u : Ud) (a : Option Addr) (c : Nat), v = sentV s d u (.slice a u.data.length c) ∧ 0 ≤ s ∧ s < 4294967296 ∧ 0 ≤ d ∧ d < 4294967296 ∧ Bts w (.slice a u.data.length c) u.data ∧ u.data.length ≤ 140737488351232

theorem array6 {α : Type} {cs : Array α} (h : cs.size = 6) : ∃ c0 c1 c2 c3 c4 c5, cs = #[c0, c1, c2, c3, c4, c5] := by
  obtain ⟨l⟩ := cs
  match l, h with
  | [c0, c1, c2, c3, c4, c5], _ => exact ⟨c0, c1, c2, c3, c4, c5, rfl⟩

theorem list3 {α : Type} {l : List α} (h : l.length = 3) : ∃ c0 c1 c2, l = [c0, c1, c2] := by
  match l, h with
  | [c0, c1, c2], _ => exact ⟨c0, c1, c2, rfl⟩

theorem list4 {α : Type} {l : List α} (h : l.length = 4) : ∃ c0 c1 c2 c3, l = [c0, c1, c2, c3] := by
  match l, h with
  | [c0, c1, c2, c3], _ => exact ⟨c0, c1, c2, c3, rfl⟩

section
variable {H : Type} {enc : TypeId × Value → H} {w : World} {base b0 : Nat} {held : Bool} {r : Reach} {v : Value} {d : DataW H} {ps : List MemPlace}

set_option maxRecDepth 100000 in
theorem viewU32 (hv : Value.okWide Try.prog w r b0 25 v) (h : DataW.Trod enc Try.prog w base (fun _ => true) held 25 v d ps) (_ : ∀ n ∈ d.weights Try.prog 25, n ≤ reachBytes) : IsU32 w v := by
  obtain ⟨x, rfl, rfl, rfl, wx⟩ := open_int Try.underlying25 hv h
  exact ⟨x, rfl, u32_of_wf wx⟩

end

end Go.Proofs.Ytdejjokgchbgnaa

namespace Go.Proofs.Ytdejjokgchbgnaa
open Go.RowKit

theorem urbuild_src (s d : Int) (u : Ud) (a : Option Addr) (c : Nat) (w : World) (h : ¬ inB u.src 65535) :
    Calls Try.prog 19 #[.int .u32 s, .int .u32 d, udV u (.slice a u.data.length c)] w fun e w' => e = .returned (.tuple #[.slice none 0 0, .int .i64 1]) ∧ Below w.heap.size w w' := by
  have g0 : inBb u.src 65535 = false := decide_eq_false h
  go_enter Try.func19, Try.ntmps19
  go_wp2_with (first | (go_at_call 37; refine (rin_any _ _ _).mono ?_; rintro e w' ⟨rfl, rfl⟩))
  go_ret2
  exact ⟨rfl, below_alloc _ _⟩

theorem urbuild_dst (s d : Int) (u : Ud) (a : Option Addr) (c : Nat) (w : World) (h0 : inB u.src 65535) (h : ¬ inB u.dst 65535) :
    Calls Try.prog 19 #[.int .u32 s, .int .u32 d, udV u (.slice a u.data.length c)] w fun e w' => e = .returned (.tuple #[.slice none 0 0, .int .i64 1]) ∧ Below w.heap.size w w' := by
  have g0 : inBb u.src 65535 = true := decide_eq_true h0
  have g1 : inBb u.dst 65535 = false := decide_eq_false h
  go_enter Try.func19, Try.ntmps19
  go_wp2_with (first | (go_at_call 37; refine (rin_any _ _ _).mono ?_; rintro e w' ⟨rfl, rfl⟩))
  go_ret2
  exact ⟨rfl, below_alloc _ _⟩

theorem urbuild_long (s d : Int) (u : Ud) (a : Option Addr) (c : Nat) (w : World) (h0 : inB u.src 65535) (h1 : inB u.dst 65535) (h : 2020 < u.data.length) :
    Calls Try.prog 19 #[.int .u32 s, .int .u32 d, udV u (.slice a u.data.length c)] w fun e w' => e = .returned (.tuple #[.slice none 0 0, .int .i64 3]) ∧ Below w.heap.size w w' := by
  have g0 : inBb u.src 65535 = true := decide_eq_true h0
  have g1 : inBb u.dst 65535 = true := decide_eq_true h1
  have g2 : (2020 : Int) < (u.data.length : Int) := by omega
  go_enter Try.func19, Try.ntmps19
  go_wp2_with (first | (go_at_call 37; refine (rin_any _ _ _).mono ?_; rintro e w' ⟨rfl, rfl⟩))
  go_ret2
  exact ⟨rfl, below_alloc _ _⟩

theorem urbuild_no (s d : Int) (u : Ud) (a : Option Addr) (c : Nat) (w : World) (h : ¬ buildU u = 0) :
    Calls Try.prog 19 #[.int .u32 s, .int .u32 d, udV u (.slice a u.data.length c)] w fun e w' => e = .returned (.tuple #[.slice none 0 0, .int .i64 (buildU u)]) ∧ Below w.heap.size w w' := by
  obtain ⟨E, hE⟩ : ∃ E, buildU u = E := ⟨_, rfl⟩
  rw [hE] at h ⊢
  unfold buildU at hE
  by_cases h0 : inB u.src 65535
  case neg => rw [if_pos h0] at hE; subst hE; exact urbuild_src s d u a c w h0
  rw [if_neg (by simpa using h0)] at hE
  by_cases h1 : inB u.dst 65535
  case neg => rw [if_pos h1] at hE; subst hE; exact urbuild_dst s d u a c w h0 h1
  rw [if_neg (by simpa using h1)] at hE
  by_cases h2 : 2020 < u.data.length
  · rw [if_pos h2] at hE; subst hE; exact urbuild_long s d u a c w h0 h1 h2
  rw [if_neg h2] at hE
  exact absurd hE.symm h

theorem uset67 (u : Ud) (x : Int) (h0 : 0 ≤ x) (h1 : x ≤ 65535) (m : List Int) : ((headU u 0 ++ m).set 6 (x / 256)).set 7 (x % 256) = headU u x ++ m := by
  have e : x / 256 % 256 = x / 256 := by omega
  simp [headU, e]

set_option maxRecDepth 100000 in
set_option maxHeartbeats 4000000 in
theorem urbuild_ok (s d : Int) (u : Ud) (a : Option Addr) (c : Nat) (w : World) (s0 : 0 ≤ s) (s1 : s < 4294967296) (t0 : 0 ≤ d) (t1 : d < 4294967296) (f : UFits u) (hD : Bts w (.slice a u.data.length c) u.data) :
    Calls Try.prog 19 #[.int .u32 s, .int .u32 d, udV u (.slice a u.data.length c)] w fun e w' =>
      ∃ v, e = .returned (.tuple #[v, .int .i64 0]) ∧ Bts w' v (builtU s d u) ∧ Below w.heap.size w w' := by
  have g0 : inBb u.src 65535 = true := decide_eq_true f.src
  have g1 : inBb u.dst 65535 = true := decide_eq_true f.dst
  obtain ⟨⟨p0, p1⟩, ⟨q0, q1⟩, hlen⟩ := f
  have g2 : ¬ (2020 : Int) < (u.data.length : Int) := by omega
  have HBt : Hid (isBytes u.data) := hD.bytes
  obtain ⟨da, dc, db, dof, hde, hd2, hd3, hd4, hd5, hd6⟩ := hD
  simp only [Value.slice.injEq, true_and] at hde
  obtain ⟨rfl, rfl⟩ := hde
  go_enter Try.func19, Try.ntmps19
  go_wp2_with (first | (go_at_call 37; refine (rin_any _ _ _).mono ?_; rintro e w' ⟨rfl, rfl⟩))
  obtain ⟨w0, hw0⟩ : ∃ w0, w0 = w.alloc (.cells (udC u (.slice a u.data.length c)) 49) := ⟨_, rfl⟩
  rw [← hw0]
  have hsz0 : w0.heap.size = w.heap.size + 1 := by rw [hw0]; simp
  have hbw0 : Below w.heap.size w w0 := by rw [hw0]; exact below_alloc _ _
  have HC : Hid (∀ (w' : World), Below (w.heap.size + 1) w0 w' → ∀ i v, (udC u (.slice a u.data.length c))[i]? = some v → w'.cell? ⟨w.heap.size, i, none⟩ = some v) := by
    intro w' hb i v hv
    rw [hb.cell (by show w.heap.size < w.heap.size + 1; omega), hw0, World.cell?_alloc_mark w _ _ (0, 0) i]
    exact hv
  clear hw0
  refine (lay_any w0 (w.heap.size + 1) (.slice none 0 0) [] 2 2 u.src w0 (World.ownsRow_nil _ _ _ _) (by omega) (by simp) rfl (by decide) (Below.refl _ _)).mono ?_
  rintro e w1 ⟨v1, rfl, ho1, hb1, hz1⟩
  have d1 : w1.cell? ⟨w.heap.size, 1, none⟩ = some (.int .i64 u.dst) := HC.out w1 hb1 1 _ rfl
  go_wp2_with fail
  refine (lay_any w1 (w.heap.size + 1) v1 _ 2 2 u.dst w0 ho1 hz1 (by simp [bytesOfN]) rfl (by decide) hb1).mono ?_
  rintro e w2' ⟨v2, rfl, ho2, hb2, hz2⟩
  clear ho1 hb1 hz1 d1
  go_wp2_with fail
  refine (lay_any w2' (w.heap.size + 1) v2 _ 2 2 (8 + (u.data.length : Int)) w0 ho2 hz2 (by simp [bytesOfN]) rfl (by decide) hb2).mono ?_
  rintro e w3 ⟨v3, rfl, ho3, hb3, hz3⟩
  clear ho2 hb2 hz2
  obtain ⟨v4, w4, hrun4, ho4', hb4'⟩ := append_bts (w3.alloc (.cells #[.int .u8 0, .int .u8 0] 5)) (w.heap.size + 1) v3 _ _ _ (World.ownsRow.alloc ho3 _) ((owns_lit2 w3 0 0).bts (by intro z hz; simp at hz; omega)) (by simp; omega) (by simp [bytesOfN])
  have hb4 : Below (w.heap.size + 1) w0 w4 := (hb3.alloc hz3 _).trans hb4'
  have hz4 : w.heap.size + 1 ≤ w4.heap.size := by have := hb4'.size; simp only [World.size_alloc] at this; omega
  have ho4 : Owns w4 (w.heap.size + 1) v4 (headU u 0) := ho4'
  clear ho3 hb3 hb4' ho4'
  go_wp2_with (at_builtin; refine Lib.wpList_append_run_sl _ rfl _ _ 23 rfl _ _ rfl rfl hrun4 ?_)
  clear hrun4 hz3
  go_loopw [9, 10] (fun v i wr => ∃ t : Nat, t ≤ u.data.length ∧ i = .int .i64 (t : Int) ∧ Owns wr (w.heap.size + 1) v (headU u 0 ++ u.data.take t) ∧ Below (w.heap.size + 1) w0 wr ∧ w.heap.size + 1 ≤ wr.heap.size) (fun _ i _ => u.data.length - (intOf i).toNat)
  case atStart => exact ⟨0, Nat.zero_le _, rfl, by simpa using ho4, hb4, hz4⟩
  case round =>
    obtain ⟨t, ht, rfl, hown, hbel, hsz⟩ := hrel
    clear ho4 hb4 hz4
    have d3 : wr.cell? ⟨w.heap.size, 3, none⟩ = some (.slice a u.data.length c) := HC.out wr hbel 3 _ rfl
    by_cases hlt : t < u.data.length
    · rcases hd5 with rfl | hnil
      case inr => rw [hnil] at hlt; simp at hlt
      have hbwr : Below w.heap.size w wr := hbw0.trans (hbel.mono (by omega))
      have hcell : wr.cell? ⟨db, dof + t, none⟩ = some (.int .u8 (u.data.getD t 0)) := cell_later hbwr (hd6 t hlt)
      have hts : Hid (headU u 0 ++ u.data.take (t + 1) = (headU u 0 ++ u.data.take t) ++ [u.data.getD t 0]) := by show _ = _; rw [take_snoc u.data t hlt, List.append_assoc]
      obtain ⟨v', w1', hrun, ho, hb⟩ := append_one wr (w.heap.size + 1) _ _ (u.data.getD t 0) hown hsz (by rw [List.length_append, List.length_take, headU_length]; omega)
      have htb : (t : Int) < (u.data.length : Int) := by omega
      have R1 : Owns w1' (w.heap.size + 1) v' (headU u 0 ++ u.data.take (t + 1)) := by rw [hts.out]; exact ho
      have R2 := hbel.trans hb
      have R3 := Nat.le_trans hsz hb.size
      clear hts ho hb
      generalize u.data.getD t 0 = c at *
      go_wp2_with (at_builtin; refine Lib.wpList_append_run_sl _ rfl _ _ 23 rfl _ _ rfl rfl hrun ?_)
      go_roundw
      case rel => exact ⟨t + 1, by omega, by go_num, R1, R2, R3⟩
      case measure => simp [intOf]; omega
    · have hte : t = u.data.length := by omega
      subst hte
      rw [List.take_length] at hown
      have hbytes : isBytes (headU u 0 ++ u.data) := isBytes_append (headU_bytes u 0) HBt.out
      have d2 : wr.cell? ⟨w.heap.size, 2, none⟩ = some (.bool u.bare) := HC.out wr hbel 2 _ rfl
      have hbwr : Below w.heap.size w wr := hbw0.trans (hbel.mono (by omega))
      cases hu : u.bare
      case true =>
        rw [hu] at d2
        have hB := hown.bts hbytes
        have e : headU u 0 ++ u.data = builtU s d u := by unfold builtU; rw [(fieldU_bare s d u).2 hu]
        rw [e] at hB
        clear e
        clear hown hbytes
        go_wp2
        go_ret2
        exact ⟨_, rfl, hB, hbwr⟩
      case false =>
        rw [hu] at d2
        have HU : Hid (u.bare = false) := hu
        clear hu
        obtain ⟨G, cg, rfl, hH⟩ := holds8_of_owns hown (len := 8 + u.data.length) (by rw [List.length_append, headU_length]) (by omega)
        have hBo := hown.bts hbytes
        clear hown hbytes
        go_wp2_with fail
        refine (rpseudo_any s d 17 (8 + (u.data.length : Int)) _ s0 s1 t0 t1).mono ?_
        rintro e w5 ⟨v5, rfl, hP, hb5⟩
        have hBo5 := hBo.later hb5
        have hH5 := hH.later hb5
        obtain ⟨a5, n5, c5, rfl⟩ := hP.shape
        go_wp2_with fail
        refine (rsum2 w5 _ _ _ (pseudoB s d 17 (8 + (u.data.length : Int))) (headU u 0 ++ u.data) 23 (by simp) hP hBo5 (by rw [pseudo_length, List.length_append, headU_length]; omega)).mono ?_
        rintro e w6 ⟨rfl, rfl⟩
        have bx := below_alloc w5 (.cells #[.slice a5 n5 c5, .slice (some ⟨G, 0, none⟩) (8 + u.data.length) cg] 23)
        have hH6 := hH5.later bx
        have hb6 : Below (w.heap.size + 1) w0 _ := hbel.trans ((below_trans hb5 bx).mono hsz)
        generalize (w5.alloc (.cells #[.slice a5 n5 c5, .slice (some ⟨G, 0, none⟩) (8 + u.data.length) cg] 23)) = w6 at *
        have HFE : Hid (fieldU s d u = shownI (65535 - fold16 (ws (pseudoB s d 17 (8 + (u.data.length : Int)) ++ (headU u 0 ++ u.data))))) := by
          show _ = _
          unfold fieldU
          rw [if_neg (by simp [HU.out])]
          unfold checkU
          rw [turn_fold]
          rfl
        have hS := fold16_bd (ws (pseudoB s d 17 (8 + (u.data.length : Int)) ++ (headU u 0 ++ u.data)))
        generalize fold16 (ws (pseudoB s d 17 (8 + (u.data.length : Int)) ++ (headU u 0 ++ u.data))) = S at *
        clear hP hBo hBo5 hH hH5 hb5 bx hbwr d2 d3 hbel
        have hG := hH6.base
        have c6 := hH6.cell 6 (by omega)
        have c7 := hH6.cell 7 (by omega)
        have f6 := hH6.2.frozenAt 6
        have f7 := hH6.2.frozenAt 7
        have i6 : (6 : Int) < 8 + (u.data.length : Int) := by omega
        have i7 : (7 : Int) < 8 + (u.data.length : Int) := by omega
        obtain ⟨S0, S1⟩ := hS
        by_cases hSS : S = 65535
        · subst hSS
          have HFV : Hid (fieldU s d u = 65535) := HFE.out
          clear HFE
          have hHf := (hH6.store 6 255).store 7 255
          have hbf : Below (w.heap.size + 1) w0 ((w6.setCell ⟨G, 6, none⟩ (.int .u8 255)).setCell ⟨G, 7, none⟩ (.int .u8 255)) := (hb6.setCell (by exact hG) _).setCell (by exact hG) _
          have hBf : Bts ((w6.setCell ⟨G, 6, none⟩ (.int .u8 255)).setCell ⟨G, 7, none⟩ (.int .u8 255)) (.slice (some ⟨G, 0, none⟩) (8 + u.data.length) cg) (builtU s d u) := by
            have e := uset67 u 65535 (by decide) (by decide) u.data
            have e' : ((headU u 0 ++ u.data).set 6 255).set 7 255 = headU u 65535 ++ u.data := e
            rw [e'] at hHf
            unfold builtU
            rw [HFV.out]
            exact hHf.owns.bts (isBytes_append (headU_bytes u _) HBt.out)
          clear hH6 hHf
          go_wp2
          go_ret2
          exact ⟨_, rfl, hBf, hbw0.trans (hbf.mono (by omega))⟩
        · have HFV : Hid (fieldU s d u = 65535 - S) := by show _ = _; rw [HFE.out]; unfold shownI; rw [if_neg (by omega)]
          clear HFE
          have hne : ¬ (65535 - S = 0) := by omega
          have hC0 : 0 ≤ 65535 - S := by omega
          have hHf := (hH6.store 6 ((65535 - S) / 256)).store 7 ((65535 - S) % 256)
          have hbf : Below (w.heap.size + 1) w0 ((w6.setCell ⟨G, 6, none⟩ (.int .u8 ((65535 - S) / 256))).setCell ⟨G, 7, none⟩ (.int .u8 ((65535 - S) % 256))) := (hb6.setCell (by exact hG) _).setCell (by exact hG) _
          have hBf : Bts ((w6.setCell ⟨G, 6, none⟩ (.int .u8 ((65535 - S) / 256))).setCell ⟨G, 7, none⟩ (.int .u8 ((65535 - S) % 256))) (.slice (some ⟨G, 0, none⟩) (8 + u.data.length) cg) (builtU s d u) := by
            rw [uset67 u (65535 - S) hC0 (by omega) u.data] at hHf
            unfold builtU
            rw [HFV.out]
            exact hHf.owns.bts (isBytes_append (headU_bytes u _) HBt.out)
          clear hH6 hHf
          go_wp2
          go_ret2
          exact ⟨_, rfl, hBf, hbw0.trans (hbf.mono (by omega))⟩
end Go.Proofs.Ytdejjokgchbgnaa

namespace Go.Proofs.Ytdejjokgchbgnaa
open Go.RowKit

set_option maxHeartbeats 1000000 in
theorem word_any (b off len cap : Nat) (l : List Int) (q : Int) (k : Nat) (w : World) (hA : At w b off len cap l) (hq : q = (k : Int)) (hk : k + 2 ≤ len) (hl : len ≤ 5000) :
    Calls Try.prog 20 #[.slice (some ⟨b, off, none⟩) len cap, .int .i64 q] w fun e w' => e = .returned (.int .i64 (w2 l k)) ∧ ∃ nq, w' = w.drewN nq := by
  subst hq
  have hL := hA.len
  have c0 := hA.sees k (by omega)
  obtain ⟨k1, hk1⟩ : ∃ k1, k + 1 = k1 := ⟨_, rfl⟩
  have c1 := hA.sees k1 (by omega)
  have b0 := getD_byte l hA.bytes k
  have b1 := getD_byte l hA.bytes k1
  have HW : Hid (w2 l k = l.getD k 0 * 256 + l.getD k1 0) := by show _ = _; rw [← hk1]; rfl
  generalize l.getD k 0 = x at *
  generalize l.getD k1 0 = y at *
  obtain ⟨x0, x1⟩ := b0
  obtain ⟨y0, y1⟩ := b1
  have hor : bits .or .i64 (x * 256) y = x * 256 + y := or_i64 8 (x * 256) y (by omega) (by omega) (by omega) y0 (by omega) (by omega)
  have i0 : (k : Int) < (len : Int) := by omega
  have i1 : (k1 : Int) < (len : Int) := by omega
  have u1 : IntKind.i64.wrap ((k : Int) + 1) = (k1 : Int) := by rw [i64_id _ (by omega) (by omega)]; omega
  have u2 : IntKind.i64.wrap x = x := i64_id _ (by omega) (by omega)
  have u3 : IntKind.i64.wrap (x * 256) = x * 256 := i64_id _ (by omega) (by omega)
  have u4 : IntKind.i64.wrap y = y := i64_id _ (by omega) (by omega)
  clear hA hL hk1
  go_enter Try.func20, Try.ntmps20
  go_wp2
  go_quiet (fail)
  go_wp2
  go_ret
  exact ⟨by rw [HW.out]; rfl, _, rfl⟩

set_option maxHeartbeats 1000000 in
theorem long_any (b off len cap : Nat) (l : List Int) (q : Int) (k : Nat) (w : World) (hA : At w b off len cap l) (hq : q = (k : Int)) (hk : k + 4 ≤ len) (hl : len ≤ 5000) :
    Calls Try.prog 22 #[.slice (some ⟨b, off, none⟩) len cap, .int .i64 q] w fun e w' => e = .returned (.int .u32 (w4 l k)) ∧ ∃ nq, w' = w.drewN nq := by
  subst hq
  have hL := hA.len
  have c0 := hA.sees k (by omega)
  obtain ⟨k1, hk1⟩ : ∃ k1, k + 1 = k1 := ⟨_, rfl⟩
  obtain ⟨k2, hk2⟩ : ∃ k2, k + 2 = k2 := ⟨_, rfl⟩
  obtain ⟨k3, hk3⟩ : ∃ k3, k + 3 = k3 := ⟨_, rfl⟩
  have c1 := hA.sees k1 (by omega)
  have c2 := hA.sees k2 (by omega)
  have c3 := hA.sees k3 (by omega)
  have b0 := getD_byte l hA.bytes k
  have b1 := getD_byte l hA.bytes k1
  have b2 := getD_byte l hA.bytes k2
  have b3 := getD_byte l hA.bytes k3
  have HW : Hid (w4 l k = ((l.getD k 0 * 256 + l.getD k1 0) * 256 + l.getD k2 0) * 256 + l.getD k3 0) := by show _ = _; rw [← hk1, ← hk2, ← hk3]; rfl
  generalize l.getD k 0 = x at *
  generalize l.getD k1 0 = y at *
  generalize l.getD k2 0 = z at *
  generalize l.getD k3 0 = t at *
  obtain ⟨x0, x1⟩ := b0
  obtain ⟨y0, y1⟩ := b1
  obtain ⟨z0, z1⟩ := b2
  obtain ⟨t0, t1⟩ := b3
  have hor1 : bits .or .u32 (x * 16777216) (y * 65536) = x * 16777216 + y * 65536 := or_u32 24 _ _ (by omega) (by omega) (by omega) (by omega) (by omega) (by omega)
  have hor2 : bits .or .u32 (x * 16777216 + y * 65536) (z * 256) = x * 16777216 + y * 65536 + z * 256 := or_u32 16 _ _ (by omega) (by omega) (by omega) (by omega) (by omega) (by omega)
  have hor3 : bits .or .u32 (x * 16777216 + y * 65536 + z * 256) t = x * 16777216 + y * 65536 + z * 256 + t := or_u32 8 _ _ (by omega) (by omega) (by omega) (by omega) (by omega) (by omega)
  have i0 : (k : Int) < (len : Int) := by omega
  have i1 : (k1 : Int) < (len : Int) := by omega
  have i2 : (k2 : Int) < (len : Int) := by omega
  have i3 : (k3 : Int) < (len : Int) := by omega
  have u1 : IntKind.i64.wrap ((k : Int) + 1) = (k1 : Int) := by rw [i64_id _ (by omega) (by omega)]; omega
  have u2 : IntKind.i64.wrap ((k : Int) + 2) = (k2 : Int) := by rw [i64_id _ (by omega) (by omega)]; omega
  have u3 : IntKind.i64.wrap ((k : Int) + 3) = (k3 : Int) := by rw [i64_id _ (by omega) (by omega)]; omega
  have v1 : IntKind.u32.wrap x = x := u32_id _ (by omega) (by omega)
  have v2 : IntKind.u32.wrap y = y := u32_id _ (by omega) (by omega)
  have v3 : IntKind.u32.wrap z = z := u32_id _ (by omega) (by omega)
  have v4 : IntKind.u32.wrap t = t := u32_id _ (by omega) (by omega)
  have v5 : IntKind.u32.wrap (x * 16777216) = x * 16777216 := u32_id _ (by omega) (by omega)
  have v6 : IntKind.u32.wrap (y * 65536) = y * 65536 := u32_id _ (by omega) (by omega)
  have v7 : IntKind.u32.wrap (z * 256) = z * 256 := u32_id _ (by omega) (by omega)
  clear hA hL hk1 hk2 hk3
  go_enter Try.func22, Try.ntmps22
  go_wp2
  go_quiet (fail)
  go_wp2
  go_ret
  exact ⟨ret_int (by rw [HW.out]; omega), _, rfl⟩

/-- Sum of one part, in the document's own answer. -/
theorem one_any (v : Value) (l : List Int) (w : World) (h : Bts w v l) (hbig : l.length ≤ 1099511627776) :
    Calls Try.prog 21 #[v] w fun e w' => e = .returned (.int .i64 (fold16 (ws l))) ∧ Below w.heap.size w w' := by
  have hb : isBytes l := by obtain ⟨a, cap, b, off, h1, h2, h3, h4, h5, h6⟩ := h; exact h4
  have := rsum_any (some ⟨w.heap.size, 0, none⟩) w.heap.size 0 1 [l] (w.alloc (.cells #[v] 23)) (by simp) (by decide) (.inl rfl) (pts_one 23 h) (by simpa using hbig) (by simpa using hb)
  have hc : Calls Try.prog 38 #[.slice (some ⟨w.heap.size, 0, none⟩) 1 1] (w.alloc (.cells #[v] 23)) fun e w' => e = .returned (.int .i64 (fold16 (ws l))) ∧ w' = w.alloc (.cells #[v] 23) := by simpa using this
  obtain ⟨a, n, c, rfl⟩ := h.shape
  clear this
  go_enter Try.func21, Try.ntmps21
  go_wp2_with fail
  refine hc.mono ?_
  rintro e w' ⟨rfl, rfl⟩
  go_wp2
  go_ret
  exact ⟨rfl, below_alloc _ _⟩
end Go.Proofs.Ytdejjokgchbgnaa

namespace Go.Proofs.Ytdejjokgchbgnaa
open Go.RowKit
attribute [local go_sem ↓] Go.wp_at_zero Go.wp_at_succ

theorem make20 : ∃ Z : Array Value, Hid (∀ j, j < 20 → Z[j]? = some (.int .u8 0)) ∧ ∀ W : World, (Instr.makeSlice 23 (.int .i64 20) (.int .i64 20)).run Try.prog W = .ok (.slice (some ⟨W.heap.size, 0, none⟩) 20 20) (W.alloc (.cells Z 5)) := by
  refine ⟨madeCells #[.int .u8 0] 20, ?_, fun W => run_make_row' (P := Try.prog) 23 5 (.int .u8 0) 1 Try.underlying23 info5 rfl .i64 .i64 20 (by decide) (by decide) W⟩
  show ∀ j, j < 20 → (madeCells #[.int .u8 0] 20)[j]? = some (.int .u8 0)
  intro j hj
  simp [madeCells, hj, Nat.mod_one]

def zeros20 : List Int := [0, 0, 0, 0, 0, 0, 0, 0, 0, 0, 0, 0, 0, 0, 0, 0, 0, 0, 0, 0]

end Go.Proofs.Ytdejjokgchbgnaa

namespace Go.Proofs.Ytdejjokgchbgnaa
open Go.RowKit

theorem in_any (x m : Int) (w : World) : Calls Try.prog 24 #[.int .i64 x, .int .i64 m] w fun e w' => e = .returned (.bool (inBb x m)) ∧ w' = w := by
  by_cases h0 : 0 ≤ x
  · by_cases h1 : x ≤ m
    · have E : Hid (inBb x m = true) := decide_eq_true (show inB x m from ⟨h0, h1⟩)
      go_enter Try.func24, Try.ntmps24
      go_wp2
      go_ret
      exact ⟨ret_bool E.out.symm, rfl⟩
    · have E : Hid (inBb x m = false) := decide_eq_false (fun h : inB x m => h1 h.2)
      go_enter Try.func24, Try.ntmps24
      go_wp2
      go_ret
      exact ⟨ret_bool E.out.symm, rfl⟩
  · have E : Hid (inBb x m = false) := decide_eq_false (fun h : inB x m => h0 h.1)
    go_enter Try.func24, Try.ntmps24
    go_wp2
    go_ret
    exact ⟨ret_bool E.out.symm, rfl⟩

end Go.Proofs.Ytdejjokgchbgnaa

namespace Go.Proofs.Ytdejjokgchbgnaa
open Go.RowKit

set_option maxRecDepth 100000 in
set_option maxHeartbeats 1000000 in
theorem rbuild_tos (p : Dg) (ao ab : Option Addr) (co cb : Nat) (w : World) (_ho : p.opts.length ≤ 5000) (_hb : p.body.length ≤ 5000) (h : ¬ inB p.tos 255) :
    Calls Try.prog 11 #[ipV p (.slice ao p.opts.length co) (.slice ab p.body.length cb)] w fun e w' => e = .returned (.tuple #[.slice none 0 0, .int .i64 1]) ∧ Below w.heap.size w w' := by
  have g0 : inBb p.tos 255 = false := decide_eq_false h
  go_enter Try.func11, Try.ntmps11
  go_wp2_with (first | (go_at_call 24; refine (in_any _ _ _).mono ?_; rintro e w' ⟨rfl, rfl⟩))
  go_ret2
  exact ⟨rfl, below_alloc _ _⟩

set_option maxRecDepth 100000 in
set_option maxHeartbeats 1000000 in
theorem rbuild_ttl (p : Dg) (ao ab : Option Addr) (co cb : Nat) (w : World) (_ho : p.opts.length ≤ 5000) (_hb : p.body.length ≤ 5000) (h0 : inB p.tos 255) (h : ¬ inB p.ttl 255) :
    Calls Try.prog 11 #[ipV p (.slice ao p.opts.length co) (.slice ab p.body.length cb)] w fun e w' => e = .returned (.tuple #[.slice none 0 0, .int .i64 1]) ∧ Below w.heap.size w w' := by
  have g0 : inBb p.tos 255 = true := decide_eq_true h0
  have g1 : inBb p.ttl 255 = false := decide_eq_false h
  go_enter Try.func11, Try.ntmps11
  go_wp2_with (first | (go_at_call 24; refine (in_any _ _ _).mono ?_; rintro e w' ⟨rfl, rfl⟩))
  go_ret2
  exact ⟨rfl, below_alloc _ _⟩

set_option maxRecDepth 100000 in
set_option maxHeartbeats 1000000 in
theorem rbuild_proto (p : Dg) (ao ab : Option Addr) (co cb : Nat) (w : World) (_ho : p.opts.length ≤ 5000) (_hb : p.body.length ≤ 5000) (h0 : inB p.tos 255) (h1 : inB p.ttl 255) (h : ¬ inB p.proto 255) :
    Calls Try.prog 11 #[ipV p (.slice ao p.opts.length co) (.slice ab p.body.length cb)] w fun e w' => e = .returned (.tuple #[.slice none 0 0, .int .i64 1]) ∧ Below w.heap.size w w' := by
  have g0 : inBb p.tos 255 = true := decide_eq_true h0
  have g1 : inBb p.ttl 255 = true := decide_eq_true h1
  have g2 : inBb p.proto 255 = false := decide_eq_false h
  go_enter Try.func11, Try.ntmps11
  go_wp2_with (first | (go_at_call 24; refine (in_any _ _ _).mono ?_; rintro e w' ⟨rfl, rfl⟩))
  go_ret2
  exact ⟨rfl, below_alloc _ _⟩

set_option maxRecDepth 100000 in
set_option maxHeartbeats 1000000 in
theorem rbuild_id (p : Dg) (ao ab : Option Addr) (co cb : Nat) (w : World) (_ho : p.opts.length ≤ 5000) (_hb : p.body.length ≤ 5000) (h0 : inB p.tos 255) (h1 : inB p.ttl 255) (h2 : inB p.proto 255) (h : ¬ inB p.id 65535) :
    Calls Try.prog 11 #[ipV p (.slice ao p.opts.length co) (.slice ab p.body.length cb)] w fun e w' => e = .returned (.tuple #[.slice none 0 0, .int .i64 1]) ∧ Below w.heap.size w w' := by
  have g0 : inBb p.tos 255 = true := decide_eq_true h0
  have g1 : inBb p.ttl 255 = true := decide_eq_true h1
  have g2 : inBb p.proto 255 = true := decide_eq_true h2
  have g3 : inBb p.id 65535 = false := decide_eq_false h
  go_enter Try.func11, Try.ntmps11
  go_wp2_with (first | (go_at_call 24; refine (in_any _ _ _).mono ?_; rintro e w' ⟨rfl, rfl⟩))
  go_ret2
  exact ⟨rfl, below_alloc _ _⟩

set_option maxRecDepth 100000 in
set_option maxHeartbeats 1000000 in
theorem rbuild_off (p : Dg) (ao ab : Option Addr) (co cb : Nat) (w : World) (_ho : p.opts.length ≤ 5000) (_hb : p.body.length ≤ 5000) (h0 : inB p.tos 255) (h1 : inB p.ttl 255) (h2 : inB p.proto 255) (h3 : inB p.id 65535) (h : ¬ inB p.off 8191) :
    Calls Try.prog 11 #[ipV p (.slice ao p.opts.length co) (.slice ab p.body.length cb)] w fun e w' => e = .returned (.tuple #[.slice none 0 0, .int .i64 1]) ∧ Below w.heap.size w w' := by
  have g0 : inBb p.tos 255 = true := decide_eq_true h0
  have g1 : inBb p.ttl 255 = true := decide_eq_true h1
  have g2 : inBb p.proto 255 = true := decide_eq_true h2
  have g3 : inBb p.id 65535 = true := decide_eq_true h3
  have g4 : inBb p.off 8191 = false := decide_eq_false h
  go_enter Try.func11, Try.ntmps11
  go_wp2_with (first | (go_at_call 24; refine (in_any _ _ _).mono ?_; rintro e w' ⟨rfl, rfl⟩))
  go_ret2
  exact ⟨rfl, below_alloc _ _⟩

set_option maxRecDepth 100000 in
set_option maxHeartbeats 1000000 in
theorem rbuild_o40 (p : Dg) (ao ab : Option Addr) (co cb : Nat) (w : World) (_ho : p.opts.length ≤ 5000) (_hb : p.body.length ≤ 5000) (h0 : inB p.tos 255) (h1 : inB p.ttl 255) (h2 : inB p.proto 255) (h3 : inB p.id 65535) (h4 : inB p.off 8191) (h : 40 < p.opts.length) :
    Calls Try.prog 11 #[ipV p (.slice ao p.opts.length co) (.slice ab p.body.length cb)] w fun e w' => e = .returned (.tuple #[.slice none 0 0, .int .i64 1]) ∧ Below w.heap.size w w' := by
  have g0 : inBb p.tos 255 = true := decide_eq_true h0
  have g1 : inBb p.ttl 255 = true := decide_eq_true h1
  have g2 : inBb p.proto 255 = true := decide_eq_true h2
  have g3 : inBb p.id 65535 = true := decide_eq_true h3
  have g4 : inBb p.off 8191 = true := decide_eq_true h4
  have h' : (40 : Int) < (p.opts.length : Int) := by omega
  go_enter Try.func11, Try.ntmps11
  go_wp2_with (first | (go_at_call 24; refine (in_any _ _ _).mono ?_; rintro e w' ⟨rfl, rfl⟩))
  go_ret2
  exact ⟨rfl, below_alloc _ _⟩

set_option maxRecDepth 100000 in
set_option maxHeartbeats 1000000 in
theorem rbuild_o4 (p : Dg) (ao ab : Option Addr) (co cb : Nat) (w : World) (_ho : p.opts.length ≤ 5000) (_hb : p.body.length ≤ 5000) (h0 : inB p.tos 255) (h1 : inB p.ttl 255) (h2 : inB p.proto 255) (h3 : inB p.id 65535) (h4 : inB p.off 8191) (h5 : p.opts.length ≤ 40) (h : ¬ p.opts.length % 4 = 0) :
    Calls Try.prog 11 #[ipV p (.slice ao p.opts.length co) (.slice ab p.body.length cb)] w fun e w' => e = .returned (.tuple #[.slice none 0 0, .int .i64 1]) ∧ Below w.heap.size w w' := by
  have g0 : inBb p.tos 255 = true := decide_eq_true h0
  have g1 : inBb p.ttl 255 = true := decide_eq_true h1
  have g2 : inBb p.proto 255 = true := decide_eq_true h2
  have g3 : inBb p.id 65535 = true := decide_eq_true h3
  have g4 : inBb p.off 8191 = true := decide_eq_true h4
  have k5 : ¬ (40 : Int) < (p.opts.length : Int) := by omega
  have h' : (((p.opts.length : Int) % 4) != 0) = true := by rw [bne_iff_ne]; omega
  go_enter Try.func11, Try.ntmps11
  go_wp2_with (first | (go_at_call 24; refine (in_any _ _ _).mono ?_; rintro e w' ⟨rfl, rfl⟩))
  go_ret2
  exact ⟨rfl, below_alloc _ _⟩

set_option maxRecDepth 100000 in
set_option maxHeartbeats 1000000 in
theorem rbuild_long (p : Dg) (ao ab : Option Addr) (co cb : Nat) (w : World) (_ho : p.opts.length ≤ 5000) (_hb : p.body.length ≤ 5000) (h0 : inB p.tos 255) (h1 : inB p.ttl 255) (h2 : inB p.proto 255) (h3 : inB p.id 65535) (h4 : inB p.off 8191) (h5 : p.opts.length ≤ 40) (h6 : p.opts.length % 4 = 0) (h : 2048 < totalI p) :
    Calls Try.prog 11 #[ipV p (.slice ao p.opts.length co) (.slice ab p.body.length cb)] w fun e w' => e = .returned (.tuple #[.slice none 0 0, .int .i64 3]) ∧ Below w.heap.size w w' := by
  have g0 : inBb p.tos 255 = true := decide_eq_true h0
  have g1 : inBb p.ttl 255 = true := decide_eq_true h1
  have g2 : inBb p.proto 255 = true := decide_eq_true h2
  have g3 : inBb p.id 65535 = true := decide_eq_true h3
  have g4 : inBb p.off 8191 = true := decide_eq_true h4
  have k5 : ¬ (40 : Int) < (p.opts.length : Int) := by omega
  have k6 : (((p.opts.length : Int) % 4) != 0) = false := by simp; omega
  have h' : (2048 : Int) - (20 + (p.opts.length : Int)) < (p.body.length : Int) := by unfold totalI at h; omega
  go_enter Try.func11, Try.ntmps11
  go_wp2_with (first | (go_at_call 24; refine (in_any _ _ _).mono ?_; rintro e w' ⟨rfl, rfl⟩))
  go_ret2
  exact ⟨rfl, below_alloc _ _⟩

theorem rbuild_no (p : Dg) (ao ab : Option Addr) (co cb : Nat) (w : World) (ho : p.opts.length ≤ 5000) (hb : p.body.length ≤ 5000) (h : ¬ buildE p = 0) :
    Calls Try.prog 11 #[ipV p (.slice ao p.opts.length co) (.slice ab p.body.length cb)] w fun e w' => e = .returned (.tuple #[.slice none 0 0, .int .i64 (buildE p)]) ∧ Below w.heap.size w w' := by
  obtain ⟨E, hE⟩ : ∃ E, E = buildE p := ⟨_, rfl⟩
  rw [← hE] at h ⊢
  unfold buildE at hE
  by_cases h0 : inB p.tos 255
  case neg => rw [if_pos h0] at hE; subst hE; exact rbuild_tos p ao ab co cb w ho hb h0
  rw [if_neg (by simpa using h0)] at hE
  by_cases h1 : inB p.ttl 255
  case neg => rw [if_pos h1] at hE; subst hE; exact rbuild_ttl p ao ab co cb w ho hb h0 h1
  rw [if_neg (by simpa using h1)] at hE
  by_cases h2 : inB p.proto 255
  case neg => rw [if_pos h2] at hE; subst hE; exact rbuild_proto p ao ab co cb w ho hb h0 h1 h2
  rw [if_neg (by simpa using h2)] at hE
  by_cases h3 : inB p.id 65535
  case neg => rw [if_pos h3] at hE; subst hE; exact rbuild_id p ao ab co cb w ho hb h0 h1 h2 h3
  rw [if_neg (by simpa using h3)] at hE
  by_cases h4 : inB p.off 8191
  case neg => rw [if_pos h4] at hE; subst hE; exact rbuild_off p ao ab co cb w ho hb h0 h1 h2 h3 h4
  rw [if_neg (by simpa using h4)] at hE
  by_cases h5 : 40 < p.opts.length
  · rw [if_pos h5] at hE; subst hE; exact rbuild_o40 p ao ab co cb w ho hb h0 h1 h2 h3 h4 h5
  rw [if_neg h5] at hE
  by_cases h6 : p.opts.length % 4 = 0
  case neg => rw [if_pos h6] at hE; subst hE; exact rbuild_o4 p ao ab co cb w ho hb h0 h1 h2 h3 h4 (by omega) h6
  rw [if_neg (by simpa using h6)] at hE
  by_cases h7 : 2048 < totalI p
  · rw [if_pos h7] at hE; subst hE; exact rbuild_long p ao ab co cb w ho hb h0 h1 h2 h3 h4 (by omega) h6 h7
  rw [if_neg h7] at hE
  exact absurd hE h
end Go.Proofs.Ytdejjokgchbgnaa

namespace Go.Proofs.Ytdejjokgchbgnaa
open Go.RowKit
attribute [local go_sem ↓] Go.wp_at_zero Go.wp_at_succ

/-- The cells of a datagram that was boxed. -/
theorem boxes {w w' : World} {p : Dg} {vo vb : Value} {t : TypeId} (hb : Below (w.alloc (.cells (ipC p vo vb) t)).heap.size (w.alloc (.cells (ipC p vo vb) t)) w') :
    w'.cell? ⟨w.heap.size, 0, none⟩ = some (.int .i64 p.tos) ∧ w'.cell? ⟨w.heap.size, 1, none⟩ = some (.int .i64 p.id) ∧ w'.cell? ⟨w.heap.size, 2, none⟩ = some (.bool p.df) ∧ w'.cell? ⟨w.heap.size, 3, none⟩ = some (.bool p.mf) ∧
    w'.cell? ⟨w.heap.size, 4, none⟩ = some (.int .i64 p.off) ∧ w'.cell? ⟨w.heap.size, 5, none⟩ = some (.int .i64 p.ttl) ∧ w'.cell? ⟨w.heap.size, 6, none⟩ = some (.int .i64 p.proto) ∧ w'.cell? ⟨w.heap.size, 7, none⟩ = some (.int .u32 p.src) ∧
    w'.cell? ⟨w.heap.size, 8, none⟩ = some (.int .u32 p.dst) ∧ w'.cell? ⟨w.heap.size, 9, none⟩ = some vo ∧ w'.cell? ⟨w.heap.size, 10, none⟩ = some vb :=
  ⟨box_cell hb 0 _ rfl, box_cell hb 1 _ rfl, box_cell hb 2 _ rfl, box_cell hb 3 _ rfl, box_cell hb 4 _ rfl, box_cell hb 5 _ rfl, box_cell hb 6 _ rfl, box_cell hb 7 _ rfl, box_cell hb 8 _ rfl, box_cell hb 9 _ rfl, box_cell hb 10 _ rfl⟩

theorem head_bts {w : World} {G : Nat} {p : Dg} {c : Int} (h : Sees w G 0 (headB p c)) (hb : isBytes p.opts) (hl : p.opts.length ≤ 2028) : Bts w (.slice (some ⟨G, 0, none⟩) (20 + p.opts.length) (20 + p.opts.length)) (headB p c) :=
  ⟨_, 20 + p.opts.length, G, 0, by rw [head_length], by rw [head_length]; exact Nat.le_refl _, by unfold maxLen; omega, head_bytes p c hb, .inl rfl, h⟩

theorem res_later {w1 w' : World} {n : Nat} {a b : Value} (h : w1.cell? ⟨n + 1, 0, none⟩ = some a ∧ w1.frozen? ⟨n + 1, 0, none⟩ = false ∧ w1.cell? ⟨n + 1 + 1, 0, none⟩ = some b ∧ w1.frozen? ⟨n + 1 + 1, 0, none⟩ = false)
    (hsz : n + 1 + 1 + 1 ≤ w1.heap.size) (hb : Below w1.heap.size w1 w') : w'.cell? ⟨n + 1, 0, none⟩ = some a ∧ w'.frozen? ⟨n + 1, 0, none⟩ = false ∧ w'.cell? ⟨n + 1 + 1, 0, none⟩ = some b ∧ w'.frozen? ⟨n + 1 + 1, 0, none⟩ = false :=
  ⟨cell_later hb h.1, by rw [hb.frozen (by show n + 1 < _; omega)]; exact h.2.1, cell_later hb h.2.2.1, by rw [hb.frozen (by show n + 1 + 1 < _; omega)]; exact h.2.2.2⟩

end Go.Proofs.Ytdejjokgchbgnaa

namespace Go.Proofs.Ytdejjokgchbgnaa
open Go.RowKit

def plainDg : Dg := ⟨0, 0, false, false, 0, 64, 17, 167772161, 134744072, [], []⟩

theorem plain_ok : plainDg.Ok := ⟨by decide, by decide, by decide, by decide, (fun z h => by cases h), (fun z h => by cases h)⟩

theorem plain_len : (built plainDg).length = 20 := by decide

def smallB (p : Dg) : Bool := decide (p.body.length ≤ 5000) && decide (p.opts.length ≤ 5000)

set_option maxHeartbeats 2000000 in
theorem ipsame_one (p : Dg) (vo vb vo' vb' : Value) (w : World) (ho : Bts w vo p.opts) (hb : Bts w vb p.body) (ho' : Bts w vo' p.opts) (hb' : Bts w vb' p.body) :
    Calls Try.prog 33 #[ipV p vo vb, ipV p vo' vb'] w fun e w' => e = .returned (.bool true) ∧ Below w.heap.size w w' := by
  have hb2 := below_trans (below_alloc w (.cells (ipC p vo vb) 29)) (below_alloc _ (.cells (ipC p vo' vb') 29))
  have g1 := ho.later hb2
  have g2 := hb.later hb2
  have g3 := ho'.later hb2
  have g4 := hb'.later hb2
  obtain ⟨a1, n1, k1, rfl⟩ := ho.shape
  obtain ⟨a2, n2, k2, rfl⟩ := hb.shape
  obtain ⟨a3, n3, k3, rfl⟩ := ho'.shape
  obtain ⟨a4, n4, k4, rfl⟩ := hb'.shape
  clear ho hb ho' hb'
  go_enter Try.func33, Try.ntmps33
  go_wp2_with fail
  refine (same_one _ _ _ _ (by exact g1) (by exact g3)).mono ?_
  rintro e w1 ⟨rfl, nq, rfl⟩
  go_wp2_with fail
  refine (same_one _ _ _ _ (by exact bts_drewN g2 _) (by exact bts_drewN g4 _)).mono ?_
  rintro e w1 ⟨rfl, nq', rfl⟩
  go_wp2
  go_ret
  exact ⟨rfl, below_drewN hb2 _⟩
end Go.Proofs.Ytdejjokgchbgnaa

namespace Go.Proofs.Ytdejjokgchbgnaa
open Go.RowKit

theorem parse_ok' (b off len cap : Nat) (l : List Int) (p : Dg) (w : World) (hA : At w b off len cap l) (g : Good l) (hp : dgOf l = p) :
    Calls Try.prog 26 #[.slice (some ⟨b, off, none⟩) len cap] w fun e w' =>
      ∃ a1 k1 a2 k2, e = .returned (.tuple #[ipV p (.slice a1 p.opts.length k1) (.slice a2 p.body.length k2), .int .i64 0]) ∧ Bts w' (.slice a1 p.opts.length k1) p.opts ∧ Bts w' (.slice a2 p.body.length k2) p.body ∧ Below w.heap.size w w' := by
  subst hp; exact parse_ok b off len cap l w hA g
end Go.Proofs.Ytdejjokgchbgnaa

namespace Go.Proofs.Ytdejjokgchbgnaa
open Go.RowKit

theorem bts_lit4 (w : World) (a b : Int) (ha : 0 ≤ a ∧ a < 256) (hb : 0 ≤ b ∧ b < 256) : Bts (w.alloc (.cells #[.int .u8 a, .int .u8 b, .int .u8 0, .int .u8 0] 5)) (.slice (some ⟨w.heap.size, 0, none⟩) 4 4) [a, b, 0, 0] := by
  refine ⟨_, 4, w.heap.size, 0, rfl, by simp, by decide, ?_, .inl rfl, ?_⟩
  · intro z hz; simp at hz; rcases hz with rfl | rfl | rfl <;> omega
  · intro i hi
    have : i = 0 ∨ i = 1 ∨ i = 2 ∨ i = 3 := by simp at hi; omega
    rcases this with rfl | rfl | rfl | rfl <;> simp

theorem boxes9 {w w' : World} {p : Dg} {vo vb : Value} {t : TypeId} (hb : Below (w.alloc (.cells (ipC p vo vb) t)).heap.size (w.alloc (.cells (ipC p vo vb) t)) w') : w'.cell? ⟨w.heap.size, 9, none⟩ = some vo ∧ w'.cell? ⟨w.heap.size, 10, none⟩ = some vb := ⟨box_cell hb 9 _ rfl, box_cell hb 10 _ rfl⟩

set_option maxRecDepth 100000 in
set_option maxHeartbeats 4000000 in
theorem rbuild_ok_tt (p : Dg) (ao ab : Option Addr) (co cb : Nat) (w : World) (k : p.Ok) (f : Fits p) (hO : Bts w (.slice ao p.opts.length co) p.opts) (hB : Bts w (.slice ab p.body.length cb) p.body) (hdf : p.df = true) (hmf : p.mf = true) :
    Calls Try.prog 11 #[ipV p (.slice ao p.opts.length co) (.slice ab p.body.length cb)] w fun e w' =>
      ∃ v, e = .returned (.tuple #[v, .int .i64 0]) ∧ Owns w' w.heap.size v (built p) ∧ Below w.heap.size w w' := by
  have g0 : inBb p.tos 255 = true := decide_eq_true f.tos
  have g1 : inBb p.ttl 255 = true := decide_eq_true f.ttl
  have g2 : inBb p.proto 255 = true := decide_eq_true f.proto
  have g3 : inBb p.id 65535 = true := decide_eq_true f.id
  have g4 : inBb p.off 8191 = true := decide_eq_true f.off
  have HK : Hid (p.Ok) := k
  have HF : Hid (Fits p) := f
  have HFL : Hid (flagsI p = p.off + 24576) := by show _ = _; unfold flagsI flagI; rw [hdf, hmf]; simp; try omega
  have K1 := k.src0
  have K2 := k.src1
  have K3 := k.dst0
  have K4 := k.dst1
  obtain ⟨⟨t0, t1⟩, ⟨l0, l1⟩, ⟨q0, q1⟩, ⟨i0, i1⟩, ⟨o0, o1⟩, o40, o4, hall⟩ := f
  have hlen : p.opts.length + p.body.length ≤ 2028 := by unfold totalI at hall; omega
  have HT : Hid (totalI p = 20 + (p.opts.length : Int) + (p.body.length : Int)) := rfl
  have hor1 := or64 ((20 + (p.opts.length : Int)) / 4) (by omega) (by omega)
  have hoA := orA p.off o0 o1
  have hoB := orB p.off o0 o1
  have hoC := orC p.off o0 o1
  have k5 : ¬ (40 : Int) < (p.opts.length : Int) := by omega
  have k6 : (((p.opts.length : Int) % 4) != 0) = false := by simp; omega
  have k7 : ¬ (2048 : Int) - (20 + (p.opts.length : Int)) < (p.body.length : Int) := by omega
  obtain ⟨oa, oc, ob, oo, hoe, ho2, ho3, ho4, ho5, ho6⟩ := hO
  obtain ⟨ba, bc, bb, bo, hbe, hb2, hb3, hb4, hb5, hb6⟩ := hB
  simp only [Value.slice.injEq, true_and] at hoe hbe
  obtain ⟨rfl, rfl⟩ := hoe
  obtain ⟨rfl, rfl⟩ := hbe
  clear k o4 hall
  go_enter Try.func11, Try.ntmps11
  go_wp2_with (first | (go_at_call 24; refine (in_any _ _ _).mono ?_; rintro e w' ⟨rfl, rfl⟩))
  obtain ⟨w0, hw0⟩ : ∃ w0, w0 = w.alloc (.cells #[.int .i64 p.tos, .int .i64 p.id, .bool true, .bool true, .int .i64 p.off, .int .i64 p.ttl, .int .i64 p.proto, .int .u32 p.src, .int .u32 p.dst, .slice ao p.opts.length co, .slice ab p.body.length cb] 29) := ⟨_, rfl⟩
  rw [← hw0]
  have hsz0 : w0.heap.size = w.heap.size + 1 := by rw [hw0]; simp
  have hbw0 : Below w.heap.size w w0 := by rw [hw0]; exact below_alloc _ _
  have HC : Hid (∀ (w' : World), Below (w.heap.size + 1) w0 w' → ∀ i v, (#[.int .i64 p.tos, .int .i64 p.id, .bool true, .bool true, .int .i64 p.off, .int .i64 p.ttl, .int .i64 p.proto, .int .u32 p.src, .int .u32 p.dst, .slice ao p.opts.length co, .slice ab p.body.length cb] : Array Value)[i]? = some v → w'.cell? ⟨w.heap.size, i, none⟩ = some v) := by
    intro w' hb i v hv
    rw [hb.cell (by show w.heap.size < w.heap.size + 1; omega), hw0, World.cell?_alloc_mark w _ _ (0, 0) i]
    exact hv
  have hO0 : Owns (w0.alloc (.cells #[.int .u8 (64 + (20 + (p.opts.length : Int)) / 4), .int .u8 p.tos] 5)) (w.heap.size + 1) (.slice (some ⟨w.heap.size + 1, 0, none⟩) 2 2) [64 + (20 + (p.opts.length : Int)) / 4, p.tos] := by
    have := owns_lit2 w0 (64 + (20 + (p.opts.length : Int)) / 4) p.tos
    rwa [hsz0] at this
  have hb00 : Below (w.heap.size + 1) w0 (w0.alloc (.cells #[.int .u8 (64 + (20 + (p.opts.length : Int)) / 4), .int .u8 p.tos] 5)) := by rw [← hsz0]; exact below_alloc _ _
  refine (lay_any _ (w.heap.size + 1) _ _ 2 2 _ w0 hO0 (by simp; omega) (by simp) rfl (by decide) hb00).mono ?_
  rintro e w1 ⟨v1, rfl, ho1, hb1, hz1⟩
  have d1 : w1.cell? ⟨w.heap.size, 1, none⟩ = some (.int .i64 p.id) := HC.out w1 hb1 1 _ rfl
  clear hO0 hb00 hw0
  go_wp2_with fail
  refine (lay_any _ (w.heap.size + 1) _ _ 2 2 _ w0 ho1 hz1 (by simp [bytesOfN]) rfl (by decide) hb1).mono ?_
  rintro e w2' ⟨v2, rfl, ho2', hb2', hz2⟩
  clear ho1 hb1 hz1 d1
  go_wp2_with fail
  refine (lay_any _ (w.heap.size + 1) _ _ 2 2 _ w0 ho2' hz2 (by simp [bytesOfN]) rfl (by decide) hb2').mono ?_
  rintro e w3 ⟨v3, rfl, ho3', hb3', hz3⟩
  clear ho2' hb2' hz2
  have d5 : w3.cell? ⟨w.heap.size, 5, none⟩ = some (.int .i64 p.ttl) := HC.out w3 hb3' 5 _ rfl
  have d6 : w3.cell? ⟨w.heap.size, 6, none⟩ = some (.int .i64 p.proto) := HC.out w3 hb3' 6 _ rfl
  obtain ⟨v4, w4, hrun4, ho4', hb4'⟩ := append_bts (w3.alloc (.cells #[.int .u8 p.ttl, .int .u8 p.proto, .int .u8 0, .int .u8 0] 5)) (w.heap.size + 1) v3 _ _ _ (World.ownsRow.alloc ho3' _) (bts_lit4 w3 p.ttl p.proto (by omega) (by omega)) (by simp; omega) (by simp [bytesOfN])
  have hb4'' : Below (w.heap.size + 1) w0 w4 := (hb3'.alloc hz3 _).trans hb4'
  have hz4 : w.heap.size + 1 ≤ w4.heap.size := by have := hb4'.size; simp only [World.size_alloc] at this; omega
  have d7 : w4.cell? ⟨w.heap.size, 7, none⟩ = some (.int .u32 p.src) := HC.out w4 hb4'' 7 _ rfl
  clear ho3' hb3' hb4'
  go_wp2_with (at_builtin; refine Lib.wpList_append_run_sl _ rfl _ _ 23 rfl _ _ rfl rfl hrun4 ?_)
  refine (lay_any _ (w.heap.size + 1) _ _ 4 4 _ w0 ho4' hz4 (by simp [bytesOfN]) rfl (by decide) hb4'').mono ?_
  rintro e w5 ⟨v5, rfl, ho5', hb5', hz5⟩
  have d8 : w5.cell? ⟨w.heap.size, 8, none⟩ = some (.int .u32 p.dst) := HC.out w5 hb5' 8 _ rfl
  clear ho4' hb4'' hz4 d7 d5 d6 hrun4 hz3
  go_wp2_with fail
  refine (lay_any _ (w.heap.size + 1) _ _ 4 4 _ w0 ho5' hz5 (by simp [bytesOfN]) rfl (by decide) hb5').mono ?_
  rintro e w6 ⟨v6, rfl, ho6', hb6', hz6⟩
  clear ho5' hb5' hz5 d8
  have hr : Owns w6 (w.heap.size + 1) v6 (rhead p) := by
    unfold rhead
    rw [HT.out, HFL.out]
    have e256a : p.src / 16777216 % 256 = p.src / 16777216 := by omega
    have e256b : p.dst / 16777216 % 256 = p.dst / 16777216 := by omega
    simpa [bytesOfN, e256a, e256b] using ho6'
  clear ho6'
  go_wp2
  go_loopw [6, 7] (fun v i wr => ∃ t : Nat, t ≤ p.opts.length ∧ i = .int .i64 (t : Int) ∧ Owns wr (w.heap.size + 1) v (rhead p ++ p.opts.take t) ∧ Below (w.heap.size + 1) w0 wr ∧ w.heap.size + 1 ≤ wr.heap.size) (fun _ i _ => p.opts.length - (intOf i).toNat)
  case atStart => exact ⟨0, Nat.zero_le _, rfl, by simpa using hr, hb6', hz6⟩
  case round =>
    obtain ⟨t, ht, rfl, hown, hbel, hsz⟩ := hrel
    have d9 : wr.cell? ⟨w.heap.size, 9, none⟩ = some (.slice ao p.opts.length co) := HC.out wr hbel 9 _ rfl
    by_cases hlt : t < p.opts.length
    · rcases ho5 with rfl | hnil
      case inr => rw [hnil] at hlt; simp at hlt
      have hbwr : Below w.heap.size w wr := hbw0.trans (hbel.mono (by omega))
      have hcell : wr.cell? ⟨ob, oo + t, none⟩ = some (.int .u8 (p.opts.getD t 0)) := cell_later hbwr (ho6 t hlt)
      have hts : Hid (rhead p ++ p.opts.take (t + 1) = (rhead p ++ p.opts.take t) ++ [p.opts.getD t 0]) := by show _ = _; rw [take_snoc p.opts t hlt, List.append_assoc]
      obtain ⟨v', w1', hrun, ho, hb⟩ := append_one wr (w.heap.size + 1) _ _ (p.opts.getD t 0) hown hsz (by rw [List.length_append, List.length_take]; simp [rhead]; omega)
      have htb : (t : Int) < (p.opts.length : Int) := by omega
      have R1 : Owns w1' (w.heap.size + 1) v' (rhead p ++ p.opts.take (t + 1)) := by rw [hts.out]; exact ho
      have R2 := hbel.trans hb
      have R3 := Nat.le_trans hsz hb.size
      clear hts ho hb
      generalize p.opts.getD t 0 = c at *
      go_wp2_with (at_builtin; refine Lib.wpList_append_run_sl _ rfl _ _ 23 rfl _ _ rfl rfl hrun ?_)
      go_roundw
      case rel => exact ⟨t + 1, by omega, by go_num, R1, R2, R3⟩
      case measure => simp [intOf]; omega
    · have hte : t = p.opts.length := by omega
      subst hte
      rw [List.take_length, rhead_eq p HK.out HF.out] at hown
      obtain ⟨G, cg, rfl, hH⟩ := holds8_of_owns hown (head_length p 0) (by omega)
      clear hr hb6' hz6
      go_wp2_with fail
      refine (one_any _ (headB p 0) _ (hown.bts (head_bytes p 0 HK.out.opts)) (by rw [head_length]; omega)).mono ?_
      rintro e w7 ⟨rfl, hb7⟩
      have hH7 := hH.later hb7
      have hb7' : Below (w.heap.size + 1) w0 w7 := hbel.trans (hb7.mono hsz)
      have hz7 : w.heap.size + 1 ≤ w7.heap.size := Nat.le_trans hsz hb7.size
      have hG := hH7.base
      have c10 := hH7.cell 10 (by omega)
      have c11 := hH7.cell 11 (by omega)
      have f10 := hH7.2.frozenAt 10
      have f11 := hH7.2.frozenAt 11
      have i10 : (10 : Int) < 20 + (p.opts.length : Int) := by omega
      have i11 : (11 : Int) < 20 + (p.opts.length : Int) := by omega
      have HS : Hid (checkI p = 65535 - fold16 (ws (headB p 0))) := by show _ = _; unfold checkI; rw [turn_fold]
      have hS := fold16_bd (ws (headB p 0))
      generalize fold16 (ws (headB p 0)) = S at *
      clear hown hH hb7 d9
      obtain ⟨S0, S1⟩ := hS
      have hS2 : 0 ≤ 65535 - S := by omega
      go_wp2
      have hHf : Holds8 ((w7.setCell ⟨G, 10, none⟩ (.int .u8 ((65535 - S) / 256))).setCell ⟨G, 11, none⟩ (.int .u8 ((65535 - S) % 256))) (w.heap.size + 1) G (20 + p.opts.length) cg (headB p (checkI p)) := by
        have := (hH7.store 10 ((65535 - S) / 256)).store 11 ((65535 - S) % 256)
        have e : ((headB p 0).set 10 ((65535 - S) / 256)).set 11 ((65535 - S) % 256) = headB p (checkI p) := by rw [← HS.out]; exact rcheck p
        rw [e] at this
        exact this
      have hbf : Below (w.heap.size + 1) w0 ((w7.setCell ⟨G, 10, none⟩ (.int .u8 ((65535 - S) / 256))).setCell ⟨G, 11, none⟩ (.int .u8 ((65535 - S) % 256))) := (hb7'.setCell (by exact hG) _).setCell (by exact hG) _
      have hzf : w.heap.size + 1 ≤ ((w7.setCell ⟨G, 10, none⟩ (.int .u8 ((65535 - S) / 256))).setCell ⟨G, 11, none⟩ (.int .u8 ((65535 - S) % 256))).heap.size := by simpa using hz7
      generalize ((w7.setCell ⟨G, 10, none⟩ (.int .u8 ((65535 - S) / 256))).setCell ⟨G, 11, none⟩ (.int .u8 ((65535 - S) % 256))) = w8 at *
      clear hH7 hb7' hz7 c10 c11 f10 f11 HS hbel hsz
      have hof := hHf.owns
      clear hHf
      go_loopw [6, 9] (fun v i wr => ∃ t : Nat, t ≤ p.body.length ∧ i = .int .i64 (t : Int) ∧ Owns wr (w.heap.size + 1) v (headB p (checkI p) ++ p.body.take t) ∧ Below (w.heap.size + 1) w0 wr ∧ w.heap.size + 1 ≤ wr.heap.size) (fun _ i _ => p.body.length - (intOf i).toNat)
      case atStart => exact ⟨0, Nat.zero_le _, rfl, by simpa using hof, hbf, hzf⟩
      case round =>
        obtain ⟨t, ht, rfl, hown, hbel, hsz⟩ := hrel
        have d10 : wr.cell? ⟨w.heap.size, 10, none⟩ = some (.slice ab p.body.length cb) := HC.out wr hbel 10 _ rfl
        by_cases hlt : t < p.body.length
        · rcases hb5 with rfl | hnil
          case inr => rw [hnil] at hlt; simp at hlt
          have hbwr : Below w.heap.size w wr := hbw0.trans (hbel.mono (by omega))
          have hcell : wr.cell? ⟨bb, bo + t, none⟩ = some (.int .u8 (p.body.getD t 0)) := cell_later hbwr (hb6 t hlt)
          have hts : Hid (headB p (checkI p) ++ p.body.take (t + 1) = (headB p (checkI p) ++ p.body.take t) ++ [p.body.getD t 0]) := by show _ = _; rw [take_snoc p.body t hlt, List.append_assoc]
          obtain ⟨v', w1', hrun, ho, hb⟩ := append_one wr (w.heap.size + 1) _ _ (p.body.getD t 0) hown hsz (by rw [List.length_append, List.length_take, head_length]; omega)
          have htb : (t : Int) < (p.body.length : Int) := by omega
          have R1 : Owns w1' (w.heap.size + 1) v' (headB p (checkI p) ++ p.body.take (t + 1)) := by rw [hts.out]; exact ho
          have R2 := hbel.trans hb
          have R3 := Nat.le_trans hsz hb.size
          clear hts ho hb
          generalize p.body.getD t 0 = c at *
          go_wp2_with (at_builtin; refine Lib.wpList_append_run_sl _ rfl _ _ 23 rfl _ _ rfl rfl hrun ?_)
          go_roundw
          case rel => exact ⟨t + 1, by omega, by go_num, R1, R2, R3⟩
          case measure => simp [intOf]; omega
        · have hte : t = p.body.length := by omega
          subst hte
          rw [List.take_length] at hown
          have hbt : Owns wr w.heap.size _ (built p) := hown.low (by omega)
          clear hown hof
          go_wp2
          go_ret2
          exact ⟨_, rfl, hbt, hbw0.trans (hbel.mono (by omega))⟩

set_option maxRecDepth 100000 in
set_option maxHeartbeats 4000000 in
theorem rbuild_ok_ff (p : Dg) (ao ab : Option Addr) (co cb : Nat) (w : World) (k : p.Ok) (f : Fits p) (hO : Bts w (.slice ao p.opts.length co) p.opts) (hB : Bts w (.slice ab p.body.length cb) p.body) (hdf : p.df = false) (hmf : p.mf = false) :
    Calls Try.prog 11 #[ipV p (.slice ao p.opts.length co) (.slice ab p.body.length cb)] w fun e w' =>
      ∃ v, e = .returned (.tuple #[v, .int .i64 0]) ∧ Owns w' w.heap.size v (built p) ∧ Below w.heap.size w w' := by
  have g0 : inBb p.tos 255 = true := decide_eq_true f.tos
  have g1 : inBb p.ttl 255 = true := decide_eq_true f.ttl
  have g2 : inBb p.proto 255 = true := decide_eq_true f.proto
  have g3 : inBb p.id 65535 = true := decide_eq_true f.id
  have g4 : inBb p.off 8191 = true := decide_eq_true f.off
  have HK : Hid (p.Ok) := k
  have HF : Hid (Fits p) := f
  have HFL : Hid (flagsI p = p.off) := by show _ = _; unfold flagsI flagI; rw [hdf, hmf]; simp; try omega
  have K1 := k.src0
  have K2 := k.src1
  have K3 := k.dst0
  have K4 := k.dst1
  obtain ⟨⟨t0, t1⟩, ⟨l0, l1⟩, ⟨q0, q1⟩, ⟨i0, i1⟩, ⟨o0, o1⟩, o40, o4, hall⟩ := f
  have hlen : p.opts.length + p.body.length ≤ 2028 := by unfold totalI at hall; omega
  have HT : Hid (totalI p = 20 + (p.opts.length : Int) + (p.body.length : Int)) := rfl
  have hor1 := or64 ((20 + (p.opts.length : Int)) / 4) (by omega) (by omega)
  have hoA := orA p.off o0 o1
  have hoB := orB p.off o0 o1
  have hoC := orC p.off o0 o1
  have k5 : ¬ (40 : Int) < (p.opts.length : Int) := by omega
  have k6 : (((p.opts.length : Int) % 4) != 0) = false := by simp; omega
  have k7 : ¬ (2048 : Int) - (20 + (p.opts.length : Int)) < (p.body.length : Int) := by omega
  obtain ⟨oa, oc, ob, oo, hoe, ho2, ho3, ho4, ho5, ho6⟩ := hO
  obtain ⟨ba, bc, bb, bo, hbe, hb2, hb3, hb4, hb5, hb6⟩ := hB
  simp only [Value.slice.injEq, true_and] at hoe hbe
  obtain ⟨rfl, rfl⟩ := hoe
  obtain ⟨rfl, rfl⟩ := hbe
  clear k o4 hall
  go_enter Try.func11, Try.ntmps11
  go_wp2_with (first | (go_at_call 24; refine (in_any _ _ _).mono ?_; rintro e w' ⟨rfl, rfl⟩))
  obtain ⟨w0, hw0⟩ : ∃ w0, w0 = w.alloc (.cells #[.int .i64 p.tos, .int .i64 p.id, .bool false, .bool false, .int .i64 p.off, .int .i64 p.ttl, .int .i64 p.proto, .int .u32 p.src, .int .u32 p.dst, .slice ao p.opts.length co, .slice ab p.body.length cb] 29) := ⟨_, rfl⟩
  rw [← hw0]
  have hsz0 : w0.heap.size = w.heap.size + 1 := by rw [hw0]; simp
  have hbw0 : Below w.heap.size w w0 := by rw [hw0]; exact below_alloc _ _
  have HC : Hid (∀ (w' : World), Below (w.heap.size + 1) w0 w' → ∀ i v, (#[.int .i64 p.tos, .int .i64 p.id, .bool false, .bool false, .int .i64 p.off, .int .i64 p.ttl, .int .i64 p.proto, .int .u32 p.src, .int .u32 p.dst, .slice ao p.opts.length co, .slice ab p.body.length cb] : Array Value)[i]? = some v → w'.cell? ⟨w.heap.size, i, none⟩ = some v) := by
    intro w' hb i v hv
    rw [hb.cell (by show w.heap.size < w.heap.size + 1; omega), hw0, World.cell?_alloc_mark w _ _ (0, 0) i]
    exact hv
  have hO0 : Owns (w0.alloc (.cells #[.int .u8 (64 + (20 + (p.opts.length : Int)) / 4), .int .u8 p.tos] 5)) (w.heap.size + 1) (.slice (some ⟨w.heap.size + 1, 0, none⟩) 2 2) [64 + (20 + (p.opts.length : Int)) / 4, p.tos] := by
    have := owns_lit2 w0 (64 + (20 + (p.opts.length : Int)) / 4) p.tos
    rwa [hsz0] at this
  have hb00 : Below (w.heap.size + 1) w0 (w0.alloc (.cells #[.int .u8 (64 + (20 + (p.opts.length : Int)) / 4), .int .u8 p.tos] 5)) := by rw [← hsz0]; exact below_alloc _ _
  refine (lay_any _ (w.heap.size + 1) _ _ 2 2 _ w0 hO0 (by simp; omega) (by simp) rfl (by decide) hb00).mono ?_
  rintro e w1 ⟨v1, rfl, ho1, hb1, hz1⟩
  have d1 : w1.cell? ⟨w.heap.size, 1, none⟩ = some (.int .i64 p.id) := HC.out w1 hb1 1 _ rfl
  clear hO0 hb00 hw0
  go_wp2_with fail
  refine (lay_any _ (w.heap.size + 1) _ _ 2 2 _ w0 ho1 hz1 (by simp [bytesOfN]) rfl (by decide) hb1).mono ?_
  rintro e w2' ⟨v2, rfl, ho2', hb2', hz2⟩
  clear ho1 hb1 hz1 d1
  go_wp2_with fail
  refine (lay_any _ (w.heap.size + 1) _ _ 2 2 _ w0 ho2' hz2 (by simp [bytesOfN]) rfl (by decide) hb2').mono ?_
  rintro e w3 ⟨v3, rfl, ho3', hb3', hz3⟩
  clear ho2' hb2' hz2
  have d5 : w3.cell? ⟨w.heap.size, 5, none⟩ = some (.int .i64 p.ttl) := HC.out w3 hb3' 5 _ rfl
  have d6 : w3.cell? ⟨w.heap.size, 6, none⟩ = some (.int .i64 p.proto) := HC.out w3 hb3' 6 _ rfl
  obtain ⟨v4, w4, hrun4, ho4', hb4'⟩ := append_bts (w3.alloc (.cells #[.int .u8 p.ttl, .int .u8 p.proto, .int .u8 0, .int .u8 0] 5)) (w.heap.size + 1) v3 _ _ _ (World.ownsRow.alloc ho3' _) (bts_lit4 w3 p.ttl p.proto (by omega) (by omega)) (by simp; omega) (by simp [bytesOfN])
  have hb4'' : Below (w.heap.size + 1) w0 w4 := (hb3'.alloc hz3 _).trans hb4'
  have hz4 : w.heap.size + 1 ≤ w4.heap.size := by have := hb4'.size; simp only [World.size_alloc] at this; omega
  have d7 : w4.cell? ⟨w.heap.size, 7, none⟩ = some (.int .u32 p.src) := HC.out w4 hb4'' 7 _ rfl
  clear ho3' hb3' hb4'
  go_wp2_with (at_builtin; refine Lib.wpList_append_run_sl _ rfl _ _ 23 rfl _ _ rfl rfl hrun4 ?_)
  refine (lay_any _ (w.heap.size + 1) _ _ 4 4 _ w0 ho4' hz4 (by simp [bytesOfN]) rfl (by decide) hb4'').mono ?_
  rintro e w5 ⟨v5, rfl, ho5', hb5', hz5⟩
  have d8 : w5.cell? ⟨w.heap.size, 8, none⟩ = some (.int .u32 p.dst) := HC.out w5 hb5' 8 _ rfl
  clear ho4' hb4'' hz4 d7 d5 d6 hrun4 hz3
  go_wp2_with fail
  refine (lay_any _ (w.heap.size + 1) _ _ 4 4 _ w0 ho5' hz5 (by simp [bytesOfN]) rfl (by decide) hb5').mono ?_
  rintro e w6 ⟨v6, rfl, ho6', hb6', hz6⟩
  clear ho5' hb5' hz5 d8
  have hr : Owns w6 (w.heap.size + 1) v6 (rhead p) := by
    unfold rhead
    rw [HT.out, HFL.out]
    have e256a : p.src / 16777216 % 256 = p.src / 16777216 := by omega
    have e256b : p.dst / 16777216 % 256 = p.dst / 16777216 := by omega
    simpa [bytesOfN, e256a, e256b] using ho6'
  clear ho6'
  go_wp2
  go_loopw [6, 7] (fun v i wr => ∃ t : Nat, t ≤ p.opts.length ∧ i = .int .i64 (t : Int) ∧ Owns wr (w.heap.size + 1) v (rhead p ++ p.opts.take t) ∧ Below (w.heap.size + 1) w0 wr ∧ w.heap.size + 1 ≤ wr.heap.size) (fun _ i _ => p.opts.length - (intOf i).toNat)
  case atStart => exact ⟨0, Nat.zero_le _, rfl, by simpa using hr, hb6', hz6⟩
  case round =>
    obtain ⟨t, ht, rfl, hown, hbel, hsz⟩ := hrel
    have d9 : wr.cell? ⟨w.heap.size, 9, none⟩ = some (.slice ao p.opts.length co) := HC.out wr hbel 9 _ rfl
    by_cases hlt : t < p.opts.length
    · rcases ho5 with rfl | hnil
      case inr => rw [hnil] at hlt; simp at hlt
      have hbwr : Below w.heap.size w wr := hbw0.trans (hbel.mono (by omega))
      have hcell : wr.cell? ⟨ob, oo + t, none⟩ = some (.int .u8 (p.opts.getD t 0)) := cell_later hbwr (ho6 t hlt)
      have hts : Hid (rhead p ++ p.opts.take (t + 1) = (rhead p ++ p.opts.take t) ++ [p.opts.getD t 0]) := by show _ = _; rw [take_snoc p.opts t hlt, List.append_assoc]
      obtain ⟨v', w1', hrun, ho, hb⟩ := append_one wr (w.heap.size + 1) _ _ (p.opts.getD t 0) hown hsz (by rw [List.length_append, List.length_take]; simp [rhead]; omega)
      have htb : (t : Int) < (p.opts.length : Int) := by omega
      have R1 : Owns w1' (w.heap.size + 1) v' (rhead p ++ p.opts.take (t + 1)) := by rw [hts.out]; exact ho
      have R2 := hbel.trans hb
      have R3 := Nat.le_trans hsz hb.size
      clear hts ho hb
      generalize p.opts.getD t 0 = c at *
      go_wp2_with (at_builtin; refine Lib.wpList_append_run_sl _ rfl _ _ 23 rfl _ _ rfl rfl hrun ?_)
      go_roundw
      case rel => exact ⟨t + 1, by omega, by go_num, R1, R2, R3⟩
      case measure => simp [intOf]; omega
    · have hte : t = p.opts.length := by omega
      subst hte
      rw [List.take_length, rhead_eq p HK.out HF.out] at hown
      obtain ⟨G, cg, rfl, hH⟩ := holds8_of_owns hown (head_length p 0) (by omega)
      clear hr hb6' hz6
      go_wp2_with fail
      refine (one_any _ (headB p 0) _ (hown.bts (head_bytes p 0 HK.out.opts)) (by rw [head_length]; omega)).mono ?_
      rintro e w7 ⟨rfl, hb7⟩
      have hH7 := hH.later hb7
      have hb7' : Below (w.heap.size + 1) w0 w7 := hbel.trans (hb7.mono hsz)
      have hz7 : w.heap.size + 1 ≤ w7.heap.size := Nat.le_trans hsz hb7.size
      have hG := hH7.base
      have c10 := hH7.cell 10 (by omega)
      have c11 := hH7.cell 11 (by omega)
      have f10 := hH7.2.frozenAt 10
      have f11 := hH7.2.frozenAt 11
      have i10 : (10 : Int) < 20 + (p.opts.length : Int) := by omega
      have i11 : (11 : Int) < 20 + (p.opts.length : Int) := by omega
      have HS : Hid (checkI p = 65535 - fold16 (ws (headB p 0))) := by show _ = _; unfold checkI; rw [turn_fold]
      have hS := fold16_bd (ws (headB p 0))
      generalize fold16 (ws (headB p 0)) = S at *
      clear hown hH hb7 d9
      obtain ⟨S0, S1⟩ := hS
      have hS2 : 0 ≤ 65535 - S := by omega
      go_wp2
      have hHf : Holds8 ((w7.setCell ⟨G, 10, none⟩ (.int .u8 ((65535 - S) / 256))).setCell ⟨G, 11, none⟩ (.int .u8 ((65535 - S) % 256))) (w.heap.size + 1) G (20 + p.opts.length) cg (headB p (checkI p)) := by
        have := (hH7.store 10 ((65535 - S) / 256)).store 11 ((65535 - S) % 256)
        have e : ((headB p 0).set 10 ((65535 - S) / 256)).set 11 ((65535 - S) % 256) = headB p (checkI p) := by rw [← HS.out]; exact rcheck p
        rw [e] at this
        exact this
      have hbf : Below (w.heap.size + 1) w0 ((w7.setCell ⟨G, 10, none⟩ (.int .u8 ((65535 - S) / 256))).setCell ⟨G, 11, none⟩ (.int .u8 ((65535 - S) % 256))) := (hb7'.setCell (by exact hG) _).setCell (by exact hG) _
      have hzf : w.heap.size + 1 ≤ ((w7.setCell ⟨G, 10, none⟩ (.int .u8 ((65535 - S) / 256))).setCell ⟨G, 11, none⟩ (.int .u8 ((65535 - S) % 256))).heap.size := by simpa using hz7
      generalize ((w7.setCell ⟨G, 10, none⟩ (.int .u8 ((65535 - S) / 256))).setCell ⟨G, 11, none⟩ (.int .u8 ((65535 - S) % 256))) = w8 at *
      clear hH7 hb7' hz7 c10 c11 f10 f11 HS hbel hsz
      have hof := hHf.owns
      clear hHf
      go_loopw [6, 9] (fun v i wr => ∃ t : Nat, t ≤ p.body.length ∧ i = .int .i64 (t : Int) ∧ Owns wr (w.heap.size + 1) v (headB p (checkI p) ++ p.body.take t) ∧ Below (w.heap.size + 1) w0 wr ∧ w.heap.size + 1 ≤ wr.heap.size) (fun _ i _ => p.body.length - (intOf i).toNat)
      case atStart => exact ⟨0, Nat.zero_le _, rfl, by simpa using hof, hbf, hzf⟩
      case round =>
        obtain ⟨t, ht, rfl, hown, hbel, hsz⟩ := hrel
        have d10 : wr.cell? ⟨w.heap.size, 10, none⟩ = some (.slice ab p.body.length cb) := HC.out wr hbel 10 _ rfl
        by_cases hlt : t < p.body.length
        · rcases hb5 with rfl | hnil
          case inr => rw [hnil] at hlt; simp at hlt
          have hbwr : Below w.heap.size w wr := hbw0.trans (hbel.mono (by omega))
          have hcell : wr.cell? ⟨bb, bo + t, none⟩ = some (.int .u8 (p.body.getD t 0)) := cell_later hbwr (hb6 t hlt)
          have hts : Hid (headB p (checkI p) ++ p.body.take (t + 1) = (headB p (checkI p) ++ p.body.take t) ++ [p.body.getD t 0]) := by show _ = _; rw [take_snoc p.body t hlt, List.append_assoc]
          obtain ⟨v', w1', hrun, ho, hb⟩ := append_one wr (w.heap.size + 1) _ _ (p.body.getD t 0) hown hsz (by rw [List.length_append, List.length_take, head_length]; omega)
          have htb : (t : Int) < (p.body.length : Int) := by omega
          have R1 : Owns w1' (w.heap.size + 1) v' (headB p (checkI p) ++ p.body.take (t + 1)) := by rw [hts.out]; exact ho
          have R2 := hbel.trans hb
          have R3 := Nat.le_trans hsz hb.size
          clear hts ho hb
          generalize p.body.getD t 0 = c at *
          go_wp2_with (at_builtin; refine Lib.wpList_append_run_sl _ rfl _ _ 23 rfl _ _ rfl rfl hrun ?_)
          go_roundw
          case rel => exact ⟨t + 1, by omega, by go_num, R1, R2, R3⟩
          case measure => simp [intOf]; omega
        · have hte : t = p.body.length := by omega
          subst hte
          rw [List.take_length] at hown
          have hbt : Owns wr w.heap.size _ (built p) := hown.low (by omega)
          clear hown hof
          go_wp2
          go_ret2
          exact ⟨_, rfl, hbt, hbw0.trans (hbel.mono (by omega))⟩

set_option maxRecDepth 100000 in
set_option maxHeartbeats 4000000 in
theorem rbuild_ok_tf (p : Dg) (ao ab : Option Addr) (co cb : Nat) (w : World) (k : p.Ok) (f : Fits p) (hO : Bts w (.slice ao p.opts.length co) p.opts) (hB : Bts w (.slice ab p.body.length cb) p.body) (hdf : p.df = true) (hmf : p.mf = false) :
    Calls Try.prog 11 #[ipV p (.slice ao p.opts.length co) (.slice ab p.body.length cb)] w fun e w' =>
      ∃ v, e = .returned (.tuple #[v, .int .i64 0]) ∧ Owns w' w.heap.size v (built p) ∧ Below w.heap.size w w' := by
  have g0 : inBb p.tos 255 = true := decide_eq_true f.tos
  have g1 : inBb p.ttl 255 = true := decide_eq_true f.ttl
  have g2 : inBb p.proto 255 = true := decide_eq_true f.proto
  have g3 : inBb p.id 65535 = true := decide_eq_true f.id
  have g4 : inBb p.off 8191 = true := decide_eq_true f.off
  have HK : Hid (p.Ok) := k
  have HF : Hid (Fits p) := f
  have HFL : Hid (flagsI p = p.off + 16384) := by show _ = _; unfold flagsI flagI; rw [hdf, hmf]; simp; try omega
  have K1 := k.src0
  have K2 := k.src1
  have K3 := k.dst0
  have K4 := k.dst1
  obtain ⟨⟨t0, t1⟩, ⟨l0, l1⟩, ⟨q0, q1⟩, ⟨i0, i1⟩, ⟨o0, o1⟩, o40, o4, hall⟩ := f
  have hlen : p.opts.length + p.body.length ≤ 2028 := by unfold totalI at hall; omega
  have HT : Hid (totalI p = 20 + (p.opts.length : Int) + (p.body.length : Int)) := rfl
  have hor1 := or64 ((20 + (p.opts.length : Int)) / 4) (by omega) (by omega)
  have hoA := orA p.off o0 o1
  have hoB := orB p.off o0 o1
  have hoC := orC p.off o0 o1
  have k5 : ¬ (40 : Int) < (p.opts.length : Int) := by omega
  have k6 : (((p.opts.length : Int) % 4) != 0) = false := by simp; omega
  have k7 : ¬ (2048 : Int) - (20 + (p.opts.length : Int)) < (p.body.length : Int) := by omega
  obtain ⟨oa, oc, ob, oo, hoe, ho2, ho3, ho4, ho5, ho6⟩ := hO
  obtain ⟨ba, bc, bb, bo, hbe, hb2, hb3, hb4, hb5, hb6⟩ := hB
  simp only [Value.slice.injEq, true_and] at hoe hbe
  obtain ⟨rfl, rfl⟩ := hoe
  obtain ⟨rfl, rfl⟩ := hbe
  clear k o4 hall
  go_enter Try.func11, Try.ntmps11
  go_wp2_with (first | (go_at_call 24; refine (in_any _ _ _).mono ?_; rintro e w' ⟨rfl, rfl⟩))
  obtain ⟨w0, hw0⟩ : ∃ w0, w0 = w.alloc (.cells #[.int .i64 p.tos, .int .i64 p.id, .bool true, .bool false, .int .i64 p.off, .int .i64 p.ttl, .int .i64 p.proto, .int .u32 p.src, .int .u32 p.dst, .slice ao p.opts.length co, .slice ab p.body.length cb] 29) := ⟨_, rfl⟩
  rw [← hw0]
  have hsz0 : w0.heap.size = w.heap.size + 1 := by rw [hw0]; simp
  have hbw0 : Below w.heap.size w w0 := by rw [hw0]; exact below_alloc _ _
  have HC : Hid (∀ (w' : World), Below (w.heap.size + 1) w0 w' → ∀ i v, (#[.int .i64 p.tos, .int .i64 p.id, .bool true, .bool false, .int .i64 p.off, .int .i64 p.ttl, .int .i64 p.proto, .int .u32 p.src, .int .u32 p.dst, .slice ao p.opts.length co, .slice ab p.body.length cb] : Array Value)[i]? = some v → w'.cell? ⟨w.heap.size, i, none⟩ = some v) := by
    intro w' hb i v hv
    rw [hb.cell (by show w.heap.size < w.heap.size + 1; omega), hw0, World.cell?_alloc_mark w _ _ (0, 0) i]
    exact hv
  have hO0 : Owns (w0.alloc (.cells #[.int .u8 (64 + (20 + (p.opts.length : Int)) / 4), .int .u8 p.tos] 5)) (w.heap.size + 1) (.slice (some ⟨w.heap.size + 1, 0, none⟩) 2 2) [64 + (20 + (p.opts.length : Int)) / 4, p.tos] := by
    have := owns_lit2 w0 (64 + (20 + (p.opts.length : Int)) / 4) p.tos
    rwa [hsz0] at this
  have hb00 : Below (w.heap.size + 1) w0 (w0.alloc (.cells #[.int .u8 (64 + (20 + (p.opts.length : Int)) / 4), .int .u8 p.tos] 5)) := by rw [← hsz0]; exact below_alloc _ _
  refine (lay_any _ (w.heap.size + 1) _ _ 2 2 _ w0 hO0 (by simp; omega) (by simp) rfl (by decide) hb00).mono ?_
  rintro e w1 ⟨v1, rfl, ho1, hb1, hz1⟩
  have d1 : w1.cell? ⟨w.heap.size, 1, none⟩ = some (.int .i64 p.id) := HC.out w1 hb1 1 _ rfl
  clear hO0 hb00 hw0
  go_wp2_with fail
  refine (lay_any _ (w.heap.size + 1) _ _ 2 2 _ w0 ho1 hz1 (by simp [bytesOfN]) rfl (by decide) hb1).mono ?_
  rintro e w2' ⟨v2, rfl, ho2', hb2', hz2⟩
  clear ho1 hb1 hz1 d1
  go_wp2_with fail
  refine (lay_any _ (w.heap.size + 1) _ _ 2 2 _ w0 ho2' hz2 (by simp [bytesOfN]) rfl (by decide) hb2').mono ?_
  rintro e w3 ⟨v3, rfl, ho3', hb3', hz3⟩
  clear ho2' hb2' hz2
  have d5 : w3.cell? ⟨w.heap.size, 5, none⟩ = some (.int .i64 p.ttl) := HC.out w3 hb3' 5 _ rfl
  have d6 : w3.cell? ⟨w.heap.size, 6, none⟩ = some (.int .i64 p.proto) := HC.out w3 hb3' 6 _ rfl
  obtain ⟨v4, w4, hrun4, ho4', hb4'⟩ := append_bts (w3.alloc (.cells #[.int .u8 p.ttl, .int .u8 p.proto, .int .u8 0, .int .u8 0] 5)) (w.heap.size + 1) v3 _ _ _ (World.ownsRow.alloc ho3' _) (bts_lit4 w3 p.ttl p.proto (by omega) (by omega)) (by simp; omega) (by simp [bytesOfN])
  have hb4'' : Below (w.heap.size + 1) w0 w4 := (hb3'.alloc hz3 _).trans hb4'
  have hz4 : w.heap.size + 1 ≤ w4.heap.size := by have := hb4'.size; simp only [World.size_alloc] at this; omega
  have d7 : w4.cell? ⟨w.heap.size, 7, none⟩ = some (.int .u32 p.src) := HC.out w4 hb4'' 7 _ rfl
  clear ho3' hb3' hb4'
  go_wp2_with (at_builtin; refine Lib.wpList_append_run_sl _ rfl _ _ 23 rfl _ _ rfl rfl hrun4 ?_)
  refine (lay_any _ (w.heap.size + 1) _ _ 4 4 _ w0 ho4' hz4 (by simp [bytesOfN]) rfl (by decide) hb4'').mono ?_
  rintro e w5 ⟨v5, rfl, ho5', hb5', hz5⟩
  have d8 : w5.cell? ⟨w.heap.size, 8, none⟩ = some (.int .u32 p.dst) := HC.out w5 hb5' 8 _ rfl
  clear ho4' hb4'' hz4 d7 d5 d6 hrun4 hz3
  go_wp2_with fail
  refine (lay_any _ (w.heap.size + 1) _ _ 4 4 _ w0 ho5' hz5 (by simp [bytesOfN]) rfl (by decide) hb5').mono ?_
  rintro e w6 ⟨v6, rfl, ho6', hb6', hz6⟩
  clear ho5' hb5' hz5 d8
  have hr : Owns w6 (w.heap.size + 1) v6 (rhead p) := by
    unfold rhead
    rw [HT.out, HFL.out]
    have e256a : p.src / 16777216 % 256 = p.src / 16777216 := by omega
    have e256b : p.dst / 16777216 % 256 = p.dst / 16777216 := by omega
    simpa [bytesOfN, e256a, e256b] using ho6'
  clear ho6'
  go_wp2
  go_loopw [6, 7] (fun v i wr => ∃ t : Nat, t ≤ p.opts.length ∧ i = .int .i64 (t : Int) ∧ Owns wr (w.heap.size + 1) v (rhead p ++ p.opts.take t) ∧ Below (w.heap.size + 1) w0 wr ∧ w.heap.size + 1 ≤ wr.heap.size) (fun _ i _ => p.opts.length - (intOf i).toNat)
  case atStart => exact ⟨0, Nat.zero_le _, rfl, by simpa using hr, hb6', hz6⟩
  case round =>
    obtain ⟨t, ht, rfl, hown, hbel, hsz⟩ := hrel
    have d9 : wr.cell? ⟨w.heap.size, 9, none⟩ = some (.slice ao p.opts.length co) := HC.out wr hbel 9 _ rfl
    by_cases hlt : t < p.opts.length
    · rcases ho5 with rfl | hnil
      case inr => rw [hnil] at hlt; simp at hlt
      have hbwr : Below w.heap.size w wr := hbw0.trans (hbel.mono (by omega))
      have hcell : wr.cell? ⟨ob, oo + t, none⟩ = some (.int .u8 (p.opts.getD t 0)) := cell_later hbwr (ho6 t hlt)
      have hts : Hid (rhead p ++ p.opts.take (t + 1) = (rhead p ++ p.opts.take t) ++ [p.opts.getD t 0]) := by show _ = _; rw [take_snoc p.opts t hlt, List.append_assoc]
      obtain ⟨v', w1', hrun, ho, hb⟩ := append_one wr (w.heap.size + 1) _ _ (p.opts.getD t 0) hown hsz (by rw [List.length_append, List.length_take]; simp [rhead]; omega)
      have htb : (t : Int) < (p.opts.length : Int) := by omega
      have R1 : Owns w1' (w.heap.size + 1) v' (rhead p ++ p.opts.take (t + 1)) := by rw [hts.out]; exact ho
      have R2 := hbel.trans hb
      have R3 := Nat.le_trans hsz hb.size
      clear hts ho hb
      generalize p.opts.getD t 0 = c at *
      go_wp2_with (at_builtin; refine Lib.wpList_append_run_sl _ rfl _ _ 23 rfl _ _ rfl rfl hrun ?_)
      go_roundw
      case rel => exact ⟨t + 1, by omega, by go_num, R1, R2, R3⟩
      case measure => simp [intOf]; omega
    · have hte : t = p.opts.length := by omega
      subst hte
      rw [List.take_length, rhead_eq p HK.out HF.out] at hown
      obtain ⟨G, cg, rfl, hH⟩ := holds8_of_owns hown (head_length p 0) (by omega)
      clear hr hb6' hz6
      go_wp2_with fail
      refine (one_any _ (headB p 0) _ (hown.bts (head_bytes p 0 HK.out.opts)) (by rw [head_length]; omega)).mono ?_
      rintro e w7 ⟨rfl, hb7⟩
      have hH7 := hH.later hb7
      have hb7' : Below (w.heap.size + 1) w0 w7 := hbel.trans (hb7.mono hsz)
      have hz7 : w.heap.size + 1 ≤ w7.heap.size := Nat.le_trans hsz hb7.size
      have hG := hH7.base
      have c10 := hH7.cell 10 (by omega)
      have c11 := hH7.cell 11 (by omega)
      have f10 := hH7.2.frozenAt 10
      have f11 := hH7.2.frozenAt 11
      have i10 : (10 : Int) < 20 + (p.opts.length : Int) := by omega
      have i11 : (11 : Int) < 20 + (p.opts.length : Int) := by omega
      have HS : Hid (checkI p = 65535 - fold16 (ws (headB p 0))) := by show _ = _; unfold checkI; rw [turn_fold]
      have hS := fold16_bd (ws (headB p 0))
      generalize fold16 (ws (headB p 0)) = S at *
      clear hown hH hb7 d9
      obtain ⟨S0, S1⟩ := hS
      have hS2 : 0 ≤ 65535 - S := by omega
      go_wp2
      have hHf : Holds8 ((w7.setCell ⟨G, 10, none⟩ (.int .u8 ((65535 - S) / 256))).setCell ⟨G, 11, none⟩ (.int .u8 ((65535 - S) % 256))) (w.heap.size + 1) G (20 + p.opts.length) cg (headB p (checkI p)) := by
        have := (hH7.store 10 ((65535 - S) / 256)).store 11 ((65535 - S) % 256)
        have e : ((headB p 0).set 10 ((65535 - S) / 256)).set 11 ((65535 - S) % 256) = headB p (checkI p) := by rw [← HS.out]; exact rcheck p
        rw [e] at this
        exact this
      have hbf : Below (w.heap.size + 1) w0 ((w7.setCell ⟨G, 10, none⟩ (.int .u8 ((65535 - S) / 256))).setCell ⟨G, 11, none⟩ (.int .u8 ((65535 - S) % 256))) := (hb7'.setCell (by exact hG) _).setCell (by exact hG) _
      have hzf : w.heap.size + 1 ≤ ((w7.setCell ⟨G, 10, none⟩ (.int .u8 ((65535 - S) / 256))).setCell ⟨G, 11, none⟩ (.int .u8 ((65535 - S) % 256))).heap.size := by simpa using hz7
      generalize ((w7.setCell ⟨G, 10, none⟩ (.int .u8 ((65535 - S) / 256))).setCell ⟨G, 11, none⟩ (.int .u8 ((65535 - S) % 256))) = w8 at *
      clear hH7 hb7' hz7 c10 c11 f10 f11 HS hbel hsz
      have hof := hHf.owns
      clear hHf
      go_loopw [6, 9] (fun v i wr => ∃ t : Nat, t ≤ p.body.length ∧ i = .int .i64 (t : Int) ∧ Owns wr (w.heap.size + 1) v (headB p (checkI p) ++ p.body.take t) ∧ Below (w.heap.size + 1) w0 wr ∧ w.heap.size + 1 ≤ wr.heap.size) (fun _ i _ => p.body.length - (intOf i).toNat)
      case atStart => exact ⟨0, Nat.zero_le _, rfl, by simpa using hof, hbf, hzf⟩
      case round =>
        obtain ⟨t, ht, rfl, hown, hbel, hsz⟩ := hrel
        have d10 : wr.cell? ⟨w.heap.size, 10, none⟩ = some (.slice ab p.body.length cb) := HC.out wr hbel 10 _ rfl
        by_cases hlt : t < p.body.length
        · rcases hb5 with rfl | hnil
          case inr => rw [hnil] at hlt; simp at hlt
          have hbwr : Below w.heap.size w wr := hbw0.trans (hbel.mono (by omega))
          have hcell : wr.cell? ⟨bb, bo + t, none⟩ = some (.int .u8 (p.body.getD t 0)) := cell_later hbwr (hb6 t hlt)
          have hts : Hid (headB p (checkI p) ++ p.body.take (t + 1) = (headB p (checkI p) ++ p.body.take t) ++ [p.body.getD t 0]) := by show _ = _; rw [take_snoc p.body t hlt, List.append_assoc]
          obtain ⟨v', w1', hrun, ho, hb⟩ := append_one wr (w.heap.size + 1) _ _ (p.body.getD t 0) hown hsz (by rw [List.length_append, List.length_take, head_length]; omega)
          have htb : (t : Int) < (p.body.length : Int) := by omega
          have R1 : Owns w1' (w.heap.size + 1) v' (headB p (checkI p) ++ p.body.take (t + 1)) := by rw [hts.out]; exact ho
          have R2 := hbel.trans hb
          have R3 := Nat.le_trans hsz hb.size
          clear hts ho hb
          generalize p.body.getD t 0 = c at *
          go_wp2_with (at_builtin; refine Lib.wpList_append_run_sl _ rfl _ _ 23 rfl _ _ rfl rfl hrun ?_)
          go_roundw
          case rel => exact ⟨t + 1, by omega, by go_num, R1, R2, R3⟩
          case measure => simp [intOf]; omega
        · have hte : t = p.body.length := by omega
          subst hte
          rw [List.take_length] at hown
          have hbt : Owns wr w.heap.size _ (built p) := hown.low (by omega)
          clear hown hof
          go_wp2
          go_ret2
          exact ⟨_, rfl, hbt, hbw0.trans (hbel.mono (by omega))⟩

set_option maxRecDepth 100000 in
set_option maxHeartbeats 4000000 in
theorem rbuild_ok_ft (p : Dg) (ao ab : Option Addr) (co cb : Nat) (w : World) (k : p.Ok) (f : Fits p) (hO : Bts w (.slice ao p.opts.length co) p.opts) (hB : Bts w (.slice ab p.body.length cb) p.body) (hdf : p.df = false) (hmf : p.mf = true) :
    Calls Try.prog 11 #[ipV p (.slice ao p.opts.length co) (.slice ab p.body.length cb)] w fun e w' =>
      ∃ v, e = .returned (.tuple #[v, .int .i64 0]) ∧ Owns w' w.heap.size v (built p) ∧ Below w.heap.size w w' := by
  have g0 : inBb p.tos 255 = true := decide_eq_true f.tos
  have g1 : inBb p.ttl 255 = true := decide_eq_true f.ttl
  have g2 : inBb p.proto 255 = true := decide_eq_true f.proto
  have g3 : inBb p.id 65535 = true := decide_eq_true f.id
  have g4 : inBb p.off 8191 = true := decide_eq_true f.off
  have HK : Hid (p.Ok) := k
  have HF : Hid (Fits p) := f
  have HFL : Hid (flagsI p = p.off + 8192) := by show _ = _; unfold flagsI flagI; rw [hdf, hmf]; simp; try omega
  have K1 := k.src0
  have K2 := k.src1
  have K3 := k.dst0
  have K4 := k.dst1
  obtain ⟨⟨t0, t1⟩, ⟨l0, l1⟩, ⟨q0, q1⟩, ⟨i0, i1⟩, ⟨o0, o1⟩, o40, o4, hall⟩ := f
  have hlen : p.opts.length + p.body.length ≤ 2028 := by unfold totalI at hall; omega
  have HT : Hid (totalI p = 20 + (p.opts.length : Int) + (p.body.length : Int)) := rfl
  have hor1 := or64 ((20 + (p.opts.length : Int)) / 4) (by omega) (by omega)
  have hoA := orA p.off o0 o1
  have hoB := orB p.off o0 o1
  have hoC := orC p.off o0 o1
  have k5 : ¬ (40 : Int) < (p.opts.length : Int) := by omega
  have k6 : (((p.opts.length : Int) % 4) != 0) = false := by simp; omega
  have k7 : ¬ (2048 : Int) - (20 + (p.opts.length : Int)) < (p.body.length : Int) := by omega
  obtain ⟨oa, oc, ob, oo, hoe, ho2, ho3, ho4, ho5, ho6⟩ := hO
  obtain ⟨ba, bc, bb, bo, hbe, hb2, hb3, hb4, hb5, hb6⟩ := hB
  simp only [Value.slice.injEq, true_and] at hoe hbe
  obtain ⟨rfl, rfl⟩ := hoe
  obtain ⟨rfl, rfl⟩ := hbe
  clear k o4 hall
  go_enter Try.func11, Try.ntmps11
  go_wp2_with (first | (go_at_call 24; refine (in_any _ _ _).mono ?_; rintro e w' ⟨rfl, rfl⟩))
  obtain ⟨w0, hw0⟩ : ∃ w0, w0 = w.alloc (.cells #[.int .i64 p.tos, .int .i64 p.id, .bool false, .bool true, .int .i64 p.off, .int .i64 p.ttl, .int .i64 p.proto, .int .u32 p.src, .int .u32 p.dst, .slice ao p.opts.length co, .slice ab p.body.length cb] 29) := ⟨_, rfl⟩
  rw [← hw0]
  have hsz0 : w0.heap.size = w.heap.size + 1 := by rw [hw0]; simp
  have hbw0 : Below w.heap.size w w0 := by rw [hw0]; exact below_alloc _ _
  have HC : Hid (∀ (w' : World), Below (w.heap.size + 1) w0 w' → ∀ i v, (#[.int .i64 p.tos, .int .i64 p.id, .bool false, .bool true, .int .i64 p.off, .int .i64 p.ttl, .int .i64 p.proto, .int .u32 p.src, .int .u32 p.dst, .slice ao p.opts.length co, .slice ab p.body.length cb] : Array Value)[i]? = some v → w'.cell? ⟨w.heap.size, i, none⟩ = some v) := by
    intro w' hb i v hv
    rw [hb.cell (by show w.heap.size < w.heap.size + 1; omega), hw0, World.cell?_alloc_mark w _ _ (0, 0) i]
    exact hv
  have hO0 : Owns (w0.alloc (.cells #[.int .u8 (64 + (20 + (p.opts.length : Int)) / 4), .int .u8 p.tos] 5)) (w.heap.size + 1) (.slice (some ⟨w.heap.size + 1, 0, none⟩) 2 2) [64 + (20 + (p.opts.length : Int)) / 4, p.tos] := by
    have := owns_lit2 w0 (64 + (20 + (p.opts.length : Int)) / 4) p.tos
    rwa [hsz0] at this
  have hb00 : Below (w.heap.size + 1) w0 (w0.alloc (.cells #[.int .u8 (64 + (20 + (p.opts.length : Int)) / 4), .int .u8 p.tos] 5)) := by rw [← hsz0]; exact below_alloc _ _
  refine (lay_any _ (w.heap.size + 1) _ _ 2 2 _ w0 hO0 (by simp; omega) (by simp) rfl (by decide) hb00).mono ?_
  rintro e w1 ⟨v1, rfl, ho1, hb1, hz1⟩
  have d1 : w1.cell? ⟨w.heap.size, 1, none⟩ = some (.int .i64 p.id) := HC.out w1 hb1 1 _ rfl
  clear hO0 hb00 hw0
  go_wp2_with fail
  refine (lay_any _ (w.heap.size + 1) _ _ 2 2 _ w0 ho1 hz1 (by simp [bytesOfN]) rfl (by decide) hb1).mono ?_
  rintro e w2' ⟨v2, rfl, ho2', hb2', hz2⟩
  clear ho1 hb1 hz1 d1
  go_wp2_with fail
  refine (lay_any _ (w.heap.size + 1) _ _ 2 2 _ w0 ho2' hz2 (by simp [bytesOfN]) rfl (by decide) hb2').mono ?_
  rintro e w3 ⟨v3, rfl, ho3', hb3', hz3⟩
  clear ho2' hb2' hz2
  have d5 : w3.cell? ⟨w.heap.size, 5, none⟩ = some (.int .i64 p.ttl) := HC.out w3 hb3' 5 _ rfl
  have d6 : w3.cell? ⟨w.heap.size, 6, none⟩ = some (.int .i64 p.proto) := HC.out w3 hb3' 6 _ rfl
  obtain ⟨v4, w4, hrun4, ho4', hb4'⟩ := append_bts (w3.alloc (.cells #[.int .u8 p.ttl, .int .u8 p.proto, .int .u8 0, .int .u8 0] 5)) (w.heap.size + 1) v3 _ _ _ (World.ownsRow.alloc ho3' _) (bts_lit4 w3 p.ttl p.proto (by omega) (by omega)) (by simp; omega) (by simp [bytesOfN])
  have hb4'' : Below (w.heap.size + 1) w0 w4 := (hb3'.alloc hz3 _).trans hb4'
  have hz4 : w.heap.size + 1 ≤ w4.heap.size := by have := hb4'.size; simp only [World.size_alloc] at this; omega
  have d7 : w4.cell? ⟨w.heap.size, 7, none⟩ = some (.int .u32 p.src) := HC.out w4 hb4'' 7 _ rfl
  clear ho3' hb3' hb4'
  go_wp2_with (at_builtin; refine Lib.wpList_append_run_sl _ rfl _ _ 23 rfl _ _ rfl rfl hrun4 ?_)
  refine (lay_any _ (w.heap.size + 1) _ _ 4 4 _ w0 ho4' hz4 (by simp [bytesOfN]) rfl (by decide) hb4'').mono ?_
  rintro e w5 ⟨v5, rfl, ho5', hb5', hz5⟩
  have d8 : w5.cell? ⟨w.heap.size, 8, none⟩ = some (.int .u32 p.dst) := HC.out w5 hb5' 8 _ rfl
  clear ho4' hb4'' hz4 d7 d5 d6 hrun4 hz3
  go_wp2_with fail
  refine (lay_any _ (w.heap.size + 1) _ _ 4 4 _ w0 ho5' hz5 (by simp [bytesOfN]) rfl (by decide) hb5').mono ?_
  rintro e w6 ⟨v6, rfl, ho6', hb6', hz6⟩
  clear ho5' hb5' hz5 d8
  have hr : Owns w6 (w.heap.size + 1) v6 (rhead p) := by
    unfold rhead
    rw [HT.out, HFL.out]
    have e256a : p.src / 16777216 % 256 = p.src / 16777216 := by omega
    have e256b : p.dst / 16777216 % 256 = p.dst / 16777216 := by omega
    simpa [bytesOfN, e256a, e256b] using ho6'
  clear ho6'
  go_wp2
  go_loopw [6, 7] (fun v i wr => ∃ t : Nat, t ≤ p.opts.length ∧ i = .int .i64 (t : Int) ∧ Owns wr (w.heap.size + 1) v (rhead p ++ p.opts.take t) ∧ Below (w.heap.size + 1) w0 wr ∧ w.heap.size + 1 ≤ wr.heap.size) (fun _ i _ => p.opts.length - (intOf i).toNat)
  case atStart => exact ⟨0, Nat.zero_le _, rfl, by simpa using hr, hb6', hz6⟩
  case round =>
    obtain ⟨t, ht, rfl, hown, hbel, hsz⟩ := hrel
    have d9 : wr.cell? ⟨w.heap.size, 9, none⟩ = some (.slice ao p.opts.length co) := HC.out wr hbel 9 _ rfl
    by_cases hlt : t < p.opts.length
    · rcases ho5 with rfl | hnil
      case inr => rw [hnil] at hlt; simp at hlt
      have hbwr : Below w.heap.size w wr := hbw0.trans (hbel.mono (by omega))
      have hcell : wr.cell? ⟨ob, oo + t, none⟩ = some (.int .u8 (p.opts.getD t 0)) := cell_later hbwr (ho6 t hlt)
      have hts : Hid (rhead p ++ p.opts.take (t + 1) = (rhead p ++ p.opts.take t) ++ [p.opts.getD t 0]) := by show _ = _; rw [take_snoc p.opts t hlt, List.append_assoc]
      obtain ⟨v', w1', hrun, ho, hb⟩ := append_one wr (w.heap.size + 1) _ _ (p.opts.getD t 0) hown hsz (by rw [List.length_append, List.length_take]; simp [rhead]; omega)
      have htb : (t : Int) < (p.opts.length : Int) := by omega
      have R1 : Owns w1' (w.heap.size + 1) v' (rhead p ++ p.opts.take (t + 1)) := by rw [hts.out]; exact ho
      have R2 := hbel.trans hb
      have R3 := Nat.le_trans hsz hb.size
      clear hts ho hb
      generalize p.opts.getD t 0 = c at *
      go_wp2_with (at_builtin; refine Lib.wpList_append_run_sl _ rfl _ _ 23 rfl _ _ rfl rfl hrun ?_)
      go_roundw
      case rel => exact ⟨t + 1, by omega, by go_num, R1, R2, R3⟩
      case measure => simp [intOf]; omega
    · have hte : t = p.opts.length := by omega
      subst hte
      rw [List.take_length, rhead_eq p HK.out HF.out] at hown
      obtain ⟨G, cg, rfl, hH⟩ := holds8_of_owns hown (head_length p 0) (by omega)
      clear hr hb6' hz6
      go_wp2_with fail
      refine (one_any _ (headB p 0) _ (hown.bts (head_bytes p 0 HK.out.opts)) (by rw [head_length]; omega)).mono ?_
      rintro e w7 ⟨rfl, hb7⟩
      have hH7 := hH.later hb7
      have hb7' : Below (w.heap.size + 1) w0 w7 := hbel.trans (hb7.mono hsz)
      have hz7 : w.heap.size + 1 ≤ w7.heap.size := Nat.le_trans hsz hb7.size
      have hG := hH7.base
      have c10 := hH7.cell 10 (by omega)
      have c11 := hH7.cell 11 (by omega)
      have f10 := hH7.2.frozenAt 10
      have f11 := hH7.2.frozenAt 11
      have i10 : (10 : Int) < 20 + (p.opts.length : Int) := by omega
      have i11 : (11 : Int) < 20 + (p.opts.length : Int) := by omega
      have HS : Hid (checkI p = 65535 - fold16 (ws (headB p 0))) := by show _ = _; unfold checkI; rw [turn_fold]
      have hS := fold16_bd (ws (headB p 0))
      generalize fold16 (ws (headB p 0)) = S at *
      clear hown hH hb7 d9
      obtain ⟨S0, S1⟩ := hS
      have hS2 : 0 ≤ 65535 - S := by omega
      go_wp2
      have hHf : Holds8 ((w7.setCell ⟨G, 10, none⟩ (.int .u8 ((65535 - S) / 256))).setCell ⟨G, 11, none⟩ (.int .u8 ((65535 - S) % 256))) (w.heap.size + 1) G (20 + p.opts.length) cg (headB p (checkI p)) := by
        have := (hH7.store 10 ((65535 - S) / 256)).store 11 ((65535 - S) % 256)
        have e : ((headB p 0).set 10 ((65535 - S) / 256)).set 11 ((65535 - S) % 256) = headB p (checkI p) := by rw [← HS.out]; exact rcheck p
        rw [e] at this
        exact this
      have hbf : Below (w.heap.size + 1) w0 ((w7.setCell ⟨G, 10, none⟩ (.int .u8 ((65535 - S) / 256))).setCell ⟨G, 11, none⟩ (.int .u8 ((65535 - S) % 256))) := (hb7'.setCell (by exact hG) _).setCell (by exact hG) _
      have hzf : w.heap.size + 1 ≤ ((w7.setCell ⟨G, 10, none⟩ (.int .u8 ((65535 - S) / 256))).setCell ⟨G, 11, none⟩ (.int .u8 ((65535 - S) % 256))).heap.size := by simpa using hz7
      generalize ((w7.setCell ⟨G, 10, none⟩ (.int .u8 ((65535 - S) / 256))).setCell ⟨G, 11, none⟩ (.int .u8 ((65535 - S) % 256))) = w8 at *
      clear hH7 hb7' hz7 c10 c11 f10 f11 HS hbel hsz
      have hof := hHf.owns
      clear hHf
      go_loopw [6, 9] (fun v i wr => ∃ t : Nat, t ≤ p.body.length ∧ i = .int .i64 (t : Int) ∧ Owns wr (w.heap.size + 1) v (headB p (checkI p) ++ p.body.take t) ∧ Below (w.heap.size + 1) w0 wr ∧ w.heap.size + 1 ≤ wr.heap.size) (fun _ i _ => p.body.length - (intOf i).toNat)
      case atStart => exact ⟨0, Nat.zero_le _, rfl, by simpa using hof, hbf, hzf⟩
      case round =>
        obtain ⟨t, ht, rfl, hown, hbel, hsz⟩ := hrel
        have d10 : wr.cell? ⟨w.heap.size, 10, none⟩ = some (.slice ab p.body.length cb) := HC.out wr hbel 10 _ rfl
        by_cases hlt : t < p.body.length
        · rcases hb5 with rfl | hnil
          case inr => rw [hnil] at hlt; simp at hlt
          have hbwr : Below w.heap.size w wr := hbw0.trans (hbel.mono (by omega))
          have hcell : wr.cell? ⟨bb, bo + t, none⟩ = some (.int .u8 (p.body.getD t 0)) := cell_later hbwr (hb6 t hlt)
          have hts : Hid (headB p (checkI p) ++ p.body.take (t + 1) = (headB p (checkI p) ++ p.body.take t) ++ [p.body.getD t 0]) := by show _ = _; rw [take_snoc p.body t hlt, List.append_assoc]
          obtain ⟨v', w1', hrun, ho, hb⟩ := append_one wr (w.heap.size + 1) _ _ (p.body.getD t 0) hown hsz (by rw [List.length_append, List.length_take, head_length]; omega)
          have htb : (t : Int) < (p.body.length : Int) := by omega
          have R1 : Owns w1' (w.heap.size + 1) v' (headB p (checkI p) ++ p.body.take (t + 1)) := by rw [hts.out]; exact ho
          have R2 := hbel.trans hb
          have R3 := Nat.le_trans hsz hb.size
          clear hts ho hb
          generalize p.body.getD t 0 = c at *
          go_wp2_with (at_builtin; refine Lib.wpList_append_run_sl _ rfl _ _ 23 rfl _ _ rfl rfl hrun ?_)
          go_roundw
          case rel => exact ⟨t + 1, by omega, by go_num, R1, R2, R3⟩
          case measure => simp [intOf]; omega
        · have hte : t = p.body.length := by omega
          subst hte
          rw [List.take_length] at hown
          have hbt : Owns wr w.heap.size _ (built p) := hown.low (by omega)
          clear hown hof
          go_wp2
          go_ret2
          exact ⟨_, rfl, hbt, hbw0.trans (hbel.mono (by omega))⟩

theorem rbuild_own (p : Dg) (ao ab : Option Addr) (co cb : Nat) (w : World) (k : p.Ok) (f : Fits p) (hO : Bts w (.slice ao p.opts.length co) p.opts) (hB : Bts w (.slice ab p.body.length cb) p.body) :
    Calls Try.prog 11 #[ipV p (.slice ao p.opts.length co) (.slice ab p.body.length cb)] w fun e w' =>
      ∃ v, e = .returned (.tuple #[v, .int .i64 0]) ∧ Owns w' w.heap.size v (built p) ∧ Below w.heap.size w w' := by
  cases hdf : p.df <;> cases hmf : p.mf
  · exact rbuild_ok_ff p ao ab co cb w k f hO hB hdf hmf
  · exact rbuild_ok_ft p ao ab co cb w k f hO hB hdf hmf
  · exact rbuild_ok_tf p ao ab co cb w k f hO hB hdf hmf
  · exact rbuild_ok_tt p ao ab co cb w k f hO hB hdf hmf

theorem rbuild_ok (p : Dg) (ao ab : Option Addr) (co cb : Nat) (w : World) (k : p.Ok) (f : Fits p) (hO : Bts w (.slice ao p.opts.length co) p.opts) (hB : Bts w (.slice ab p.body.length cb) p.body) :
    Calls Try.prog 11 #[ipV p (.slice ao p.opts.length co) (.slice ab p.body.length cb)] w fun e w' =>
      ∃ v, e = .returned (.tuple #[v, .int .i64 0]) ∧ Bts w' v (built p) ∧ Below w.heap.size w w' := by
  refine (rbuild_own p ao ab co cb w k f hO hB).mono ?_
  rintro e w' ⟨v, rfl, ho, hb⟩
  exact ⟨v, rfl, ho.bts (built_bytes p k), hb⟩
end Go.Proofs.Ytdejjokgchbgnaa

namespace Go.Proofs.Ytdejjokgchbgnaa
open Go.RowKit
attribute [local go_sem ↓] Go.wp_at_zero Go.wp_at_succ

def UB : List Int := builtU 167772161 134744072 hiU

def PD : Dg := ⟨0, 0, false, false, 0, 64, 17, 167772161, 134744072, [], UB⟩

def PB : List Int := built PD

theorem ub_bytes : isBytes UB := builtU_bytes _ _ _ (by unfold isBytes; decide)

theorem pd_ok : PD.Ok := ⟨by decide, by decide, by decide, by decide, (fun z h => by cases h), ub_bytes⟩

theorem pd_fits : Fits PD := fits_of PD (by decide)

theorem pb_len : PB.length = 30 := by decide

theorem pb_good : parseE PB = 0 := by decide

theorem pb_dg : dgOf PB = PD := by rfl

theorem pb_bytes : isBytes PB := built_bytes PD pd_ok

set_option maxHeartbeats 2000000 in
theorem play_own (v : Value) (w : World) (hv : Bts w v [104, 105]) :
    Calls Try.prog 9 #[.agg #[.int .u32 167772161, .int .i64 1000], .agg #[.int .u32 134744072, .int .i64 53], .int .i64 64, v] w fun e w' => ∃ u, e = .returned u ∧ Owns w' w.heap.size u PB ∧ Below w.heap.size w w' := by
  obtain ⟨a, c, rfl⟩ : ∃ a c, v = .slice a 2 c := by obtain ⟨a, c, _, _, e, _⟩ := hv; exact ⟨a, c, e⟩
  have hb1 := below_alloc w (.cells #[.int .u32 167772161, .int .i64 1000] 27)
  have hb2 := below_alloc (w.alloc (.cells #[.int .u32 167772161, .int .i64 1000] 27)) (.cells #[.int .u32 134744072, .int .i64 53] 27)
  have hu := urbuild_ok 167772161 134744072 hiU a c _ (by decide) (by decide) (by decide) (by decide) hi_fits (hv.later (below_trans hb1 hb2))
  clear hv
  go_enter Try.func9, Try.ntmps9
  go_wp2_with fail
  refine hu.mono ?_
  rintro e w3 ⟨v3, rfl, hB3, hb3⟩
  have c0 := box_cell (below_trans hb2 hb3) 0 _ rfl
  have d0 : w3.cell? ⟨w.heap.size + 1, 0, none⟩ = some (.int .u32 134744072) := by
    have := box_cell hb3 0 _ rfl
    rwa [show (w.alloc (.cells #[.int .u32 167772161, .int .i64 1000] 27)).heap.size = w.heap.size + 1 by simp] at this
  have bel3 := below_trans (below_trans hb1 hb2) hb3
  obtain ⟨a3, k3, rfl⟩ := Bts.shapeW hB3
  have hr := rbuild_own PD none a3 0 k3 w3 pd_ok pd_fits (bts_nil _) hB3
  clear hu hb1 hb2 hb3 hB3
  go_wp2_with fail
  refine hr.mono ?_
  rintro e w4 ⟨v4, rfl, hB4, hb4⟩
  obtain ⟨a4, k4, rfl⟩ := Bts.shapeW (hB4.bts pb_bytes)
  go_wp2
  go_ret
  exact ⟨_, rfl, hB4.low bel3.size, below_trans bel3 hb4⟩

theorem play_any (v : Value) (w : World) (hv : Bts w v [104, 105]) :
    Calls Try.prog 9 #[.agg #[.int .u32 167772161, .int .i64 1000], .agg #[.int .u32 134744072, .int .i64 53], .int .i64 64, v] w fun e w' => ∃ u, e = .returned u ∧ Bts w' u PB ∧ Below w.heap.size w w' := by
  refine (play_own v w hv).mono ?_
  rintro e w' ⟨u, rfl, ho, hb⟩
  exact ⟨u, rfl, ho.bts pb_bytes, hb⟩

theorem read_pb (v : Value) (w : World) (hv : Bts w v PB) :
    Calls Try.prog 12 #[v] w fun e w' => ∃ C : Array Value, e = .returned (.tuple #[.agg C, .int .i64 0]) ∧ Hid (C.size = 22 ∧ C.all (·.oneCell') = true ∧ C[11]? = some (.int .i64 1) ∧ C[13]? = some (.int .i64 1000) ∧ C[15]? = some (.int .i64 53)) ∧ Below w.heap.size w w' := by
  obtain ⟨a, c, rfl⟩ := Bts.shapeW hv
  obtain ⟨-, b, off, ha, hA⟩ := hv.at_ne
  rcases ha with rfl | ha
  · refine (read_udp_ok b off _ c PB w hA (good_of PB pb_good) (by rw [pb_dg]; rfl) (by rw [pb_dg]; rfl) (by rw [pb_dg]; decide)).mono ?_
    rintro e w' ⟨a1, k1, a2, k2, rfl, -, -, hb⟩
    refine ⟨_, rfl, ?_, hb⟩
    exact ⟨rfl, oneFr _ _ _ _ _ _ _ _, by rw [pb_dg]; rfl, by rw [pb_dg]; rfl, by rw [pb_dg]; rfl⟩
  · exact absurd (congrArg List.length ha) (by rw [pb_len]; decide)

set_option maxHeartbeats 4000000 in
theorem awake6_any (w : World) : Calls Try.prog 8 #[] w fun e w' => e = .returned (.bool true) ∧ Below w.heap.size w w' := by
  have hcv := conv_bytes
  go_enter Try.func8, Try.ntmps8
  go_wp2_with fail
  clear hcv
  refine (play_any _ _ (hi_bts w w.heap.size rfl)).mono ?_
  rintro e w1 ⟨u, rfl, hB1, hb1⟩
  have bel1 := below_trans (below_alloc _ _) hb1
  go_wp2_with fail
  refine (read_pb u w1 hB1).mono ?_
  rintro e w2 ⟨C, rfl, HC, hb2⟩
  have h0 : (w2.alloc (.cells zeroFC 37)).there w2.heap.size 0 22 := (fc_new (w := w2) rfl (Below.refl _ _)).there rfl
  obtain ⟨W5, hW5, F5, hb5⟩ : ∃ W5, W5 = (w2.alloc (.cells zeroFC 37)).setCells w2.heap.size 0 C.toList ∧ FC W5 w2.heap.size C ∧ Below w2.heap.size w2 W5 :=
    ⟨_, rfl, FC.laid (C := zeroFC) (fc_new (w := w2) rfl (Below.refl _ _)) rfl C HC.out.1, setCells_below _ _ _ _ _ (Nat.le_refl _) (below_alloc _ _)⟩
  have hst := run_store_fr C h0 HC.out.1 HC.out.2.1
  rw [← hW5] at hst
  have hC22 := HC.out.1
  have c11 := F5.c 11 _ HC.out.2.2.1
  have c13 := F5.c 13 _ HC.out.2.2.2.1
  have c15 := F5.c 15 _ HC.out.2.2.2.2
  have bel := below_trans (below_trans bel1 hb2) hb5
  clear hb1 hB1 hb2 F5 hW5 h0 hb5 bel1
  go_wp2
  go_ret
  exact ⟨rfl, bel⟩
end Go.Proofs.Ytdejjokgchbgnaa

namespace Go.Proofs.Ytdejjokgchbgnaa
open Go.RowKit
attribute [local go_sem ↓] Go.wp_at_zero Go.wp_at_succ

/-- frame, its cells a letter. -/
theorem frame_let (p : Dg) (ao ab : Option Addr) (no nb co cb : Nat) (k f t : Int) (w : World) :
    Calls Try.prog 60 #[ipV p (.slice ao no co) (.slice ab nb cb), .int .i64 k, .int .i64 f, .int .i64 t] w fun e w' => ∃ C : Array Value, e = .returned (.agg C) ∧ Hid (C = frC p (.slice ao no co) (.slice ab nb cb) ⟨0, k, f, t, 0, Inn.zero⟩) ∧ Below w.heap.size w w' := by
  refine (frame_any p ao ab no nb co cb k f t w).mono ?_
  rintro e w' ⟨rfl, hb⟩
  exact ⟨_, rfl, (rfl : frC p (.slice ao no co) (.slice ab nb cb) ⟨0, k, f, t, 0, Inn.zero⟩ = _), hb⟩

/-- A frame in a variable of its own. -/
theorem fr_var (w4 : World) (C : Array Value) (hC : C.size = 22) (h1 : C.all (·.oneCell') = true) : ∃ W5, FC W5 w4.heap.size C ∧ Below w4.heap.size w4 W5 ∧ (storeCells ⟨w4.heap.size, 0, none⟩ C.toList).run Try.prog (w4.alloc (.cells zeroFC 37)) = .ok () W5 :=
  ⟨_, FC.laid (C := zeroFC) (fc_new (w := w4) rfl (Below.refl _ _)) rfl C hC, setCells_below _ _ _ _ _ (Nat.le_refl _) (below_alloc _ _), run_store_fr C ((fc_new (w := w4) rfl (Below.refl _ _)).there rfl) hC h1⟩

/-- The load of a whole frame whose cells are a letter. -/
theorem load_let {ops : Array Oper} {rest : List Oper} {op : Oper} {a : Act} {w : World} {Q : Exit → Act → World → Prop} (hgd : op.guard = none) (x : Operand) (ho : op.op = .load 37 x)
    (n : Nat) (hx : a.eval x = .pointer (some ⟨n, 0, none⟩)) (C : Array Value) (hF : FC w n C) (hL : C.size = 22)
    (h : wpList Try.prog ops Q rest (a.put op.dst (.agg C)) w) : wpList Try.prog ops Q (op :: rest) a w := by
  refine load_step hgd x ho n hx C.toList hF.range (by simpa using hL) ?_
  rw [Array.toArray_toList]
  exact h

theorem results_let {fn : Func} {t u : Tmp} (h : fn.results = #[.cell t 37, .tmp u]) (tmps : Array Value) (W : World) (n : Nat) (C : Array Value) (ht : tmps.getD t undef = .pointer (some ⟨n, 0, none⟩)) (hr : W.rangeAt n 0 C.toList) (hL : C.size = 22) :
    (results fn tmps).run Try.prog W = .ok (.tuple #[.agg C, tmps.getD u undef]) W := by
  have := results_fr2 h tmps W n C.toList ht hr (by simpa using hL)
  rwa [Array.toArray_toList] at this

set_option maxHeartbeats 4000000 in
theorem segment_ok (p : Dg) (ao : Option Addr) (no co b off nb cb : Nat) (w : World) (k : p.Ok) (hA : At w b off nb cb p.body) (hl : nb ≤ 70000) (g : TGood p.src p.dst p.body) :
    Calls Try.prog 44 #[ipV p (.slice ao no co) (.slice (some ⟨b, off, none⟩) nb cb)] w fun e w' =>
      e = .returned (.tuple #[frV p (.slice ao no co) (.slice (some ⟨b, off, none⟩) nb cb) ⟨0, 2, w2 p.body 0, w2 p.body 2, b1 p.body 13, Inn.zero⟩, .int .i64 0]) ∧ Below w.heap.size w w' := by
  have hb1 := below_alloc w (.cells (ipC p (.slice ao no co) (.slice (some ⟨b, off, none⟩) nb cb)) 65)
  have hb2 := below_alloc (w.alloc (.cells (ipC p (.slice ao no co) (.slice (some ⟨b, off, none⟩) nb cb)) 65)) (.cells zeroFC 37)
  have hu := tparse_ok p.src p.dst b off nb cb p.body _ k.src0 k.src1 k.dst0 k.dst1 (hA.later (below_trans hb1 hb2)) hl g
  clear hA g
  go_enter Try.func44, Try.ntmps44
  go_wp2_with fail
  refine hu.mono ?_
  rintro e w3 ⟨a1, k1, a2, k2, rfl, -, -, hb3⟩
  have F3 := fc_new (n := w.heap.size + 1) (by simp) hb3
  obtain ⟨c0, c1, c2, c3, c4, c5, c6, c7, c8, c9, c10⟩ := ip_box (below_trans hb2 hb3)
  have hs3 := hb3.size
  simp only [World.size_alloc] at hs3
  have bel3 := below_trans (below_trans hb1 hb2) hb3
  have q1 : w.heap.size < w3.heap.size := by omega
  have q2 : ¬ (w.heap.size = w3.heap.size) := by omega
  clear hu hb1 hb2 hb3
  go_wp2_with fail
  refine (frame_let p ao (some ⟨b, off, none⟩) no nb co cb 2 (w2 p.body 0) (w2 p.body 2) _).mono ?_
  rintro e w4 ⟨C, rfl, HC, hb4⟩
  have hb34 := below_trans (below_alloc _ _) hb4
  have F4 := F3.later (by omega) hb34
  have bel4 := below_trans bel3 hb34
  have d4 : w4.cell? ⟨w3.heap.size, 4, none⟩ = some (.int .i64 (b1 p.body 13)) := box_cell hb4 4 _ rfl
  have hs4 := hb4.size
  simp only [World.size_alloc] at hs4
  have hC22 : C.size = 22 := by rw [HC.out]; rfl
  obtain ⟨W5, F5, hb5, hst5⟩ := fr_var w4 C hC22 (by rw [HC.out]; exact oneFr _ _ _ _ _ _ _ _)
  have d5 := cell_later hb5 d4
  have c16 : W5.cell? ⟨w4.heap.size, 16, none⟩ = some (.int .i64 0) := F5.c 16 _ (by rw [HC.out]; rfl)
  have f16 := F5.f 16
  obtain ⟨C', hC'⟩ : ∃ C', C' = C.set 16 (.int .i64 (b1 p.body 13)) (by omega) := ⟨_, rfl⟩
  have F6 : FC (W5.setCell ⟨w4.heap.size, 16, none⟩ (.int .i64 (b1 p.body 13))) w4.heap.size C' := by rw [hC']; exact F5.set 16 (by omega) _
  have HC' : Hid (C' = frC p (.slice ao no co) (.slice (some ⟨b, off, none⟩) nb cb) ⟨0, 2, w2 p.body 0, w2 p.body 2, b1 p.body 13, Inn.zero⟩) := by
    show C' = _
    subst hC'
    have := HC.out
    subst this
    rfl
  have hC'22 : C'.size = 22 := by rw [HC'.out]; rfl
  have F7 : FC (W5.setCell ⟨w4.heap.size, 16, none⟩ (.int .i64 (b1 p.body 13))) (w.heap.size + 1) zeroFC := (F4.later (by omega) hb5).far (by omega)
  have bel6 : Below w.heap.size w (W5.setCell ⟨w4.heap.size, 16, none⟩ (.int .i64 (b1 p.body 13))) := (below_trans bel4 hb5).setCell (by show w.heap.size ≤ w4.heap.size; omega) _
  have hst7 := run_store_fr C' (F7.there rfl) hC'22 (by rw [HC'.out]; exact oneFr _ _ _ _ _ _ _ _)
  have hr7 := range_set C'.toList (by simpa using hC'22) (F7.there rfl)
  have bel7 := setCells_below (w.heap.size + 1) C'.toList 0 _ w.heap.size (by omega) bel6
  clear c0 c1 c2 c3 c4 c5 c6 c7 c8 c9 c10 F3 bel3 hb34 hb4 F4 bel4 d4 F5 hb5 hC' F7 bel6
  go_wp2_with (refine load_let rfl (.tmp 6) rfl w4.heap.size rfl C' F6 hC'22 ?_)
  refine bodyPost_ret (results_let rfl _ _ (w.heap.size + 1) C' rfl hr7 hC'22) rfl ?_
  exact ⟨by rw [HC'.out]; rfl, bel7⟩
end Go.Proofs.Ytdejjokgchbgnaa

namespace Go.Proofs.Ytdejjokgchbgnaa
open Go.RowKit
attribute [local go_sem ↓] Go.wp_at_zero Go.wp_at_succ

set_option maxHeartbeats 4000000 in
theorem segment_no (p : Dg) (ao ab : Option Addr) (no co b off nb cb : Nat) (w : World) (k : p.Ok) (ha : ab = some ⟨b, off, none⟩ ∨ p.body = []) (hA : At w b off nb cb p.body) (hl : nb ≤ 70000) (g : ¬ parseT p.src p.dst p.body = 0) :
    Calls Try.prog 44 #[ipV p (.slice ao no co) (.slice ab nb cb)] w fun e w' =>
      e = .returned (.tuple #[zeroFV, .int .i64 (whyI (parseT p.src p.dst p.body))]) ∧ Below w.heap.size w w' := by
  have hb1 := below_alloc w (.cells (ipC p (.slice ao no co) (.slice ab nb cb)) 65)
  have hb2 := below_alloc (w.alloc (.cells (ipC p (.slice ao no co) (.slice ab nb cb)) 65)) (.cells zeroFC 37)
  have hu := tparse_no p.src p.dst ab b off nb cb p.body _ k.src0 k.src1 k.dst0 k.dst1 ha (hA.later (below_trans hb1 hb2)) hl g
  have hne : (parseT p.src p.dst p.body != 0) = true := by rw [bne_iff_ne]; exact g
  clear hA g
  go_enter Try.func44, Try.ntmps44
  go_wp2_with fail
  refine hu.mono ?_
  rintro e w3 ⟨rfl, hb3⟩
  have F3 := fc_new (n := w.heap.size + 1) (by simp) hb3
  have hs3 := hb3.size
  simp only [World.size_alloc] at hs3
  have bel3 := below_trans (below_trans hb1 hb2) hb3
  clear hu hb1 hb2 hb3
  go_wp2_with fail
  refine (whyOf_any _ _).mono ?_
  rintro e w4 ⟨rfl, rfl⟩
  have F4 := F3.later (by omega) (below_alloc w3 (.cells (pcC Pc.zero (.slice none 0 0) (.slice none 0 0)) 69))
  have bel4 := below_trans bel3 (below_alloc w3 (.cells (pcC Pc.zero (.slice none 0 0) (.slice none 0 0)) 69))
  go_wp2_with (refine store_fr rfl (.tmp 2) (.tmp 22) rfl (w.heap.size + 1) zeroFC rfl rfl (F4.there rfl) rfl oneZ ?_)
  refine bodyPost_ret (results_fr2 rfl _ _ (w.heap.size + 1) _ rfl (range_set zeroFC.toList rfl (F4.there rfl)) rfl) rfl ?_
  exact ⟨rfl, setCells_below _ _ _ _ _ (by omega) bel4⟩

set_option maxHeartbeats 4000000 in
theorem fault_no (p : Dg) (ao ab : Option Addr) (no co nb cb : Nat) (a : Option Addr) (b off len cap : Nat) (l : List Int) (w : World) (ha : a = some ⟨b, off, none⟩ ∨ l = []) (hA : At w b off len cap l) (h : quoteO l = none) :
    Calls Try.prog 64 #[ipV p (.slice ao no co) (.slice ab nb cb), .slice a len cap] w fun e w' => e = .returned (.tuple #[zeroFV, .int .i64 1]) ∧ Below w.heap.size w w' := by
  have hb1 := below_alloc w (.cells (ipC p (.slice ao no co) (.slice ab nb cb)) 65)
  have hb2 := below_alloc (w.alloc (.cells (ipC p (.slice ao no co) (.slice ab nb cb)) 65)) (.cells zeroFC 37)
  have hu := quote_no a b off len cap l _ ha (hA.later (below_trans hb1 hb2)) h
  clear hA
  go_enter Try.func64, Try.ntmps64
  go_wp2_with fail
  refine hu.mono ?_
  rintro e w3 ⟨rfl, hb3⟩
  have F3 := fc_new (n := w.heap.size + 1) (by simp) hb3
  have hs3 := hb3.size
  simp only [World.size_alloc] at hs3
  have bel3 := below_trans (below_trans hb1 hb2) hb3
  have F4 := F3.later (by omega) (below_alloc w3 (.cells (inC Inn.zero) 35))
  have bel4 := below_trans bel3 (below_alloc w3 (.cells (inC Inn.zero) 35))
  clear hu hb1 hb2 hb3 F3 bel3
  go_wp2_with (refine store_fr rfl (.tmp 4) (.tmp 16) rfl (w.heap.size + 1) zeroFC rfl rfl (F4.there rfl) rfl oneZ ?_)
  refine bodyPost_ret (results_fr2 rfl _ _ (w.heap.size + 1) _ rfl (range_set zeroFC.toList rfl (F4.there rfl)) rfl) rfl ?_
  exact ⟨rfl, setCells_below _ _ _ _ _ (by omega) bel4⟩

theorem set_inner (p : Dg) (vo vb : Value) (k : Int) (x : Inn) (C : Array Value) (hC : C = frC p vo vb ⟨0, k, 0, 0, 0, Inn.zero⟩) (h1 : 17 < C.size) (h2 : 18 < (C.set 17 (.int .i64 x.proto) h1).size) (h3 : 19 < ((C.set 17 (.int .i64 x.proto) h1).set 18 (.int .u32 x.sa) h2).size) (h4 : 20 < (((C.set 17 (.int .i64 x.proto) h1).set 18 (.int .u32 x.sa) h2).set 19 (.int .i64 x.sp) h3).size) (h5 : 21 < ((((C.set 17 (.int .i64 x.proto) h1).set 18 (.int .u32 x.sa) h2).set 19 (.int .i64 x.sp) h3).set 20 (.int .u32 x.da) h4).size) :
    (((((C.set 17 (.int .i64 x.proto) h1).set 18 (.int .u32 x.sa) h2).set 19 (.int .i64 x.sp) h3).set 20 (.int .u32 x.da) h4).set 21 (.int .i64 x.dp) h5) = frC p vo vb ⟨0, k, 0, 0, 0, x⟩ := by
  subst hC
  apply Array.ext'
  simp only [Array.toList_set]
  rfl

set_option maxHeartbeats 4000000 in
theorem fault_ok (p : Dg) (ao ab : Option Addr) (no co nb cb : Nat) (b off len cap : Nat) (l : List Int) (x : Inn) (w : World) (hA : At w b off len cap l) (h : quoteO l = some x) :
    Calls Try.prog 64 #[ipV p (.slice ao no co) (.slice ab nb cb), .slice (some ⟨b, off, none⟩) len cap] w fun e w' =>
      e = .returned (.tuple #[frV p (.slice ao no co) (.slice ab nb cb) ⟨0, 5, 0, 0, 0, x⟩, .int .i64 0]) ∧ Below w.heap.size w w' := by
  have hb1 := below_alloc w (.cells (ipC p (.slice ao no co) (.slice ab nb cb)) 65)
  have hb2 := below_alloc (w.alloc (.cells (ipC p (.slice ao no co) (.slice ab nb cb)) 65)) (.cells zeroFC 37)
  have hu := quote_ok b off len cap l x _ (hA.later (below_trans hb1 hb2)) h
  clear hA
  go_enter Try.func64, Try.ntmps64
  go_wp2_with fail
  refine hu.mono ?_
  rintro e w3 ⟨rfl, hb3⟩
  have F3 := fc_new (n := w.heap.size + 1) (by simp) hb3
  obtain ⟨c0, c1, c2, c3, c4, c5, c6, c7, c8, c9, c10⟩ := ip_box (below_trans hb2 hb3)
  have hs3 := hb3.size
  simp only [World.size_alloc] at hs3
  have bel3 := below_trans (below_trans hb1 hb2) hb3
  have q1 : w.heap.size < w3.heap.size := by omega
  have q2 : ¬ (w.heap.size = w3.heap.size) := by omega
  clear hu hb1 hb2 hb3
  go_wp2_with fail
  refine (frame_let p ao ab no nb co cb 5 0 0 _).mono ?_
  rintro e w4 ⟨C, rfl, HC, hb4⟩
  have hb34 := below_trans (below_alloc _ _) hb4
  have F4 := F3.later (by omega) hb34
  have bel4 := below_trans bel3 hb34
  have d0 : w4.cell? ⟨w3.heap.size, 0, none⟩ = some (.int .i64 x.proto) := box_cell hb4 0 _ rfl
  have d1 : w4.cell? ⟨w3.heap.size, 1, none⟩ = some (.int .u32 x.sa) := box_cell hb4 1 _ rfl
  have d2 : w4.cell? ⟨w3.heap.size, 2, none⟩ = some (.int .i64 x.sp) := box_cell hb4 2 _ rfl
  have d3 : w4.cell? ⟨w3.heap.size, 3, none⟩ = some (.int .u32 x.da) := box_cell hb4 3 _ rfl
  have d4 : w4.cell? ⟨w3.heap.size, 4, none⟩ = some (.int .i64 x.dp) := box_cell hb4 4 _ rfl
  have hs4 := hb4.size
  simp only [World.size_alloc] at hs4
  have hC22 : C.size = 22 := by rw [HC.out]; rfl
  obtain ⟨W5, F5, hb5, hst5⟩ := fr_var w4 C hC22 (by rw [HC.out]; exact oneFr _ _ _ _ _ _ _ _)
  have d0 := cell_later hb5 d0
  have d1 := cell_later hb5 d1
  have d2 := cell_later hb5 d2
  have d3 := cell_later hb5 d3
  have d4 := cell_later hb5 d4
  have e17 : W5.cell? ⟨w4.heap.size, 17, none⟩ = some (.int .i64 0) := F5.c 17 _ (by rw [HC.out]; rfl)
  have e18 : W5.cell? ⟨w4.heap.size, 18, none⟩ = some (.int .u32 0) := F5.c 18 _ (by rw [HC.out]; rfl)
  have e19 : W5.cell? ⟨w4.heap.size, 19, none⟩ = some (.int .i64 0) := F5.c 19 _ (by rw [HC.out]; rfl)
  have e20 : W5.cell? ⟨w4.heap.size, 20, none⟩ = some (.int .u32 0) := F5.c 20 _ (by rw [HC.out]; rfl)
  have e21 : W5.cell? ⟨w4.heap.size, 21, none⟩ = some (.int .i64 0) := F5.c 21 _ (by rw [HC.out]; rfl)
  have fz := F5.f
  have G1 := F5.set 17 (by rw [hC22]; decide) (.int .i64 x.proto)
  have G2 := G1.set 18 (by rw [Array.size_set, hC22]; decide) (.int .u32 x.sa)
  have G3 := G2.set 19 (by simp only [Array.size_set, hC22]; decide) (.int .i64 x.sp)
  have G4 := G3.set 20 (by simp only [Array.size_set, hC22]; decide) (.int .u32 x.da)
  have G5 := G4.set 21 (by simp only [Array.size_set, hC22]; decide) (.int .i64 x.dp)
  obtain ⟨W6, hW6⟩ : ∃ W6, W6 = (((((W5.setCell ⟨w4.heap.size, 17, none⟩ (.int .i64 x.proto)).setCell ⟨w4.heap.size, 18, none⟩ (.int .u32 x.sa)).setCell ⟨w4.heap.size, 19, none⟩ (.int .i64 x.sp)).setCell ⟨w4.heap.size, 20, none⟩ (.int .u32 x.da)).setCell ⟨w4.heap.size, 21, none⟩ (.int .i64 x.dp)) := ⟨_, rfl⟩
  obtain ⟨C', HC', F6⟩ : ∃ C', Hid (C' = frC p (.slice ao no co) (.slice ab nb cb) ⟨0, 5, 0, 0, 0, x⟩) ∧ FC W6 w4.heap.size C' := by
    rw [hW6]
    exact ⟨_, set_inner p _ _ 5 x C HC.out _ _ _ _ _, G5⟩
  have hC'22 : C'.size = 22 := by rw [HC'.out]; rfl
  have hle : w.heap.size ≤ w4.heap.size := by omega
  have hnq : ¬ w4.heap.size = w.heap.size + 1 := by omega
  have F7 : FC W6 (w.heap.size + 1) zeroFC := by rw [hW6]; exact (((((F4.later (by omega) hb5).far hnq).far hnq).far hnq).far hnq).far hnq
  have bel6 : Below w.heap.size w W6 := by rw [hW6]; exact ((((((below_trans bel4 hb5).setCell hle _).setCell hle _).setCell hle _).setCell hle _).setCell hle _)
  have hst7 := run_store_fr C' (F7.there rfl) hC'22 (by rw [HC'.out]; exact oneFr _ _ _ _ _ _ _ _)
  have hr7 := range_set C'.toList (by simpa using hC'22) (F7.there rfl)
  have bel7 := setCells_below (w.heap.size + 1) C'.toList 0 _ w.heap.size (by omega) bel6
  have q5 : ¬ (w4.heap.size = w3.heap.size) := by omega
  clear c0 c1 c2 c3 c4 c5 c6 c7 c8 c9 c10 F3 bel3 hb34 hb4 F4 bel4 F5 hb5 F7 bel6 G1 G2 G3 G4 G5
  have HW6 : Hid ((((((W5.setCell ⟨w4.heap.size, 17, none⟩ (.int .i64 x.proto)).setCell ⟨w4.heap.size, 18, none⟩ (.int .u32 x.sa)).setCell ⟨w4.heap.size, 19, none⟩ (.int .i64 x.sp)).setCell ⟨w4.heap.size, 20, none⟩ (.int .u32 x.da)).setCell ⟨w4.heap.size, 21, none⟩ (.int .i64 x.dp)) = W6) := hW6.symm
  clear hW6
  go_wp2_with (rw [HW6.out]; refine load_let rfl (.tmp 8) rfl w4.heap.size rfl C' F6 hC'22 ?_)
  refine bodyPost_ret (results_let rfl _ _ (w.heap.size + 1) C' rfl hr7 hC'22) rfl ?_
  exact ⟨by rw [HC'.out]; rfl, bel7⟩
end Go.Proofs.Ytdejjokgchbgnaa

namespace Go.Proofs.Ytdejjokgchbgnaa
open Go.RowKit
attribute [local go_sem ↓] Go.wp_at_zero Go.wp_at_succ

theorem sm_box {w3 W : World} {N : Nat} {p : Dg} {vo vb : Value} {m : Wd} {vd : Value} {T : TypeId} (c : w3.cell? ⟨N, 0, none⟩ = some (.int .i64 p.tos) ∧ w3.cell? ⟨N, 1, none⟩ = some (.int .i64 p.id) ∧ w3.cell? ⟨N, 2, none⟩ = some (.bool p.df) ∧ w3.cell? ⟨N, 3, none⟩ = some (.bool p.mf) ∧ w3.cell? ⟨N, 4, none⟩ = some (.int .i64 p.off) ∧ w3.cell? ⟨N, 5, none⟩ = some (.int .i64 p.ttl) ∧ w3.cell? ⟨N, 6, none⟩ = some (.int .i64 p.proto) ∧ w3.cell? ⟨N, 7, none⟩ = some (.int .u32 p.src) ∧ w3.cell? ⟨N, 8, none⟩ = some (.int .u32 p.dst) ∧ w3.cell? ⟨N, 9, none⟩ = some (vo) ∧ w3.cell? ⟨N, 10, none⟩ = some (vb)) (hb : Below (w3.alloc (.cells (wdC m vd) T)).heap.size (w3.alloc (.cells (wdC m vd) T)) W) :
    W.cell? ⟨N, 0, none⟩ = some (.int .i64 p.tos) ∧ W.cell? ⟨N, 1, none⟩ = some (.int .i64 p.id) ∧ W.cell? ⟨N, 2, none⟩ = some (.bool p.df) ∧ W.cell? ⟨N, 3, none⟩ = some (.bool p.mf) ∧ W.cell? ⟨N, 4, none⟩ = some (.int .i64 p.off) ∧ W.cell? ⟨N, 5, none⟩ = some (.int .i64 p.ttl) ∧ W.cell? ⟨N, 6, none⟩ = some (.int .i64 p.proto) ∧ W.cell? ⟨N, 7, none⟩ = some (.int .u32 p.src) ∧ W.cell? ⟨N, 8, none⟩ = some (.int .u32 p.dst) ∧ W.cell? ⟨N, 9, none⟩ = some (vo) ∧ W.cell? ⟨N, 10, none⟩ = some (vb) ∧ W.cell? ⟨w3.heap.size, 0, none⟩ = some (.int .i64 m.type) ∧ W.cell? ⟨w3.heap.size, 1, none⟩ = some (.int .i64 m.code) ∧ W.cell? ⟨w3.heap.size, 2, none⟩ = some (.int .u32 m.rest) ∧ W.cell? ⟨w3.heap.size, 3, none⟩ = some (vd) := by
  obtain ⟨c0, c1, c2, c3, c4, c5, c6, c7, c8, c9, c10⟩ := c
  have hb' := below_trans (below_alloc w3 (.cells (wdC m vd) T)) hb
  exact ⟨cell_later hb' c0, cell_later hb' c1, cell_later hb' c2, cell_later hb' c3, cell_later hb' c4, cell_later hb' c5, cell_later hb' c6, cell_later hb' c7, cell_later hb' c8, cell_later hb' c9, cell_later hb' c10, box_cell hb 0 _ rfl, box_cell hb 1 _ rfl, box_cell hb 2 _ rfl, box_cell hb 3 _ rfl⟩

set_option maxHeartbeats 4000000 in
theorem message_no (p : Dg) (ao ab : Option Addr) (no co b off nb cb : Nat) (w : World) (ha : ab = some ⟨b, off, none⟩ ∨ p.body = []) (hA : At w b off nb cb p.body) (hl : nb ≤ 70000) (g : ¬ parseW p.body = 0) :
    Calls Try.prog 45 #[ipV p (.slice ao no co) (.slice ab nb cb)] w fun e w' =>
      e = .returned (.tuple #[zeroFV, .int .i64 (whyI (parseW p.body))]) ∧ Below w.heap.size w w' := by
  have hb1 := below_alloc w (.cells (ipC p (.slice ao no co) (.slice ab nb cb)) 65)
  have hb2 := below_alloc (w.alloc (.cells (ipC p (.slice ao no co) (.slice ab nb cb)) 65)) (.cells zeroFC 37)
  have hu := wparse_no ab b off nb cb p.body _ ha (hA.later (below_trans hb1 hb2)) (by omega) g
  have hne : (parseW p.body != 0) = true := by rw [bne_iff_ne]; exact g
  clear hA g
  go_enter Try.func45, Try.ntmps45
  go_wp2_with fail
  refine hu.mono ?_
  rintro e w3 ⟨rfl, hb3⟩
  have F3 := fc_new (n := w.heap.size + 1) (by simp) hb3
  have hs3 := hb3.size
  simp only [World.size_alloc] at hs3
  have bel3 := below_trans (below_trans hb1 hb2) hb3
  clear hu hb1 hb2 hb3
  go_wp2_with fail
  refine (whyOf_any _ _).mono ?_
  rintro e w4 ⟨rfl, rfl⟩
  have F4 := F3.later (by omega) (below_alloc w3 (.cells (wdC Wd.zero (.slice none 0 0)) 87))
  have bel4 := below_trans bel3 (below_alloc w3 (.cells (wdC Wd.zero (.slice none 0 0)) 87))
  go_wp2_with (refine store_fr rfl (.tmp 2) (.tmp 16) rfl (w.heap.size + 1) zeroFC rfl rfl (F4.there rfl) rfl oneZ ?_)
  refine bodyPost_ret (results_fr2 rfl _ _ (w.heap.size + 1) _ rfl (range_set zeroFC.toList rfl (F4.there rfl)) rfl) rfl ?_
  exact ⟨rfl, setCells_below _ _ _ _ _ (by omega) bel4⟩

set_option maxHeartbeats 4000000 in
theorem message_none (p : Dg) (ao : Option Addr) (no co b off nb cb : Nat) (w : World) (hA : At w b off nb cb p.body) (hl : nb ≤ 70000) (g : WGood p.body) (hk : kindW (b1 p.body 0) (b1 p.body 1) = 0) :
    Calls Try.prog 45 #[ipV p (.slice ao no co) (.slice (some ⟨b, off, none⟩) nb cb)] w fun e w' => e = .returned (.tuple #[zeroFV, .int .i64 4]) ∧ Below w.heap.size w w' := by
  have hb1 := below_alloc w (.cells (ipC p (.slice ao no co) (.slice (some ⟨b, off, none⟩) nb cb)) 65)
  have hb2 := below_alloc (w.alloc (.cells (ipC p (.slice ao no co) (.slice (some ⟨b, off, none⟩) nb cb)) 65)) (.cells zeroFC 37)
  have hu := wparse_ok b off nb cb p.body _ (hA.later (below_trans hb1 hb2)) (by omega) g
  have hk' : kindW (wdOf p.body).type (wdOf p.body).code = 0 := hk
  clear hA g hk
  go_enter Try.func45, Try.ntmps45
  go_wp2_with fail
  refine hu.mono ?_
  rintro e w3 ⟨a1, k1, rfl, -, hb3⟩
  have F3 := fc_new (n := w.heap.size + 1) (by simp) hb3
  have hs3 := hb3.size
  simp only [World.size_alloc] at hs3
  have bel3 := below_trans (below_trans hb1 hb2) hb3
  clear hu hb1 hb2 hb3
  go_wp2_with fail
  refine (kind_any (wdOf p.body) a1 _ k1 _).mono ?_
  rintro e w4 ⟨rfl, hb4⟩
  rw [hk']
  have hb34 := below_trans (below_alloc _ _) hb4
  have F4 := F3.later (by omega) hb34
  have bel4 := below_trans bel3 hb34
  clear hb4 hb34 F3 bel3 hk'
  go_wp2_with (refine store_fr rfl (.tmp 2) (.tmp 31) rfl (w.heap.size + 1) zeroFC rfl rfl (F4.there rfl) rfl oneZ ?_)
  refine bodyPost_ret (results_fr2 rfl _ _ (w.heap.size + 1) _ rfl (range_set zeroFC.toList rfl (F4.there rfl)) rfl) rfl ?_
  exact ⟨rfl, setCells_below _ _ _ _ _ (by omega) bel4⟩

set_option maxHeartbeats 4000000 in
theorem message_fault (p : Dg) (ao : Option Addr) (no co b off nb cb : Nat) (w : World) (hA : At w b off nb cb p.body) (hl : nb ≤ 70000) (g : WGood p.body) (hk : kindW (b1 p.body 0) (b1 p.body 1) = 5) (C : Array Value) (y : Int) (hC : C.size = 22) (h1 : C.all (·.oneCell') = true)
    (hm : ∀ a1 k1 W, Bts W (.slice a1 (wdOf p.body).data.length k1) (wdOf p.body).data → Calls Try.prog 64 #[ipV p (.slice ao no co) (.slice (some ⟨b, off, none⟩) nb cb), .slice a1 (wdOf p.body).data.length k1] W fun e w' => e = .returned (.tuple #[.agg C, .int .i64 y]) ∧ Below W.heap.size W w') :
    Calls Try.prog 45 #[ipV p (.slice ao no co) (.slice (some ⟨b, off, none⟩) nb cb)] w fun e w' => e = .returned (.tuple #[.agg C, .int .i64 y]) ∧ Below w.heap.size w w' := by
  have hb1 := below_alloc w (.cells (ipC p (.slice ao no co) (.slice (some ⟨b, off, none⟩) nb cb)) 65)
  have hb2 := below_alloc (w.alloc (.cells (ipC p (.slice ao no co) (.slice (some ⟨b, off, none⟩) nb cb)) 65)) (.cells zeroFC 37)
  have hu := wparse_ok b off nb cb p.body _ (hA.later (below_trans hb1 hb2)) (by omega) g
  have hk' : kindW (wdOf p.body).type (wdOf p.body).code = 5 := hk
  clear hA g hk
  go_enter Try.func45, Try.ntmps45
  go_wp2_with fail
  refine hu.mono ?_
  rintro e w3 ⟨a1, k1, rfl, hD3, hb3⟩
  have F3 := fc_new (n := w.heap.size + 1) (by simp) hb3
  have cc := ip_box (below_trans hb2 hb3)
  have hs3 := hb3.size
  simp only [World.size_alloc] at hs3
  have bel3 := below_trans (below_trans hb1 hb2) hb3
  clear hu hb1 hb2 hb3
  go_wp2_with fail
  refine (kind_any (wdOf p.body) a1 _ k1 _).mono ?_
  rintro e w4 ⟨rfl, hb4⟩
  rw [hk']
  have hb34 := below_trans (below_alloc _ _) hb4
  have F4 := F3.later (by omega) hb34
  have bel4 := below_trans bel3 hb34
  have hD4 := hD3.later hb34
  have hmw := hm a1 k1 _ hD4
  obtain ⟨c0, c1, c2, c3, c4, c5, c6, c7, c8, c9, c10, e0, e1, e2, e3⟩ := sm_box cc hb4
  have hs4 := hb4.size
  simp only [World.size_alloc] at hs4
  clear hb4 F3 bel3 hk' cc hm hD3 hD4
  go_wp2_with fail
  refine hmw.mono ?_
  rintro e w5 ⟨rfl, hb5⟩
  have F5 := F4.later (by have := hb34.size; omega) hb5
  have bel5 := below_trans bel4 hb5
  have hst := run_store_fr C (F5.there rfl) hC h1
  have hr := range_set C.toList (by simpa using hC) (F5.there rfl)
  have bel6 := setCells_below (w.heap.size + 1) C.toList 0 _ w.heap.size (by omega) bel5
  clear c0 c1 c2 c3 c4 c5 c6 c7 c8 c9 c10 e0 e1 e2 e3 F4 bel4 hmw hb34
  go_wp2
  refine bodyPost_ret (results_let rfl _ _ (w.heap.size + 1) C rfl hr hC) rfl ?_
  exact ⟨rfl, bel6⟩

set_option maxHeartbeats 8000000 in
theorem message_echo (p : Dg) (ao : Option Addr) (no co b off nb cb : Nat) (w : World) (hA : At w b off nb cb p.body) (hl : nb ≤ 70000) (g : WGood p.body) (hk0 : ¬ kindW (b1 p.body 0) (b1 p.body 1) = 0) (hk5 : ¬ kindW (b1 p.body 0) (b1 p.body 1) = 5) :
    Calls Try.prog 45 #[ipV p (.slice ao no co) (.slice (some ⟨b, off, none⟩) nb cb)] w fun e w' =>
      e = .returned (.tuple #[frV p (.slice ao no co) (.slice (some ⟨b, off, none⟩) nb cb) ⟨0, kindW (b1 p.body 0) (b1 p.body 1), w2 p.body 4, w2 p.body 4, 0, Inn.zero⟩, .int .i64 0]) ∧ Below w.heap.size w w' := by
  have hb1 := below_alloc w (.cells (ipC p (.slice ao no co) (.slice (some ⟨b, off, none⟩) nb cb)) 65)
  have hb2 := below_alloc (w.alloc (.cells (ipC p (.slice ao no co) (.slice (some ⟨b, off, none⟩) nb cb)) 65)) (.cells zeroFC 37)
  have hu := wparse_ok b off nb cb p.body _ (hA.later (below_trans hb1 hb2)) (by omega) g
  have HR : Hid (0 ≤ (wdOf p.body).rest ∧ (wdOf p.body).rest < 4294967296) := w4_bd p.body hA.bytes 4
  have HQ : Hid ((wdOf p.body).rest / 65536 = w2 p.body 4) := w4_high p.body hA.bytes 4
  have hk0' : (kindW (wdOf p.body).type (wdOf p.body).code == 0) = false := by have q : ¬ kindW (wdOf p.body).type (wdOf p.body).code = 0 := hk0; simpa using q
  have hk5' : (kindW (wdOf p.body).type (wdOf p.body).code == 5) = false := by have q : ¬ kindW (wdOf p.body).type (wdOf p.body).code = 5 := hk5; simpa using q
  have HK : Hid (kindW (wdOf p.body).type (wdOf p.body).code = kindW (b1 p.body 0) (b1 p.body 1)) := (rfl : kindW (wdOf p.body).type (wdOf p.body).code = _)
  clear hA g hk0 hk5
  go_enter Try.func45, Try.ntmps45
  go_wp2_with fail
  refine hu.mono ?_
  rintro e w3 ⟨a1, k1, rfl, -, hb3⟩
  have F3 := fc_new (n := w.heap.size + 1) (by simp) hb3
  have cc := ip_box (below_trans hb2 hb3)
  have hs3 := hb3.size
  simp only [World.size_alloc] at hs3
  have bel3 := below_trans (below_trans hb1 hb2) hb3
  clear hu hb1 hb2 hb3
  obtain ⟨m, hm⟩ : ∃ m, wdOf p.body = m := ⟨_, rfl⟩
  rw [hm] at HR HQ hk0' hk5' HK ⊢
  obtain ⟨nd, hnd⟩ : ∃ nd, m.data.length = nd := ⟨_, rfl⟩
  rw [hnd]
  clear hm hnd
  go_wp2_with fail
  refine (kind_any m a1 nd k1 _).mono ?_
  rintro e w4 ⟨rfl, hb4⟩
  have HB4 : Hid (Below (w3.alloc (.cells (wdC m (.slice a1 nd k1)) 87)).heap.size (w3.alloc (.cells (wdC m (.slice a1 nd k1)) 87)) w4) := hb4
  have HF3 : Hid (FC w3 (w.heap.size + 1) zeroFC) := F3
  have HE3 : Hid (Below w.heap.size w w3) := bel3
  have HC : Hid (∀ W, Below (w3.alloc (.cells (wdC m (.slice a1 nd k1)) 87)).heap.size (w3.alloc (.cells (wdC m (.slice a1 nd k1)) 87)) W → W.cell? ⟨w.heap.size, 0, none⟩ = some (.int .i64 p.tos) ∧ W.cell? ⟨w.heap.size, 1, none⟩ = some (.int .i64 p.id) ∧ W.cell? ⟨w.heap.size, 2, none⟩ = some (.bool p.df) ∧ W.cell? ⟨w.heap.size, 3, none⟩ = some (.bool p.mf) ∧ W.cell? ⟨w.heap.size, 4, none⟩ = some (.int .i64 p.off) ∧ W.cell? ⟨w.heap.size, 5, none⟩ = some (.int .i64 p.ttl) ∧ W.cell? ⟨w.heap.size, 6, none⟩ = some (.int .i64 p.proto) ∧ W.cell? ⟨w.heap.size, 7, none⟩ = some (.int .u32 p.src) ∧ W.cell? ⟨w.heap.size, 8, none⟩ = some (.int .u32 p.dst) ∧ W.cell? ⟨w.heap.size, 9, none⟩ = some (.slice ao no co) ∧ W.cell? ⟨w.heap.size, 10, none⟩ = some (.slice (some ⟨b, off, none⟩) nb cb) ∧ W.cell? ⟨w3.heap.size, 0, none⟩ = some (.int .i64 m.type) ∧ W.cell? ⟨w3.heap.size, 1, none⟩ = some (.int .i64 m.code) ∧ W.cell? ⟨w3.heap.size, 2, none⟩ = some (.int .u32 m.rest) ∧ W.cell? ⟨w3.heap.size, 3, none⟩ = some (.slice a1 nd k1)) := fun W h => sm_box cc h
  have hnN : w.heap.size + 1 ≠ w.heap.size := by omega
  have hn3 : w.heap.size + 1 ≠ w3.heap.size := by omega
  have s4 := HC.out w4 hb4
  clear hb4 F3 bel3 cc
  go_wp2_with fail
  go_region_held3 (fun w' => w'.cell? ⟨w.heap.size, 0, none⟩ = some (.int .i64 p.tos) ∧ w'.cell? ⟨w.heap.size, 1, none⟩ = some (.int .i64 p.id) ∧ w'.cell? ⟨w.heap.size, 2, none⟩ = some (.bool p.df) ∧ w'.cell? ⟨w.heap.size, 3, none⟩ = some (.bool p.mf) ∧ w'.cell? ⟨w.heap.size, 4, none⟩ = some (.int .i64 p.off) ∧ w'.cell? ⟨w.heap.size, 5, none⟩ = some (.int .i64 p.ttl) ∧ w'.cell? ⟨w.heap.size, 6, none⟩ = some (.int .i64 p.proto) ∧ w'.cell? ⟨w.heap.size, 7, none⟩ = some (.int .u32 p.src) ∧ w'.cell? ⟨w.heap.size, 8, none⟩ = some (.int .u32 p.dst) ∧ w'.cell? ⟨w.heap.size, 9, none⟩ = some (.slice ao no co) ∧ w'.cell? ⟨w.heap.size, 10, none⟩ = some (.slice (some ⟨b, off, none⟩) nb cb) ∧ w'.cell? ⟨w3.heap.size, 0, none⟩ = some (.int .i64 m.type) ∧ w'.cell? ⟨w3.heap.size, 1, none⟩ = some (.int .i64 m.code) ∧ w'.cell? ⟨w3.heap.size, 2, none⟩ = some (.int .u32 m.rest) ∧ w'.cell? ⟨w3.heap.size, 3, none⟩ = some (.slice a1 nd k1)) (first | (with_reducible exact s4) | (exact HC.out _ (below_drewN HB4.out 1)) | (with_reducible exact HC.out _ hb5) | (with_reducible exact HC.out _ hb6) | (with_reducible exact HC.out _ hb7) | (simp only [far_set _ _ hnN, far_set _ _ hn3]; exact HC.out _ hb7))
    (first
      | (go_at_call 65; first | (have hb6' := hb5; refine (number_of m a1 nd k1 _ HR.out.1 HR.out.2).mono ?_; rintro e w6 ⟨rfl, hb6''⟩; have hb6 := below_trans hb5 hb6'') | (refine (number_of m a1 nd k1 _ HR.out.1 HR.out.2).mono ?_; rintro e w5 ⟨rfl, hb5'⟩; have hb5 := below_trans (below_drewN HB4.out 1) hb5'))
      | (go_at_call 60; refine (frame_let p ao (some ⟨b, off, none⟩) no nb co cb _ _ _ _).mono ?_; rintro e w7 ⟨C, rfl, HCC, hb7'⟩; have hb7 := below_trans hb6 hb7'; have F7 := HF3.out.later (by omega) (below_trans (below_alloc _ _) hb7); have hC22 : C.size = 22 := congrArg Array.size HCC.out; have hst := run_store_fr C (F7.there rfl) hC22 (by rw [HCC.out]; exact oneFr _ _ _ _ _ _ _ _)))
  have hr := range_set C.toList (by simpa using hC22) (F7.there rfl)
  have bel7 := below_trans HE3.out (below_trans (below_alloc _ _) hb7)
  have bel8 := setCells_below (w.heap.size + 1) C.toList 0 _ w.heap.size (by omega) bel7
  go_wp2
  refine bodyPost_ret (results_let rfl _ _ (w.heap.size + 1) C rfl hr hC22) rfl ?_
  exact ⟨by rw [HCC.out, HQ.out, HK.out]; rfl, bel8⟩
end Go.Proofs.Ytdejjokgchbgnaa

namespace Go.Proofs.Ytdejjokgchbgnaa
open Go.RowKit
attribute [local go_sem ↓] Go.wp_at_zero Go.wp_at_succ

set_option maxHeartbeats 4000000 in
theorem read_err (a : Option Addr) (b off len cap : Nat) (l : List Int) (w : World) (ha : a = some ⟨b, off, none⟩ ∨ l = []) (hA : At w b off len cap l) (h : ¬ parseE l = 0) :
    Calls Try.prog 12 #[.slice a len cap] w fun e w' => e = .returned (.tuple #[.agg zeroFC, .int .i64 (whyI (parseE l))]) ∧ Below w.heap.size w w' := by
  have hb1 := below_alloc w (.cells zeroFC 37)
  have hu := parse_no a b off len cap l _ ha (hA.later hb1) h
  have hne : (parseE l != 0) = true := by rw [bne_iff_ne]; exact h
  clear hA h
  go_enter Try.func12, Try.ntmps12
  go_wp2_with fail
  refine hu.mono ?_
  rintro e w3 ⟨rfl, hb3⟩
  have F3 := fc_new (n := w.heap.size) rfl hb3
  have hs3 := hb3.size
  simp only [World.size_alloc] at hs3
  have bel3 := below_trans hb1 hb3
  clear hu hb1 hb3
  go_wp2_with fail
  refine (whyOf_any _ _).mono ?_
  rintro e w4 ⟨rfl, rfl⟩
  have F4 := F3.later (by omega) (below_alloc w3 (.cells (ipC Dg.zero (.slice none 0 0) (.slice none 0 0)) 29))
  have bel4 := below_trans bel3 (below_alloc w3 (.cells (ipC Dg.zero (.slice none 0 0) (.slice none 0 0)) 29))
  go_wp2_with (refine store_fr rfl (.tmp 2) (.tmp 14) rfl w.heap.size zeroFC rfl rfl (F4.there rfl) rfl oneZ ?_)
  refine bodyPost_ret (results_fr2 rfl _ _ w.heap.size _ rfl (range_set zeroFC.toList rfl (F4.there rfl)) rfl) rfl ?_
  exact ⟨rfl, setCells_below _ _ _ _ _ (Nat.le_refl _) bel4⟩

set_option maxHeartbeats 4000000 in
theorem read_part (b off len cap : Nat) (l : List Int) (w : World) (hA : At w b off len cap l) (g : Good l) (hp : partB (dgOf l) = true) :
    Calls Try.prog 12 #[.slice (some ⟨b, off, none⟩) len cap] w fun e w' => e = .returned (.tuple #[.agg zeroFC, .int .i64 3]) ∧ Below w.heap.size w w' := by
  have hb1 := below_alloc w (.cells zeroFC 37)
  have hpa := parse_ok b off len cap l _ (hA.later hb1) g
  rcases hpd : dgOf l with ⟨tos, id, df, mf, of, ttl, pr, src, dst, opts, body⟩
  rw [hpd] at hpa hp
  have hpp : mf = true ∨ (mf = false ∧ (of != 0) = true) := by
    unfold partB at hp
    simp only at hp
    cases mf
    · right; refine ⟨rfl, ?_⟩; simpa using hp
    · left; rfl
  clear hA g hpd hp
  rcases hpp with rfl | ⟨rfl, hof⟩
  all_goals
    go_enter Try.func12, Try.ntmps12
    go_wp2_with fail
    refine hpa.mono ?_
    rintro e w3 ⟨a1, k1, a2, k2, rfl, -, -, hb3⟩
    have F3 := fc_new (n := w.heap.size) rfl hb3
    have hs3 := hb3.size
    simp only [World.size_alloc] at hs3
    have bel3 := below_trans hb1 hb3
    clear hpa hb1 hb3
  · have F4 := F3.later (by omega) (below_alloc w3 (.cells (ipC ⟨tos, id, df, true, of, ttl, pr, src, dst, opts, body⟩ (.slice a1 opts.length k1) (.slice a2 body.length k2)) 29))
    have bel4 := below_trans bel3 (below_alloc w3 (.cells (ipC ⟨tos, id, df, true, of, ttl, pr, src, dst, opts, body⟩ (.slice a1 opts.length k1) (.slice a2 body.length k2)) 29))
    go_wp2_with (refine store_fr rfl (.tmp 2) (.tmp 25) rfl w.heap.size zeroFC rfl rfl (F4.there rfl) rfl oneZ ?_)
    refine bodyPost_ret (results_fr2 rfl _ _ w.heap.size _ rfl (range_set zeroFC.toList rfl (F4.there rfl)) rfl) rfl ?_
    exact ⟨rfl, setCells_below _ _ _ _ _ (Nat.le_refl _) bel4⟩
  · have F4 := F3.later (by omega) (below_alloc w3 (.cells (ipC ⟨tos, id, df, false, of, ttl, pr, src, dst, opts, body⟩ (.slice a1 opts.length k1) (.slice a2 body.length k2)) 29))
    have bel4 := below_trans bel3 (below_alloc w3 (.cells (ipC ⟨tos, id, df, false, of, ttl, pr, src, dst, opts, body⟩ (.slice a1 opts.length k1) (.slice a2 body.length k2)) 29))
    go_wp2_with (refine store_fr rfl (.tmp 2) (.tmp 25) rfl w.heap.size zeroFC rfl rfl (F4.there rfl) rfl oneZ ?_)
    refine bodyPost_ret (results_fr2 rfl _ _ w.heap.size _ rfl (range_set zeroFC.toList rfl (F4.there rfl)) rfl) rfl ?_
    exact ⟨rfl, setCells_below _ _ _ _ _ (Nat.le_refl _) bel4⟩

theorem read_tcp_ok (b off len cap : Nat) (l : List Int) (w : World) (hA : At w b off len cap l) (g : Good l) (hp : partB (dgOf l) = false) (h6 : (dgOf l).proto = 6) (hu : parseT (dgOf l).src (dgOf l).dst (dgOf l).body = 0) :
    Calls Try.prog 12 #[.slice (some ⟨b, off, none⟩) len cap] w fun e w' =>
      ∃ a1 k1 a2 k2, e = .returned (.tuple #[.agg (frC (dgOf l) (.slice a1 (dgOf l).opts.length k1) (.slice a2 (dgOf l).body.length k2) (rsOf (dgOf l))), .int .i64 0]) ∧ Bts w' (.slice a1 (dgOf l).opts.length k1) (dgOf l).opts ∧ Bts w' (.slice a2 (dgOf l).body.length k2) (dgOf l).body ∧ Below w.heap.size w w' := by
  have h17 : ¬ (dgOf l).proto = 17 := by omega
  have hr : rsOf (dgOf l) = ⟨0, 2, w2 (dgOf l).body 0, w2 (dgOf l).body 2, b1 (dgOf l).body 13, Inn.zero⟩ := by unfold rsOf rsT; rw [if_neg h17, if_pos h6, if_pos hu]
  have hk := dg_ok l hA.bytes
  have hl := body_len l g
  refine read_6 b off len cap l w hA g hp (by unfold wayF; rw [if_neg h17, if_pos h6]) (fun a1 k1 a2 k2 => frC (dgOf l) (.slice a1 (dgOf l).opts.length k1) (.slice a2 (dgOf l).body.length k2) (rsOf (dgOf l))) 0 (fun _ _ _ _ => rfl) (fun _ _ _ _ => oneFr _ _ _ _ _ _ _ _) ?_
  intro a1 k1 a2 k2 W hO hB
  obtain ⟨-, b', off', ha, hA'⟩ := hB.at_ne
  have g' := tgood_of _ _ _ hu
  rcases ha with rfl | ha
  · rw [hr]
    exact segment_ok (dgOf l) a1 _ k1 b' off' _ k2 W hk hA' hl g'
  · have := g'.a; rw [ha] at this; simp at this

theorem read_tcp_no (b off len cap : Nat) (l : List Int) (w : World) (hA : At w b off len cap l) (g : Good l) (hp : partB (dgOf l) = false) (h6 : (dgOf l).proto = 6) (hu : ¬ parseT (dgOf l).src (dgOf l).dst (dgOf l).body = 0) :
    Calls Try.prog 12 #[.slice (some ⟨b, off, none⟩) len cap] w fun e w' => e = .returned (.tuple #[.agg zeroFC, .int .i64 (rsOf (dgOf l)).why]) ∧ Below w.heap.size w w' := by
  have h17 : ¬ (dgOf l).proto = 17 := by omega
  have hr : (rsOf (dgOf l)).why = whyI (parseT (dgOf l).src (dgOf l).dst (dgOf l).body) := by unfold rsOf rsT; rw [if_neg h17, if_pos h6, if_neg hu]; rfl
  have hk := dg_ok l hA.bytes
  have hl := body_len l g
  refine (read_6 b off len cap l w hA g hp (by unfold wayF; rw [if_neg h17, if_pos h6]) (fun _ _ _ _ => zeroFC) (rsOf (dgOf l)).why (fun _ _ _ _ => rfl) (fun _ _ _ _ => oneZ) ?_).mono ?_
  · intro a1 k1 a2 k2 W hO hB
    obtain ⟨-, b', off', ha, hA'⟩ := hB.at_ne
    rw [hr]
    exact segment_no (dgOf l) a1 a2 _ k1 b' off' _ k2 W hk ha hA' hl hu
  · rintro e w' ⟨_, _, _, _, rfl, -, -, hb⟩
    exact ⟨rfl, hb⟩

theorem read_icmp_no (b off len cap : Nat) (l : List Int) (w : World) (hA : At w b off len cap l) (g : Good l) (hp : partB (dgOf l) = false) (h1 : (dgOf l).proto = 1) (h : ¬ (rsOf (dgOf l)).why = 0) :
    Calls Try.prog 12 #[.slice (some ⟨b, off, none⟩) len cap] w fun e w' => e = .returned (.tuple #[.agg zeroFC, .int .i64 (rsOf (dgOf l)).why]) ∧ Below w.heap.size w w' := by
  have h17 : ¬ (dgOf l).proto = 17 := by omega
  have h6 : ¬ (dgOf l).proto = 6 := by omega
  have hr : rsOf (dgOf l) = rsW (dgOf l) := by unfold rsOf; rw [if_neg h17, if_neg h6, if_pos h1]
  have hl := body_len l g
  refine (read_1 b off len cap l w hA g hp (by unfold wayF; rw [if_neg h17, if_neg h6, if_pos h1]) (fun _ _ _ _ => zeroFC) (rsOf (dgOf l)).why (fun _ _ _ _ => rfl) (fun _ _ _ _ => oneZ) ?_).mono ?_
  · intro a1 k1 a2 k2 W hO hB
    obtain ⟨-, b', off', ha, hA'⟩ := hB.at_ne
    rw [hr] at h ⊢
    by_cases hu : parseW (dgOf l).body = 0
    · have g' := wgood_of _ hu
      have e : rsW (dgOf l) = rsK (dgOf l).body := if_pos hu
      rw [e] at h ⊢
      rcases ha with rfl | ha
      · by_cases k0 : kindW (b1 (dgOf l).body 0) (b1 (dgOf l).body 1) = 0
        · rw [show rsK (dgOf l).body = noRs 4 from if_pos k0]
          exact message_none (dgOf l) a1 _ k1 b' off' _ k2 W hA' hl g' k0
        by_cases k5 : kindW (b1 (dgOf l).body 0) (b1 (dgOf l).body 1) = 5
        · have e5 : rsK (dgOf l).body = rsF ((dgOf l).body.drop 8) := by unfold rsK; rw [if_neg k0, if_pos k5]
          rw [e5] at h ⊢
          rcases hq : quoteO ((dgOf l).body.drop 8) with _ | x
          · rw [show rsF ((dgOf l).body.drop 8) = noRs 1 by unfold rsF; rw [hq]]
            refine message_fault (dgOf l) a1 _ k1 b' off' _ k2 W hA' hl g' k5 zeroFC 1 rfl oneZ ?_
            intro a3 k3 W' hD
            obtain ⟨-, b3, off3, ha3, hA3⟩ := hD.at_ne
            exact fault_no (dgOf l) a1 _ _ k1 _ k2 a3 b3 off3 _ k3 _ W' ha3 hA3 hq
          · exact absurd (by unfold rsF; rw [hq]) h
        · exact absurd (by unfold rsK; rw [if_neg k0, if_neg k5]) h
      · have := g'.a; rw [ha] at this; simp at this
    · rw [show rsW (dgOf l) = noRs (whyI (parseW (dgOf l).body)) from if_neg hu]
      exact message_no (dgOf l) a1 a2 _ k1 b' off' _ k2 W ha hA' hl hu
  · rintro e w' ⟨_, _, _, _, rfl, -, -, hb⟩
    exact ⟨rfl, hb⟩

theorem read_icmp_ok (b off len cap : Nat) (l : List Int) (w : World) (hA : At w b off len cap l) (g : Good l) (hp : partB (dgOf l) = false) (h1 : (dgOf l).proto = 1) (h : (rsOf (dgOf l)).why = 0) :
    Calls Try.prog 12 #[.slice (some ⟨b, off, none⟩) len cap] w fun e w' =>
      ∃ a1 k1 a2 k2, e = .returned (.tuple #[.agg (frC (dgOf l) (.slice a1 (dgOf l).opts.length k1) (.slice a2 (dgOf l).body.length k2) (rsOf (dgOf l))), .int .i64 0]) ∧ Bts w' (.slice a1 (dgOf l).opts.length k1) (dgOf l).opts ∧ Bts w' (.slice a2 (dgOf l).body.length k2) (dgOf l).body ∧ Below w.heap.size w w' := by
  have h17 : ¬ (dgOf l).proto = 17 := by omega
  have h6 : ¬ (dgOf l).proto = 6 := by omega
  have hr : rsOf (dgOf l) = rsW (dgOf l) := by unfold rsOf; rw [if_neg h17, if_neg h6, if_pos h1]
  have hl := body_len l g
  refine read_1 b off len cap l w hA g hp (by unfold wayF; rw [if_neg h17, if_neg h6, if_pos h1]) (fun a1 k1 a2 k2 => frC (dgOf l) (.slice a1 (dgOf l).opts.length k1) (.slice a2 (dgOf l).body.length k2) (rsOf (dgOf l))) 0 (fun _ _ _ _ => rfl) (fun _ _ _ _ => oneFr _ _ _ _ _ _ _ _) ?_
  intro a1 k1 a2 k2 W hO hB
  obtain ⟨-, b', off', ha, hA'⟩ := hB.at_ne
  rw [hr] at h ⊢
  by_cases hu : parseW (dgOf l).body = 0
  · have g' := wgood_of _ hu
    have e : rsW (dgOf l) = rsK (dgOf l).body := if_pos hu
    rw [e] at h ⊢
    rcases ha with rfl | ha
    · by_cases k0 : kindW (b1 (dgOf l).body 0) (b1 (dgOf l).body 1) = 0
      · rw [show rsK (dgOf l).body = noRs 4 from if_pos k0] at h
        exact absurd h (by decide)
      by_cases k5 : kindW (b1 (dgOf l).body 0) (b1 (dgOf l).body 1) = 5
      · have e5 : rsK (dgOf l).body = rsF ((dgOf l).body.drop 8) := by unfold rsK; rw [if_neg k0, if_pos k5]
        rw [e5] at h ⊢
        rcases hq : quoteO ((dgOf l).body.drop 8) with _ | x
        · rw [show rsF ((dgOf l).body.drop 8) = noRs 1 by unfold rsF; rw [hq]] at h
          exact absurd h (by decide)
        · rw [show rsF ((dgOf l).body.drop 8) = ⟨0, 5, 0, 0, 0, x⟩ by unfold rsF; rw [hq]]
          refine message_fault (dgOf l) a1 _ k1 b' off' _ k2 W hA' hl g' k5 _ 0 rfl (oneFr _ _ _ _ _ _ _ _) ?_
          intro a3 k3 W' hD
          obtain ⟨hn3, b3, off3, ha3, hA3⟩ := hD.at_ne
          rcases ha3 with rfl | ha3
          · exact fault_ok (dgOf l) a1 _ _ k1 _ k2 b3 off3 _ k3 _ x W' hA3 hq
          · have hn : ¬ Head ((dgOf l).body.drop 8) := fun q => by have := q.a; rw [show (dgOf l).body.drop 8 = [] from ha3] at this; simp at this
            unfold quoteO at hq
            rw [if_neg (fun q => hn q.1)] at hq
            cases hq
      · rw [show rsK (dgOf l).body = ⟨0, kindW (b1 (dgOf l).body 0) (b1 (dgOf l).body 1), w2 (dgOf l).body 4, w2 (dgOf l).body 4, 0, Inn.zero⟩ by unfold rsK; rw [if_neg k0, if_neg k5]]
        exact message_echo (dgOf l) a1 _ k1 b' off' _ k2 W hA' hl g' k0 k5
    · have := g'.a; rw [ha] at this; simp at this
  · rw [show rsW (dgOf l) = noRs (whyI (parseW (dgOf l).body)) from if_neg hu] at h
    exact absurd h (whyI_pos _)

theorem read_no (a : Option Addr) (b off len cap : Nat) (l : List Int) (w : World) (ha : a = some ⟨b, off, none⟩ ∨ l = []) (hA : At w b off len cap l) (h : ¬ (readR l).why = 0) :
    Calls Try.prog 12 #[.slice a len cap] w fun e w' => e = .returned (.tuple #[.agg zeroFC, .int .i64 (readR l).why]) ∧ Below w.heap.size w w' := by
  by_cases hE : parseE l = 0
  · have g := good_of l hE
    have hl := g.b
    rcases ha with rfl | rfl
    case inr => simp at hl
    by_cases hp : partB (dgOf l) = true
    · rw [show readR l = noRs 3 by unfold readR; rw [if_pos hE, if_pos hp]]
      exact read_part b off len cap l w hA g hp
    · have hr : readR l = rsOf (dgOf l) := by unfold readR; rw [if_pos hE, if_neg hp]
      have hp' : partB (dgOf l) = false := by simpa using hp
      rw [hr] at h ⊢
      by_cases h17 : (dgOf l).proto = 17
      · by_cases hu : parseU (dgOf l).src (dgOf l).dst (dgOf l).body = 0
        · exact absurd (by unfold rsOf rsU; rw [if_pos h17, if_pos hu]) h
        · exact read_udp_no b off len cap l w hA g hp' h17 hu
      by_cases h6 : (dgOf l).proto = 6
      · by_cases hu : parseT (dgOf l).src (dgOf l).dst (dgOf l).body = 0
        · exact absurd (by unfold rsOf rsT; rw [if_neg h17, if_pos h6, if_pos hu]) h
        · exact read_tcp_no b off len cap l w hA g hp' h6 hu
      by_cases h1 : (dgOf l).proto = 1
      · exact read_icmp_no b off len cap l w hA g hp' h1 h
      · rw [show rsOf (dgOf l) = noRs 4 by unfold rsOf; rw [if_neg h17, if_neg h6, if_neg h1]]
        exact read_oth b off len cap l w hA g hp' h17 h6 h1
  · rw [show readR l = noRs (whyI (parseE l)) from if_neg hE]
    exact read_err a b off len cap l w ha hA hE

theorem read_ok (b off len cap : Nat) (l : List Int) (w : World) (hA : At w b off len cap l) (h : (readR l).why = 0) :
    Calls Try.prog 12 #[.slice (some ⟨b, off, none⟩) len cap] w fun e w' =>
      ∃ a1 k1 a2 k2, e = .returned (.tuple #[.agg (frC (dgOf l) (.slice a1 (dgOf l).opts.length k1) (.slice a2 (dgOf l).body.length k2) (readR l)), .int .i64 0]) ∧ Bts w' (.slice a1 (dgOf l).opts.length k1) (dgOf l).opts ∧ Bts w' (.slice a2 (dgOf l).body.length k2) (dgOf l).body ∧ Below w.heap.size w w' := by
  obtain ⟨hE, hp, hr⟩ := readR_ok l h
  have g := good_of l hE
  rw [hr] at h ⊢
  by_cases h17 : (dgOf l).proto = 17
  · by_cases hu : parseU (dgOf l).src (dgOf l).dst (dgOf l).body = 0
    · exact read_udp_ok b off len cap l w hA g hp h17 hu
    · exact absurd h (by unfold rsOf rsU; rw [if_pos h17, if_neg hu]; exact whyI_pos _)
  by_cases h6 : (dgOf l).proto = 6
  · by_cases hu : parseT (dgOf l).src (dgOf l).dst (dgOf l).body = 0
    · exact read_tcp_ok b off len cap l w hA g hp h6 hu
    · exact absurd h (by unfold rsOf rsT; rw [if_neg h17, if_pos h6, if_neg hu]; exact whyI_pos _)
  by_cases h1 : (dgOf l).proto = 1
  · exact read_icmp_ok b off len cap l w hA g hp h1 h
  · exact absurd h (by unfold rsOf; rw [if_neg h17, if_neg h6, if_neg h1]; decide)
end Go.Proofs.Ytdejjokgchbgnaa

namespace Go.Proofs.Ytdejjokgchbgnaa
open Go.RowKit

set_option maxHeartbeats 4000000 in
theorem rsame_one (p : Dg) (r : Rs) (a1 a2 a3 a4 : Option Addr) (n1 n2 n3 n4 k1 k2 k3 k4 : Nat) (w : World) (h1 : Bts w (.slice a1 n1 k1) p.opts) (h2 : Bts w (.slice a2 n2 k2) p.body) (h3 : Bts w (.slice a3 n3 k3) p.opts) (h4 : Bts w (.slice a4 n4 k4) p.body) :
    Calls Try.prog 14 #[frV p (.slice a1 n1 k1) (.slice a2 n2 k2) r, frV p (.slice a3 n3 k3) (.slice a4 n4 k4) r] w fun e w' => e = .returned (.bool true) ∧ Below w.heap.size w w' := by
  have hb1 := below_alloc w (.cells (frC p (.slice a1 n1 k1) (.slice a2 n2 k2) r) 37)
  have hb2 := below_alloc (w.alloc (.cells (frC p (.slice a1 n1 k1) (.slice a2 n2 k2) r) 37)) (.cells (frC p (.slice a3 n3 k3) (.slice a4 n4 k4) r) 37)
  have hb := below_trans hb1 hb2
  have hs := ipsame_one p _ _ _ _ _ (h1.later hb) (h2.later hb) (h3.later hb) (h4.later hb)
  clear h1 h2 h3 h4
  go_enter Try.func14, Try.ntmps14
  go_wp2_with fail
  refine hs.mono ?_
  rintro e w3 ⟨rfl, hb3⟩
  have A := fc_new (n := w.heap.size) rfl (below_trans hb2 hb3)
  have B := fc_new (n := w.heap.size + 1) (by simp) hb3
  have x0 : w3.cell? ⟨w.heap.size, 0, none⟩ = some (.int .i64 p.tos) := A.c 0 _ rfl
  have x1 : w3.cell? ⟨w.heap.size, 1, none⟩ = some (.int .i64 p.id) := A.c 1 _ rfl
  have x2 : w3.cell? ⟨w.heap.size, 2, none⟩ = some (.bool p.df) := A.c 2 _ rfl
  have x3 : w3.cell? ⟨w.heap.size, 3, none⟩ = some (.bool p.mf) := A.c 3 _ rfl
  have x4 : w3.cell? ⟨w.heap.size, 4, none⟩ = some (.int .i64 p.off) := A.c 4 _ rfl
  have x5 : w3.cell? ⟨w.heap.size, 5, none⟩ = some (.int .i64 p.ttl) := A.c 5 _ rfl
  have x6 : w3.cell? ⟨w.heap.size, 6, none⟩ = some (.int .i64 p.proto) := A.c 6 _ rfl
  have x7 : w3.cell? ⟨w.heap.size, 7, none⟩ = some (.int .u32 p.src) := A.c 7 _ rfl
  have x8 : w3.cell? ⟨w.heap.size, 8, none⟩ = some (.int .u32 p.dst) := A.c 8 _ rfl
  have x9 : w3.cell? ⟨w.heap.size, 9, none⟩ = some (.slice a1 n1 k1) := A.c 9 _ rfl
  have x10 : w3.cell? ⟨w.heap.size, 10, none⟩ = some (.slice a2 n2 k2) := A.c 10 _ rfl
  have x11 : w3.cell? ⟨w.heap.size, 11, none⟩ = some (.int .i64 r.kind) := A.c 11 _ rfl
  have x12 : w3.cell? ⟨w.heap.size, 12, none⟩ = some (.int .u32 p.src) := A.c 12 _ rfl
  have x13 : w3.cell? ⟨w.heap.size, 13, none⟩ = some (.int .i64 r.fp) := A.c 13 _ rfl
  have x14 : w3.cell? ⟨w.heap.size, 14, none⟩ = some (.int .u32 p.dst) := A.c 14 _ rfl
  have x15 : w3.cell? ⟨w.heap.size, 15, none⟩ = some (.int .i64 r.tp) := A.c 15 _ rfl
  have x16 : w3.cell? ⟨w.heap.size, 16, none⟩ = some (.int .i64 r.flags) := A.c 16 _ rfl
  have x17 : w3.cell? ⟨w.heap.size, 17, none⟩ = some (.int .i64 r.inner.proto) := A.c 17 _ rfl
  have x18 : w3.cell? ⟨w.heap.size, 18, none⟩ = some (.int .u32 r.inner.sa) := A.c 18 _ rfl
  have x19 : w3.cell? ⟨w.heap.size, 19, none⟩ = some (.int .i64 r.inner.sp) := A.c 19 _ rfl
  have x20 : w3.cell? ⟨w.heap.size, 20, none⟩ = some (.int .u32 r.inner.da) := A.c 20 _ rfl
  have x21 : w3.cell? ⟨w.heap.size, 21, none⟩ = some (.int .i64 r.inner.dp) := A.c 21 _ rfl
  have y0 : w3.cell? ⟨w.heap.size + 1, 0, none⟩ = some (.int .i64 p.tos) := B.c 0 _ rfl
  have y1 : w3.cell? ⟨w.heap.size + 1, 1, none⟩ = some (.int .i64 p.id) := B.c 1 _ rfl
  have y2 : w3.cell? ⟨w.heap.size + 1, 2, none⟩ = some (.bool p.df) := B.c 2 _ rfl
  have y3 : w3.cell? ⟨w.heap.size + 1, 3, none⟩ = some (.bool p.mf) := B.c 3 _ rfl
  have y4 : w3.cell? ⟨w.heap.size + 1, 4, none⟩ = some (.int .i64 p.off) := B.c 4 _ rfl
  have y5 : w3.cell? ⟨w.heap.size + 1, 5, none⟩ = some (.int .i64 p.ttl) := B.c 5 _ rfl
  have y6 : w3.cell? ⟨w.heap.size + 1, 6, none⟩ = some (.int .i64 p.proto) := B.c 6 _ rfl
  have y7 : w3.cell? ⟨w.heap.size + 1, 7, none⟩ = some (.int .u32 p.src) := B.c 7 _ rfl
  have y8 : w3.cell? ⟨w.heap.size + 1, 8, none⟩ = some (.int .u32 p.dst) := B.c 8 _ rfl
  have y9 : w3.cell? ⟨w.heap.size + 1, 9, none⟩ = some (.slice a3 n3 k3) := B.c 9 _ rfl
  have y10 : w3.cell? ⟨w.heap.size + 1, 10, none⟩ = some (.slice a4 n4 k4) := B.c 10 _ rfl
  have y11 : w3.cell? ⟨w.heap.size + 1, 11, none⟩ = some (.int .i64 r.kind) := B.c 11 _ rfl
  have y12 : w3.cell? ⟨w.heap.size + 1, 12, none⟩ = some (.int .u32 p.src) := B.c 12 _ rfl
  have y13 : w3.cell? ⟨w.heap.size + 1, 13, none⟩ = some (.int .i64 r.fp) := B.c 13 _ rfl
  have y14 : w3.cell? ⟨w.heap.size + 1, 14, none⟩ = some (.int .u32 p.dst) := B.c 14 _ rfl
  have y15 : w3.cell? ⟨w.heap.size + 1, 15, none⟩ = some (.int .i64 r.tp) := B.c 15 _ rfl
  have y16 : w3.cell? ⟨w.heap.size + 1, 16, none⟩ = some (.int .i64 r.flags) := B.c 16 _ rfl
  have y17 : w3.cell? ⟨w.heap.size + 1, 17, none⟩ = some (.int .i64 r.inner.proto) := B.c 17 _ rfl
  have y18 : w3.cell? ⟨w.heap.size + 1, 18, none⟩ = some (.int .u32 r.inner.sa) := B.c 18 _ rfl
  have y19 : w3.cell? ⟨w.heap.size + 1, 19, none⟩ = some (.int .i64 r.inner.sp) := B.c 19 _ rfl
  have y20 : w3.cell? ⟨w.heap.size + 1, 20, none⟩ = some (.int .u32 r.inner.da) := B.c 20 _ rfl
  have y21 : w3.cell? ⟨w.heap.size + 1, 21, none⟩ = some (.int .i64 r.inner.dp) := B.c 21 _ rfl
  have bel := below_trans hb hb3
  clear A B hb hb1 hb2 hb3 hs
  go_wp2
  go_ret
  exact ⟨rfl, bel⟩
end Go.Proofs.Ytdejjokgchbgnaa

namespace Go.Proofs.Ytdejjokgchbgnaa
open Go.RowKit

end Go.Proofs.Ytdejjokgchbgnaa

namespace Go.Proofs.Ytdejjokgchbgnaa
open Go.RowKit
attribute [local go_sem ↓] Go.wp_at_zero Go.wp_at_succ

/-- Behind draws a store is a store. -/
theorem set_drewN (W : World) (j : Nat) (x : Addr) (v : Value) : (W.drewN j).setCell x v = (W.setCell x v).drewN j := rfl
theorem alloc_drewN (W : World) (j : Nat) (ob : Obj) : (W.drewN j).alloc ob = (W.alloc ob).drewN j := rfl

set_option maxHeartbeats 1000000 in
theorem rparse_long (a : Option Addr) (len cap : Nat) (w : World) (h : 2048 < len) :
    Calls Try.prog 10 #[.slice a len cap] w fun e w' => e = .returned (.tuple #[ipV Dg.zero (.slice none 0 0) (.slice none 0 0), .int .i64 3]) ∧ Below w.heap.size w w' := by
  have h' : (2048 : Int) < len := by omega
  go_enter Try.func10, Try.ntmps10
  go_wp2
  refine bodyPost_ret (v := .tuple #[ipV Dg.zero (.slice none 0 0) (.slice none 0 0), .int .i64 3]) ?_ rfl ?_
  · simp [results, Try.results10, go_sem, Dg.zero]
  exact ⟨rfl, below_alloc _ _⟩

set_option maxHeartbeats 1000000 in
theorem rparse_short (a : Option Addr) (len cap : Nat) (w : World) (h : len < 20) :
    Calls Try.prog 10 #[.slice a len cap] w fun e w' => e = .returned (.tuple #[ipV Dg.zero (.slice none 0 0) (.slice none 0 0), .int .i64 2]) ∧ Below w.heap.size w w' := by
  have h0 : ¬ (2048 : Int) < len := by omega
  have h' : (len : Int) < 20 := by omega
  go_enter Try.func10, Try.ntmps10
  go_wp2
  refine bodyPost_ret (v := .tuple #[ipV Dg.zero (.slice none 0 0) (.slice none 0 0), .int .i64 2]) ?_ rfl ?_
  · simp [results, Try.results10, go_sem, Dg.zero]
  exact ⟨rfl, below_alloc _ _⟩

set_option maxHeartbeats 1000000 in
theorem rparse_ver (b off len cap : Nat) (l : List Int) (w : World) (hA : At w b off len cap l) (g1 : len ≤ 2048) (g2 : 20 ≤ len) (h : b1 l 0 / 16 ≠ 4) :
    Calls Try.prog 10 #[.slice (some ⟨b, off, none⟩) len cap] w fun e w' => e = .returned (.tuple #[ipV Dg.zero (.slice none 0 0) (.slice none 0 0), .int .i64 4]) ∧ Below w.heap.size w w' := by
  have sd := set_drewN
  have x0 := b1_bd l hA.bytes 0
  have x2 := w2_bd l hA.bytes 2
  have x6 := w2_bd l hA.bytes 6
  have HL := hA.len
  have c0 : w.cell? ⟨b, off, none⟩ = some (.int .u8 (b1 l 0)) := by have := hA.sees 0 (by omega); rwa [Nat.add_zero] at this
  have hA0 := hA.later (below_alloc w (.cells zeroC 29))
  have c0 := cell_later (below_alloc w (.cells zeroC 29)) c0
  have hm4 := mask4b (b1 l 0) x0.1 x0.2
  have hc := hA.cap1
  have i0 : (0 : Int) < (len : Int) := by omega
  unfold hdOf at *
  have k1 : ¬ (2048 : Int) < len := by omega
  have k2 : ¬ (len : Int) < 20 := by omega
  have hv : (b1 l 0 / 16 != 4) = true := by rw [bne_iff_ne]; exact h
  clear h
  clear HL
  go_enter Try.func10, Try.ntmps10
  go_wp2
  refine bodyPost_ret (v := .tuple #[ipV Dg.zero (.slice none 0 0) (.slice none 0 0), .int .i64 4]) ?_ rfl ?_
  · simp [results, Try.results10, go_sem, Dg.zero]
  exact ⟨rfl, below_alloc _ _⟩

set_option maxHeartbeats 1000000 in
theorem rparse_few (b off len cap : Nat) (l : List Int) (w : World) (hA : At w b off len cap l) (g1 : len ≤ 2048) (g2 : 20 ≤ len) (g3 : b1 l 0 / 16 = 4) (h : hdOf l < 20) :
    Calls Try.prog 10 #[.slice (some ⟨b, off, none⟩) len cap] w fun e w' => e = .returned (.tuple #[ipV Dg.zero (.slice none 0 0) (.slice none 0 0), .int .i64 4]) ∧ Below w.heap.size w w' := by
  have sd := set_drewN
  have x0 := b1_bd l hA.bytes 0
  have x2 := w2_bd l hA.bytes 2
  have x6 := w2_bd l hA.bytes 6
  have HL := hA.len
  have c0 : w.cell? ⟨b, off, none⟩ = some (.int .u8 (b1 l 0)) := by have := hA.sees 0 (by omega); rwa [Nat.add_zero] at this
  have hA0 := hA.later (below_alloc w (.cells zeroC 29))
  have c0 := cell_later (below_alloc w (.cells zeroC 29)) c0
  have hm4 := mask4b (b1 l 0) x0.1 x0.2
  have hc := hA.cap1
  have i0 : (0 : Int) < (len : Int) := by omega
  unfold hdOf at *
  have k1 : ¬ (2048 : Int) < len := by omega
  have k2 : ¬ (len : Int) < 20 := by omega
  have k3 : (b1 l 0 / 16 != 4) = false := by simp [g3]
  clear HL
  go_enter Try.func10, Try.ntmps10
  go_wp2
  refine bodyPost_ret (v := .tuple #[ipV Dg.zero (.slice none 0 0) (.slice none 0 0), .int .i64 4]) ?_ rfl ?_
  · simp [results, Try.results10, go_sem, Dg.zero]
  exact ⟨rfl, below_alloc _ _⟩

set_option maxHeartbeats 1000000 in
theorem rparse_head (b off len cap : Nat) (l : List Int) (w : World) (hA : At w b off len cap l) (g1 : len ≤ 2048) (g2 : 20 ≤ len) (g3 : b1 l 0 / 16 = 4) (g4 : 20 ≤ hdOf l) (h : (len : Int) < hdOf l) :
    Calls Try.prog 10 #[.slice (some ⟨b, off, none⟩) len cap] w fun e w' => e = .returned (.tuple #[ipV Dg.zero (.slice none 0 0) (.slice none 0 0), .int .i64 2]) ∧ Below w.heap.size w w' := by
  have sd := set_drewN
  have x0 := b1_bd l hA.bytes 0
  have x2 := w2_bd l hA.bytes 2
  have x6 := w2_bd l hA.bytes 6
  have HL := hA.len
  have c0 : w.cell? ⟨b, off, none⟩ = some (.int .u8 (b1 l 0)) := by have := hA.sees 0 (by omega); rwa [Nat.add_zero] at this
  have hA0 := hA.later (below_alloc w (.cells zeroC 29))
  have c0 := cell_later (below_alloc w (.cells zeroC 29)) c0
  have hm4 := mask4b (b1 l 0) x0.1 x0.2
  have hc := hA.cap1
  have i0 : (0 : Int) < (len : Int) := by omega
  unfold hdOf at *
  have k1 : ¬ (2048 : Int) < len := by omega
  have k2 : ¬ (len : Int) < 20 := by omega
  have k3 : (b1 l 0 / 16 != 4) = false := by simp [g3]
  have k4 : ¬ b1 l 0 % 16 * 4 < 20 := by omega
  clear HL
  go_enter Try.func10, Try.ntmps10
  go_wp2
  refine bodyPost_ret (v := .tuple #[ipV Dg.zero (.slice none 0 0) (.slice none 0 0), .int .i64 2]) ?_ rfl ?_
  · simp [results, Try.results10, go_sem, Dg.zero]
  exact ⟨rfl, below_alloc _ _⟩

set_option maxHeartbeats 1000000 in
theorem rparse_less (b off len cap : Nat) (l : List Int) (w : World) (hA : At w b off len cap l) (g1 : len ≤ 2048) (g2 : 20 ≤ len) (g3 : b1 l 0 / 16 = 4) (g4 : 20 ≤ hdOf l) (g5 : hdOf l ≤ len) (h : w2 l 2 < hdOf l) :
    Calls Try.prog 10 #[.slice (some ⟨b, off, none⟩) len cap] w fun e w' => e = .returned (.tuple #[ipV Dg.zero (.slice none 0 0) (.slice none 0 0), .int .i64 4]) ∧ Below w.heap.size w w' := by
  have sd := set_drewN
  have x0 := b1_bd l hA.bytes 0
  have x2 := w2_bd l hA.bytes 2
  have x6 := w2_bd l hA.bytes 6
  have HL := hA.len
  have c0 : w.cell? ⟨b, off, none⟩ = some (.int .u8 (b1 l 0)) := by have := hA.sees 0 (by omega); rwa [Nat.add_zero] at this
  have hA0 := hA.later (below_alloc w (.cells zeroC 29))
  have c0 := cell_later (below_alloc w (.cells zeroC 29)) c0
  have hm4 := mask4b (b1 l 0) x0.1 x0.2
  have hc := hA.cap1
  have i0 : (0 : Int) < (len : Int) := by omega
  unfold hdOf at *
  have k1 : ¬ (2048 : Int) < len := by omega
  have k2 : ¬ (len : Int) < 20 := by omega
  have k3 : (b1 l 0 / 16 != 4) = false := by simp [g3]
  have k4 : ¬ b1 l 0 % 16 * 4 < 20 := by omega
  have k5 : ¬ (len : Int) < b1 l 0 % 16 * 4 := by omega
  clear HL
  go_enter Try.func10, Try.ntmps10
  go_wp2_with fail
  refine (word_any b off len cap l 2 2 _ (by exact hA0) rfl (by omega) (by omega)).mono ?_
  rintro e w' ⟨rfl, nq2, rfl⟩
  go_wp2_with fail
  refine (word_any b off len cap l 6 6 _ (by exact hA0.later (below_drewN (Below.refl _ _) _)) rfl (by omega) (by omega)).mono ?_
  rintro e w' ⟨rfl, nq6, rfl⟩
  go_wp2
  refine bodyPost_ret (v := .tuple #[ipV Dg.zero (.slice none 0 0) (.slice none 0 0), .int .i64 4]) ?_ rfl ?_
  · simp [results, Try.results10, go_sem, Dg.zero]
  exact ⟨rfl, below_drewN (below_alloc _ _) _⟩

set_option maxHeartbeats 1000000 in
theorem rparse_flag (b off len cap : Nat) (l : List Int) (w : World) (hA : At w b off len cap l) (g1 : len ≤ 2048) (g2 : 20 ≤ len) (g3 : b1 l 0 / 16 = 4) (g4 : 20 ≤ hdOf l) (g5 : hdOf l ≤ len) (g6 : hdOf l ≤ w2 l 2) (h : 32768 ≤ w2 l 6) :
    Calls Try.prog 10 #[.slice (some ⟨b, off, none⟩) len cap] w fun e w' => e = .returned (.tuple #[ipV Dg.zero (.slice none 0 0) (.slice none 0 0), .int .i64 4]) ∧ Below w.heap.size w w' := by
  have sd := set_drewN
  have x0 := b1_bd l hA.bytes 0
  have x2 := w2_bd l hA.bytes 2
  have x6 := w2_bd l hA.bytes 6
  have HL := hA.len
  have c0 : w.cell? ⟨b, off, none⟩ = some (.int .u8 (b1 l 0)) := by have := hA.sees 0 (by omega); rwa [Nat.add_zero] at this
  have hA0 := hA.later (below_alloc w (.cells zeroC 29))
  have c0 := cell_later (below_alloc w (.cells zeroC 29)) c0
  have hm4 := mask4b (b1 l 0) x0.1 x0.2
  have hc := hA.cap1
  have i0 : (0 : Int) < (len : Int) := by omega
  unfold hdOf at *
  have k1 : ¬ (2048 : Int) < len := by omega
  have k2 : ¬ (len : Int) < 20 := by omega
  have k3 : (b1 l 0 / 16 != 4) = false := by simp [g3]
  have k4 : ¬ b1 l 0 % 16 * 4 < 20 := by omega
  have k5 : ¬ (len : Int) < b1 l 0 % 16 * 4 := by omega
  have k6 : ¬ w2 l 2 < b1 l 0 % 16 * 4 := by omega
  have hb15 : (bits .and .i64 (w2 l 6) 32768 != 0) = true := by rw [bit15 _ x6.1 x6.2]; simp; omega
  clear HL
  go_enter Try.func10, Try.ntmps10
  go_wp2_with fail
  refine (word_any b off len cap l 2 2 _ (by exact hA0) rfl (by omega) (by omega)).mono ?_
  rintro e w' ⟨rfl, nq2, rfl⟩
  go_wp2_with fail
  refine (word_any b off len cap l 6 6 _ (by exact hA0.later (below_drewN (Below.refl _ _) _)) rfl (by omega) (by omega)).mono ?_
  rintro e w' ⟨rfl, nq6, rfl⟩
  go_wp2
  refine bodyPost_ret (v := .tuple #[ipV Dg.zero (.slice none 0 0) (.slice none 0 0), .int .i64 4]) ?_ rfl ?_
  · simp [results, Try.results10, go_sem, Dg.zero]
  exact ⟨rfl, below_drewN (below_alloc _ _) _⟩

set_option maxHeartbeats 1000000 in
theorem rparse_total (b off len cap : Nat) (l : List Int) (w : World) (hA : At w b off len cap l) (g1 : len ≤ 2048) (g2 : 20 ≤ len) (g3 : b1 l 0 / 16 = 4) (g4 : 20 ≤ hdOf l) (g5 : hdOf l ≤ len) (g6 : hdOf l ≤ w2 l 2) (g7 : w2 l 6 < 32768) (h : (len : Int) < w2 l 2) :
    Calls Try.prog 10 #[.slice (some ⟨b, off, none⟩) len cap] w fun e w' => e = .returned (.tuple #[ipV Dg.zero (.slice none 0 0) (.slice none 0 0), .int .i64 2]) ∧ Below w.heap.size w w' := by
  have sd := set_drewN
  have x0 := b1_bd l hA.bytes 0
  have x2 := w2_bd l hA.bytes 2
  have x6 := w2_bd l hA.bytes 6
  have HL := hA.len
  have c0 : w.cell? ⟨b, off, none⟩ = some (.int .u8 (b1 l 0)) := by have := hA.sees 0 (by omega); rwa [Nat.add_zero] at this
  have hA0 := hA.later (below_alloc w (.cells zeroC 29))
  have c0 := cell_later (below_alloc w (.cells zeroC 29)) c0
  have hm4 := mask4b (b1 l 0) x0.1 x0.2
  have hc := hA.cap1
  have i0 : (0 : Int) < (len : Int) := by omega
  unfold hdOf at *
  have k1 : ¬ (2048 : Int) < len := by omega
  have k2 : ¬ (len : Int) < 20 := by omega
  have k3 : (b1 l 0 / 16 != 4) = false := by simp [g3]
  have k4 : ¬ b1 l 0 % 16 * 4 < 20 := by omega
  have k5 : ¬ (len : Int) < b1 l 0 % 16 * 4 := by omega
  have k6 : ¬ w2 l 2 < b1 l 0 % 16 * 4 := by omega
  have hb15 : (bits .and .i64 (w2 l 6) 32768 != 0) = false := by rw [bit15 _ x6.1 x6.2]; simp; omega
  clear HL
  go_enter Try.func10, Try.ntmps10
  go_wp2_with fail
  refine (word_any b off len cap l 2 2 _ (by exact hA0) rfl (by omega) (by omega)).mono ?_
  rintro e w' ⟨rfl, nq2, rfl⟩
  go_wp2_with fail
  refine (word_any b off len cap l 6 6 _ (by exact hA0.later (below_drewN (Below.refl _ _) _)) rfl (by omega) (by omega)).mono ?_
  rintro e w' ⟨rfl, nq6, rfl⟩
  go_wp2
  refine bodyPost_ret (v := .tuple #[ipV Dg.zero (.slice none 0 0) (.slice none 0 0), .int .i64 2]) ?_ rfl ?_
  · simp [results, Try.results10, go_sem, Dg.zero]
  exact ⟨rfl, below_drewN (below_alloc _ _) _⟩

theorem head_part {w : World} {b off len cap n : Nat} {q : Int} {l : List Int} (hA : At w b off len cap l) (hq : q.toNat = n) (hn : n ≤ len) : Bts w (.slice (some ⟨b, off, none⟩) q.toNat cap) (l.take n) := by
  subst hq
  have hlen : (l.take q.toNat).length = q.toNat := by rw [List.length_take, hA.len]; omega
  have c1 := hA.cap1
  refine ⟨_, cap, b, off, by rw [hlen], by omega, hA.cap2, isBytes_take hA.bytes _, .inl rfl, ?_⟩
  intro i hi
  rw [hlen] at hi
  have : (l.take q.toNat).getD i 0 = l.getD i 0 := by simp [List.getD, hi]
  rw [this]
  exact hA.sees i (by rw [hA.len]; omega)

set_option maxHeartbeats 1000000 in
theorem rparse_sum (b off len cap : Nat) (l : List Int) (w : World) (hA : At w b off len cap l) (g1 : len ≤ 2048) (g2 : 20 ≤ len) (g3 : b1 l 0 / 16 = 4) (g4 : 20 ≤ hdOf l) (g5 : hdOf l ≤ len) (g6 : hdOf l ≤ w2 l 2) (g7 : w2 l 6 < 32768) (g8 : w2 l 2 ≤ len) (h : fold16 (ws (l.take (hdOf l).toNat)) ≠ 65535) :
    Calls Try.prog 10 #[.slice (some ⟨b, off, none⟩) len cap] w fun e w' => e = .returned (.tuple #[ipV Dg.zero (.slice none 0 0) (.slice none 0 0), .int .i64 5]) ∧ Below w.heap.size w w' := by
  have sd := set_drewN
  have H : Hid (fold16 (ws (l.take (hdOf l).toNat)) ≠ 65535) := h
  clear h
  have x0 := b1_bd l hA.bytes 0
  have x2 := w2_bd l hA.bytes 2
  have x6 := w2_bd l hA.bytes 6
  have HL := hA.len
  have c0 : w.cell? ⟨b, off, none⟩ = some (.int .u8 (b1 l 0)) := by have := hA.sees 0 (by omega); rwa [Nat.add_zero] at this
  have hA0 := hA.later (below_alloc w (.cells zeroC 29))
  have c0 := cell_later (below_alloc w (.cells zeroC 29)) c0
  have hm4 := mask4b (b1 l 0) x0.1 x0.2
  have hc := hA.cap1
  have i0 : (0 : Int) < (len : Int) := by omega
  unfold hdOf at *
  have k1 : ¬ (2048 : Int) < len := by omega
  have k2 : ¬ (len : Int) < 20 := by omega
  have k3 : (b1 l 0 / 16 != 4) = false := by simp [g3]
  have k4 : ¬ b1 l 0 % 16 * 4 < 20 := by omega
  have k5 : ¬ (len : Int) < b1 l 0 % 16 * 4 := by omega
  have k6 : ¬ w2 l 2 < b1 l 0 % 16 * 4 := by omega
  have hb15 : (bits .and .i64 (w2 l 6) 32768 != 0) = false := by rw [bit15 _ x6.1 x6.2]; simp; omega
  have k7 : ¬ (len : Int) < w2 l 2 := by omega
  clear HL
  go_enter Try.func10, Try.ntmps10
  go_wp2_with fail
  refine (word_any b off len cap l 2 2 _ (by exact hA0) rfl (by omega) (by omega)).mono ?_
  rintro e w' ⟨rfl, nq2, rfl⟩
  go_wp2_with fail
  refine (word_any b off len cap l 6 6 _ (by exact hA0.later (below_drewN (Below.refl _ _) _)) rfl (by omega) (by omega)).mono ?_
  rintro e w' ⟨rfl, nq6, rfl⟩
  go_wp2_with fail
  refine (one_any _ (l.take (b1 l 0 % 16 * 4).toNat) _ (head_part (hA0.later (below_drewN (Below.refl _ _) _)) (by omega) (by omega)) (by rw [List.length_take]; omega)).mono ?_
  rintro e w3 ⟨rfl, hb3⟩
  have hne : (fold16 (ws (l.take (b1 l 0 % 16 * 4).toNat)) != 65535) = true := by rw [bne_iff_ne]; exact H.out
  have hb3' := below_trans (below_drewN (Below.refl _ (w.alloc (.cells zeroC 29))) _) hb3
  obtain ⟨⟨z0, z1, z2, z3, z4, z5, z6, z7, z8, z9, z10⟩, hfz⟩ := zero_cells rfl hb3'
  go_wp2
  refine bodyPost_ret (v := .tuple #[ipV Dg.zero (.slice none 0 0) (.slice none 0 0), .int .i64 5]) ?_ rfl ?_
  · simp [results, Try.results10, go_sem, Dg.zero, z0, z1, z2, z3, z4, z5, z6, z7, z8, z9, z10]
  refine ⟨rfl, ?_⟩
  iterate 11 refine Below.setCell ?_ (by exact Nat.le_refl _) _
  exact below_trans (below_alloc _ _) hb3'

end Go.Proofs.Ytdejjokgchbgnaa
