/- The contract of Parse. -/
import Derived.Test.YtdejjokgchbgnaaFields
set_option maxRecDepth 100000
namespace Go.Proofs.Ytdejjokgchbgnaa
open Go.RowKit

theorem frame_p (a b : Value) : (#[a, b] ++ Array.replicate (Try.f40.ntmps - #[a, b].size) undef : Array Value) = #[a, b, undef, undef, undef, undef, undef, undef, undef] := by rw [Try.ntmps40]; rfl

set_option maxHeartbeats 2000000 in
theorem pcatch_panicking (b b' base : Nat) (x z : Int) (w : World) (c0 : w.cell? ⟨b, 0, none⟩ = some (.int .i64 0)) (c1 : w.cell? ⟨b, 1, none⟩ = some (.int .i64 0)) (c2 : w.cell? ⟨b, 2, none⟩ = some (.bool false)) (c3 : w.cell? ⟨b, 3, none⟩ = some (.bool false)) (c4 : w.cell? ⟨b, 4, none⟩ = some (.int .i64 0)) (c5 : w.cell? ⟨b, 5, none⟩ = some (.int .i64 0)) (c6 : w.cell? ⟨b, 6, none⟩ = some (.int .i64 0)) (c7 : w.cell? ⟨b, 7, none⟩ = some (.int .u32 0)) (c8 : w.cell? ⟨b, 8, none⟩ = some (.int .u32 0)) (c9 : w.cell? ⟨b, 9, none⟩ = some (.slice none 0 0)) (c10 : w.cell? ⟨b, 10, none⟩ = some (.slice none 0 0)) (hz : ∀ i, w.frozen? ⟨b, i, none⟩ = false) (hc' : w.cell? ⟨b', 0, none⟩ = some (.int .i64 z)) (hz' : w.frozen? ⟨b', 0, none⟩ = false) (hpq : ¬ b = b') (h1 : base ≤ b) (h2 : base ≤ b') :
    CallsD Try.prog 40 #[.pointer (some ⟨b, 0, none⟩), .pointer (some ⟨b', 0, none⟩)] (.panicking (chainOf x)) w fun e u' w' =>
      e = .returned (.tuple #[]) ∧ u' = .panicking [{ v := .iface 58 (.int .i64 x), recovered := true }] ∧ (w'.cell? ⟨b, 0, none⟩ = some (.int .i64 0) ∧ w'.cell? ⟨b, 1, none⟩ = some (.int .i64 0) ∧ w'.cell? ⟨b, 2, none⟩ = some (.bool false) ∧ w'.cell? ⟨b, 3, none⟩ = some (.bool false) ∧ w'.cell? ⟨b, 4, none⟩ = some (.int .i64 0) ∧ w'.cell? ⟨b, 5, none⟩ = some (.int .i64 0) ∧ w'.cell? ⟨b, 6, none⟩ = some (.int .i64 0) ∧ w'.cell? ⟨b, 7, none⟩ = some (.int .u32 0) ∧ w'.cell? ⟨b, 8, none⟩ = some (.int .u32 0) ∧ w'.cell? ⟨b, 9, none⟩ = some (.slice none 0 0) ∧ w'.cell? ⟨b, 10, none⟩ = some (.slice none 0 0)) ∧ w'.cell? ⟨b', 0, none⟩ = some (.int .i64 x) ∧ Below base w w' := by
  have ha := assert_errno
  have hpq' : ¬ b' = b := fun e => hpq e.symm
  refine callsD_of_wpS Try.func40 rfl fun c₀ cs hu => ?_
  rw [frame_p]
  apply wpS_seq
  apply wpS_region
  simp [wpOpsS, go_sem, recoverD, hu, chainOf, Exit.thenS]
  refine wpS_of_wp ?_
  go_wp2
  go_region
  have bel : Below base w ((((((((((((w.setCell ⟨b, 0, none⟩ (.int .i64 0)).setCell ⟨b, 1, none⟩ (.int .i64 0)).setCell ⟨b, 2, none⟩ (.bool false)).setCell ⟨b, 3, none⟩ (.bool false)).setCell ⟨b, 4, none⟩ (.int .i64 0)).setCell ⟨b, 5, none⟩ (.int .i64 0)).setCell ⟨b, 6, none⟩ (.int .i64 0)).setCell ⟨b, 7, none⟩ (.int .u32 0)).setCell ⟨b, 8, none⟩ (.int .u32 0)).setCell ⟨b, 9, none⟩ (.slice none 0 0)).setCell ⟨b, 10, none⟩ (.slice none 0 0)).setCell ⟨b', 0, none⟩ (.int .i64 x)).drew := below_drewN (((((((((((((Below.refl base w).setCell h1 _).setCell h1 _).setCell h1 _).setCell h1 _).setCell h1 _).setCell h1 _).setCell h1 _).setCell h1 _).setCell h1 _).setCell h1 _).setCell h1 _).setCell h2 _) 1
  show bodyPostS _ _ _ _ _ _ _ _ _
  simp [bodyPostS, results, Try.results40, go_sem, c0, c1, c2, c3, c4, c5, c6, c7, c8, c9, c10, hc', bel]

theorem pcatch_idle (p q : Addr) (w : World) :
    CallsD Try.prog 40 #[.pointer (some p), .pointer (some q)] .returning w fun e u' w' => e = .returned (.tuple #[]) ∧ u' = .returning ∧ w' = w := by
  refine callsD_of_wpS Try.func40 rfl fun c₀ cs hu => ?_
  rw [frame_p]
  apply wpS_seq
  apply wpS_region
  simp [wpOpsS, go_sem, recoverD, hu, Exit.thenS]
  refine wpS_of_wp ?_
  go_wp2
  cases c₀
  simp_all [bodyPostS, results, Try.results40]

set_option maxHeartbeats 4000000 in
theorem parse_no (a : Option Addr) (b off len cap : Nat) (l : List Int) (w : World) (ha : a = some ⟨b, off, none⟩ ∨ l = []) (hA : At w b off len cap l) (h : ¬ parseE l = 0) :
    Calls Try.prog 26 #[.slice a len cap] w fun e w' => e = .returned (.tuple #[ipV Dg.zero (.slice none 0 0) (.slice none 0 0), .int .i64 (parseE l)]) ∧ Below w.heap.size w w' := by
  have hmf : ∀ (fn : Fn) (first cap : Array Value) (w : World), (Instr.makeFunc fn first cap).run Try.prog w = .ok (.func fn first cap) w := fun _ _ _ _ => rfl
  go_enter_defers Try.func26, Try.ntmps26
  go_wp2_with fail
  refine (measured_no a b off len cap l _ ha (hA.later (below_trans (below_alloc _ _) (below_alloc _ _))) h).mono ?_
  rintro e w1 ⟨rfl, hb1⟩
  go_wp2_with fail
  obtain ⟨q1, q2, q3, q4⟩ := two_cells hb1
  have hbase : Below w.heap.size w w1 := below_trans (below_trans (below_alloc _ _) (below_alloc _ _)) hb1
  refine leaves_cons (f := 40) (args := #[.pointer (some ⟨w.heap.size, 0, none⟩), .pointer (some ⟨w.heap.size + 1, 0, none⟩)]) (by simp) (by simp [go_sem]) ?_
  refine (pcatch_panicking w.heap.size (w.heap.size + 1) w.heap.size (parseE l) 0 _ (q1 0 _ rfl) (q1 1 _ rfl) (q1 2 _ rfl) (q1 3 _ rfl) (q1 4 _ rfl) (q1 5 _ rfl) (q1 6 _ rfl) (q1 7 _ rfl) (q1 8 _ rfl) (q1 9 _ rfl) (q1 10 _ rfl) q2 (q3 0 _ rfl) (q4 0) (by omega) (by omega) (by omega)).mono ?_
  rintro e u' w2 ⟨rfl, rfl, ⟨d0, d1, d2, d3, d4, d5, d6, d7, d8, d9, d10⟩, d11, hb2⟩
  simp [Leaves, settle, results, Try.results26, go_sem, d0, d1, d2, d3, d4, d5, d6, d7, d8, d9, d10, d11, Dg.zero]
  exact hbase.trans hb2

set_option maxHeartbeats 8000000 in
theorem parse_own (b off len cap : Nat) (l : List Int) (w : World) (hA : At w b off len cap l) (g : Good l) :
    Calls Try.prog 26 #[.slice (some ⟨b, off, none⟩) len cap] w fun e w' =>
      ∃ a1 k1 a2 k2, e = .returned (.tuple #[ipV (dgOf l) (.slice a1 (dgOf l).opts.length k1) (.slice a2 (dgOf l).body.length k2), .int .i64 0]) ∧ Owns w' w.heap.size (.slice a1 (dgOf l).opts.length k1) (dgOf l).opts ∧ Owns w' w.heap.size (.slice a2 (dgOf l).body.length k2) (dgOf l).body ∧ Below w.heap.size w w' := by
  have hmf : ∀ (fn : Fn) (first cap : Array Value) (w : World), (Instr.makeFunc fn first cap).run Try.prog w = .ok (.func fn first cap) w := fun _ _ _ _ => rfl
  go_enter_defers Try.func26, Try.ntmps26
  go_wp2_with fail
  refine (measured_ok b off len cap l _ (hA.later (below_trans (below_alloc _ _) (below_alloc _ _))) g).mono ?_
  rintro e w1 ⟨rfl, hb1⟩
  have hbase : Below w.heap.size w w1 := below_trans (below_trans (below_alloc _ _) (below_alloc _ _)) hb1
  have hsz := hb1.size
  simp only [World.size_alloc] at hsz
  go_wp2_with fail
  refine (fields_any b off len cap l _ (hA.later hbase) g).mono ?_
  rintro e w2 ⟨vo, vb, rfl, hvo, hvb, hb2⟩
  obtain ⟨q1, q2, q3, q4⟩ := two_cells (below_trans hb1 hb2)
  have c0 : w2.cell? ⟨w.heap.size, 0, none⟩ = some (.int .i64 0) := q1 0 _ rfl
  have c1 : w2.cell? ⟨w.heap.size, 1, none⟩ = some (.int .i64 0) := q1 1 _ rfl
  have c2 : w2.cell? ⟨w.heap.size, 2, none⟩ = some (.bool false) := q1 2 _ rfl
  have c3 : w2.cell? ⟨w.heap.size, 3, none⟩ = some (.bool false) := q1 3 _ rfl
  have c4 : w2.cell? ⟨w.heap.size, 4, none⟩ = some (.int .i64 0) := q1 4 _ rfl
  have c5 : w2.cell? ⟨w.heap.size, 5, none⟩ = some (.int .i64 0) := q1 5 _ rfl
  have c6 : w2.cell? ⟨w.heap.size, 6, none⟩ = some (.int .i64 0) := q1 6 _ rfl
  have c7 : w2.cell? ⟨w.heap.size, 7, none⟩ = some (.int .u32 0) := q1 7 _ rfl
  have c8 : w2.cell? ⟨w.heap.size, 8, none⟩ = some (.int .u32 0) := q1 8 _ rfl
  have c9 : w2.cell? ⟨w.heap.size, 9, none⟩ = some (.slice none 0 0) := q1 9 _ rfl
  have c10 : w2.cell? ⟨w.heap.size, 10, none⟩ = some (.slice none 0 0) := q1 10 _ rfl
  have c11 : w2.cell? ⟨w.heap.size + 1, 0, none⟩ = some (.int .i64 0) := q3 0 _ rfl
  have c12 := q4 0
  clear q1 q3 q4
  have hn1 : ¬ (w.heap.size = w.heap.size + 1) := by omega
  have hn2 : ¬ (w.heap.size + 1 = w.heap.size) := by omega
  obtain ⟨a1, k1, hv1e⟩ : ∃ a1 k1, vo = .slice a1 (dgOf l).opts.length k1 := by obtain ⟨a1, k1, _, _, h, _⟩ := hvo.bts (isBytes_part l hA.bytes _ _); exact ⟨a1, k1, h⟩
  obtain ⟨a2, k2, hv2e⟩ : ∃ a2 k2, vb = .slice a2 (dgOf l).body.length k2 := by obtain ⟨a1, k1, _, _, h, _⟩ := hvb.bts (isBytes_part l hA.bytes _ _); exact ⟨a1, k1, h⟩
  subst hv1e hv2e
  go_wp2_with fail
  obtain ⟨W, hW⟩ : ∃ W, W = ((((((((((((w2.setCell ⟨w.heap.size, 0, none⟩ (.int .i64 (dgOf l).tos)).setCell ⟨w.heap.size, 1, none⟩ (.int .i64 (dgOf l).id)).setCell ⟨w.heap.size, 2, none⟩ (.bool (dgOf l).df)).setCell ⟨w.heap.size, 3, none⟩ (.bool (dgOf l).mf)).setCell ⟨w.heap.size, 4, none⟩ (.int .i64 (dgOf l).off)).setCell ⟨w.heap.size, 5, none⟩ (.int .i64 (dgOf l).ttl)).setCell ⟨w.heap.size, 6, none⟩ (.int .i64 (dgOf l).proto)).setCell ⟨w.heap.size, 7, none⟩ (.int .u32 (dgOf l).src)).setCell ⟨w.heap.size, 8, none⟩ (.int .u32 (dgOf l).dst)).setCell ⟨w.heap.size, 9, none⟩ (.slice a1 (dgOf l).opts.length k1)).setCell ⟨w.heap.size, 10, none⟩ (.slice a2 (dgOf l).body.length k2)).setCell ⟨w.heap.size + 1, 0, none⟩ (.int .i64 0)) := ⟨_, rfl⟩
  have hlt : w.heap.size < w1.heap.size := by omega
  have hlt2 : w.heap.size + 1 < w1.heap.size := by omega
  have B1 : Owns W w1.heap.size (.slice a1 (dgOf l).opts.length k1) (dgOf l).opts := by
    rw [hW]; exact ((((((((((((hvo.store hlt _).store hlt _).store hlt _).store hlt _).store hlt _).store hlt _).store hlt _).store hlt _).store hlt _).store hlt _).store hlt _).store hlt2 _)
  have B2 : Owns W w1.heap.size (.slice a2 (dgOf l).body.length k2) (dgOf l).body := by
    rw [hW]; exact ((((((((((((hvb.store hlt _).store hlt _).store hlt _).store hlt _).store hlt _).store hlt _).store hlt _).store hlt _).store hlt _).store hlt _).store hlt _).store hlt2 _)
  have bel : Below w.heap.size w W := by
    rw [hW]
    have hle : w.heap.size ≤ w.heap.size := Nat.le_refl _
    have hle1 : w.heap.size ≤ w.heap.size + 1 := by omega
    exact (((((((((((((below_trans hbase hb2).setCell hle _).setCell hle _).setCell hle _).setCell hle _).setCell hle _).setCell hle _).setCell hle _).setCell hle _).setCell hle _).setCell hle _).setCell hle _).setCell hle1 _)
  have r0 : W.cell? ⟨w.heap.size, 0, none⟩ = some (.int .i64 (dgOf l).tos) := by rw [hW]; simp [go_sem, c0]
  have r1 : W.cell? ⟨w.heap.size, 1, none⟩ = some (.int .i64 (dgOf l).id) := by rw [hW]; simp [go_sem, c1]
  have r2 : W.cell? ⟨w.heap.size, 2, none⟩ = some (.bool (dgOf l).df) := by rw [hW]; simp [go_sem, c2]
  have r3 : W.cell? ⟨w.heap.size, 3, none⟩ = some (.bool (dgOf l).mf) := by rw [hW]; simp [go_sem, c3]
  have r4 : W.cell? ⟨w.heap.size, 4, none⟩ = some (.int .i64 (dgOf l).off) := by rw [hW]; simp [go_sem, c4]
  have r5 : W.cell? ⟨w.heap.size, 5, none⟩ = some (.int .i64 (dgOf l).ttl) := by rw [hW]; simp [go_sem, c5]
  have r6 : W.cell? ⟨w.heap.size, 6, none⟩ = some (.int .i64 (dgOf l).proto) := by rw [hW]; simp [go_sem, c6]
  have r7 : W.cell? ⟨w.heap.size, 7, none⟩ = some (.int .u32 (dgOf l).src) := by rw [hW]; simp [go_sem, c7]
  have r8 : W.cell? ⟨w.heap.size, 8, none⟩ = some (.int .u32 (dgOf l).dst) := by rw [hW]; simp [go_sem, c8]
  have r9 : W.cell? ⟨w.heap.size, 9, none⟩ = some (.slice a1 (dgOf l).opts.length k1) := by rw [hW]; simp [go_sem, c9]
  have r10 : W.cell? ⟨w.heap.size, 10, none⟩ = some (.slice a2 (dgOf l).body.length k2) := by rw [hW]; simp [go_sem, c10]
  have r11 : W.cell? ⟨w.heap.size + 1, 0, none⟩ = some (.int .i64 0) := by rw [hW]; simp [go_sem, c11]
  rw [← hW]
  have HBL : Hid (isBytes l) := hA.bytes
  clear hW c0 c1 c2 c3 c4 c5 c6 c7 c8 c9 c10 c11 c12 q2 hvo hvb hb1 hb2 hbase hA hn1 hn2
  refine leaves_cons (f := 40) (args := #[.pointer (some ⟨w.heap.size, 0, none⟩), .pointer (some ⟨w.heap.size + 1, 0, none⟩)]) (by simp) (by simp [go_sem]) ?_
  refine (pcatch_idle _ _ _).mono ?_
  rintro e u' w5 ⟨rfl, rfl, rfl⟩
  simp [Leaves, settle, results, Try.results26, go_sem, r0, r1, r2, r3, r4, r5, r6, r7, r8, r9, r10, r11]
  exact ⟨a1, k1, a2, k2, ⟨⟨rfl, rfl⟩, rfl, rfl⟩, B1.low (Nat.le_of_lt hlt), B2.low (Nat.le_of_lt hlt), bel⟩

theorem parse_ok (b off len cap : Nat) (l : List Int) (w : World) (hA : At w b off len cap l) (g : Good l) :
    Calls Try.prog 26 #[.slice (some ⟨b, off, none⟩) len cap] w fun e w' =>
      ∃ a1 k1 a2 k2, e = .returned (.tuple #[ipV (dgOf l) (.slice a1 (dgOf l).opts.length k1) (.slice a2 (dgOf l).body.length k2), .int .i64 0]) ∧ Bts w' (.slice a1 (dgOf l).opts.length k1) (dgOf l).opts ∧ Bts w' (.slice a2 (dgOf l).body.length k2) (dgOf l).body ∧ Below w.heap.size w w' := by
  refine (parse_own b off len cap l w hA g).mono ?_
  rintro e w' ⟨a1, k1, a2, k2, rfl, h1, h2, hb⟩
  exact ⟨a1, k1, a2, k2, rfl, h1.bts (isBytes_part l hA.bytes _ _), h2.bts (isBytes_part l hA.bytes _ _), hb⟩
end Go.Proofs.Ytdejjokgchbgnaa
