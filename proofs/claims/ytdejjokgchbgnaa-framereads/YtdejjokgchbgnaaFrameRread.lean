/- The contract of Read in the document's own answer: what is no frame, and datagrams of UDP. -/
import Derived.Test.YtdejjokgchbgnaaFrameReadAll
import Derived.Test.YtdejjokgchbgnaaRparseOk
import Derived.Test.YtdejjokgchbgnaaUdpRparse
set_option maxRecDepth 100000
namespace Go.Proofs.Ytdejjokgchbgnaa
open Go.RowKit
attribute [local go_sem ↓] Go.wp_at_zero Go.wp_at_succ

/-- The making of a frame's variable and the store of a whole frame into it, as one step of the walk. -/
theorem alloc_store {ops : Array Oper} {rest : List Oper} {op op2 : Oper} {a : Act} {w : World} {Q : Exit → Act → World → Prop} (g1 : op.guard = none) (h1 : op.op = .alloc 37) (g2 : op2.guard = none) (x y : Operand) (h2 : op2.op = .store 37 x y) (C : Array Value)
    (hx : (a.put op.dst (.pointer (some ⟨w.heap.size, 0, none⟩))).eval x = .pointer (some ⟨w.heap.size, 0, none⟩)) (hy : (a.put op.dst (.pointer (some ⟨w.heap.size, 0, none⟩))).eval y = .agg C) (hC : C.size = 22) (hone : C.all (·.oneCell') = true)
    (W5 : World) (hW : (w.alloc (.cells zeroFC 37)).setCells w.heap.size 0 C.toList = W5)
    (h : wpList Try.prog ops Q rest ((a.put op.dst (.pointer (some ⟨w.heap.size, 0, none⟩))).put op2.dst undef) W5) : wpList Try.prog ops Q (op :: op2 :: rest) a w := by
  refine alloc_fr g1 h1 (store_fr g2 x y h2 w.heap.size C hx hy ((fc_new (w := w) rfl (Below.refl _ _)).there rfl) hC hone ?_)
  rw [hW]
  exact h

theorem fr_at (w : World) (n : Nat) (hn : w.heap.size = n) (C : Array Value) (hC : C.size = 22) (W5 : World) (h : (w.alloc (.cells zeroFC 37)).setCells w.heap.size 0 C.toList = W5) : FC W5 n C := by
  subst hn
  rw [← h]
  exact FC.laid (C := zeroFC) (fc_new (w := w) (t := 37) rfl (Below.refl _ _)) rfl C hC

theorem good_parts (l : List Int) (g : Good l) (len : Nat) (hl : l.length = len) : len ≤ 2048 ∧ 20 ≤ len ∧ b1 l 0 / 16 = 4 ∧ 20 ≤ hdOf l ∧ hdOf l ≤ len ∧ hdOf l ≤ w2 l 2 ∧ w2 l 6 < 32768 ∧ w2 l 2 ≤ len ∧ fold16 (ws (l.take (hdOf l).toNat)) = 65535 := by
  subst hl
  exact ⟨g.a, g.b, g.c, g.d, g.e, g.f, g.g, g.h, g.i⟩

theorem rparse_good (b off len cap : Nat) (l : List Int) (w : World) (hA : At w b off len cap l) (g : Good l) :
    Calls Try.prog 10 #[.slice (some ⟨b, off, none⟩) len cap] w fun e w' =>
      ∃ a1 k1 a2 k2, e = .returned (.tuple #[ipV (dgOf l) (.slice a1 (dgOf l).opts.length k1) (.slice a2 (dgOf l).body.length k2), .int .i64 0]) ∧ Owns w' w.heap.size (.slice a1 (dgOf l).opts.length k1) (dgOf l).opts ∧ Owns w' w.heap.size (.slice a2 (dgOf l).body.length k2) (dgOf l).body ∧ Below w.heap.size w w' := by
  obtain ⟨g1, g2, g3, g4, g5, g6, g7, g8, g9⟩ := good_parts l g len hA.len
  exact rparse_own b off len cap l w hA g1 g2 g3 g4 g5 g6 g7 g8 g9

set_option maxHeartbeats 4000000 in
theorem rread_err (a : Option Addr) (b off len cap : Nat) (l : List Int) (w : World) (ha : a = some ⟨b, off, none⟩ ∨ l = []) (hA : At w b off len cap l) (h : ¬ parseE l = 0) :
    Calls Try.prog 13 #[.slice a len cap] w fun e w' => e = .returned (.tuple #[.agg zeroFC, .int .i64 (whyI (parseE l))]) ∧ Below w.heap.size w w' := by
  have hb1 := below_alloc w (.cells zeroFC 37)
  have hu := rparse_no a b off len cap l _ ha (hA.later hb1) h
  have hne : (parseE l != 0) = true := by rw [bne_iff_ne]; exact h
  clear hA h
  go_enter Try.func13, Try.ntmps13
  go_wp2_with fail
  refine hu.mono ?_
  rintro e w3 ⟨rfl, hb3⟩
  have F3 := fc_new (n := w.heap.size) rfl hb3
  have hs3 := hb3.size
  simp only [World.size_alloc] at hs3
  have bel3 := below_trans hb1 hb3
  clear hu hb1 hb3
  go_wp2_with fail
  refine (rwhy_any _ _).mono ?_
  rintro e w4 ⟨rfl, rfl⟩
  have F4 := F3.later (by omega) (below_alloc w3 (.cells (ipC Dg.zero (.slice none 0 0) (.slice none 0 0)) 29))
  have bel4 := below_trans bel3 (below_alloc w3 (.cells (ipC Dg.zero (.slice none 0 0) (.slice none 0 0)) 29))
  go_wp2_with (refine store_fr rfl (.tmp 2) (.tmp 18) rfl w.heap.size zeroFC rfl rfl (F4.there rfl) rfl oneZ ?_)
  refine bodyPost_ret (results_fr2 rfl _ _ w.heap.size _ rfl (range_set zeroFC.toList rfl (F4.there rfl)) rfl) rfl ?_
  exact ⟨rfl, setCells_below _ _ _ _ _ (Nat.le_refl _) bel4⟩

set_option maxHeartbeats 4000000 in
theorem rread_part (b off len cap : Nat) (l : List Int) (w : World) (hA : At w b off len cap l) (g : Good l) (hp : partB (dgOf l) = true) :
    Calls Try.prog 13 #[.slice (some ⟨b, off, none⟩) len cap] w fun e w' => e = .returned (.tuple #[.agg zeroFC, .int .i64 3]) ∧ Below w.heap.size w w' := by
  have hb1 := below_alloc w (.cells zeroFC 37)
  have hpa := rparse_good b off len cap l _ (hA.later hb1) g
  rcases hpd : dgOf l with ⟨tos, id, df, mf, of, ttl, pr, src, dst, opts, body⟩
  rw [hpd] at hpa hp
  have hpp : mf = true ∨ (mf = false ∧ (of != 0) = true) := by
    unfold partB at hp
    simp only at hp
    cases mf
    · right; refine ⟨rfl, ?_⟩; simpa using hp
    · left; rfl
  clear hA g hpd hp
  rcases hpp with rfl | ⟨rfl, hof⟩
  all_goals
    go_enter Try.func13, Try.ntmps13
    go_wp2_with fail
    refine hpa.mono ?_
    rintro e w3 ⟨a1, k1, a2, k2, rfl, -, -, hb3⟩
    have F3 := fc_new (n := w.heap.size) rfl hb3
    have hs3 := hb3.size
    simp only [World.size_alloc] at hs3
    have bel3 := below_trans hb1 hb3
    clear hpa hb1 hb3
  · have F4 := F3.later (by omega) (below_alloc w3 (.cells (ipC ⟨tos, id, df, true, of, ttl, pr, src, dst, opts, body⟩ (.slice a1 opts.length k1) (.slice a2 body.length k2)) 29))
    have bel4 := below_trans bel3 (below_alloc w3 (.cells (ipC ⟨tos, id, df, true, of, ttl, pr, src, dst, opts, body⟩ (.slice a1 opts.length k1) (.slice a2 body.length k2)) 29))
    go_wp2_with (refine store_fr rfl (.tmp 2) (.tmp 28) rfl w.heap.size zeroFC rfl rfl (F4.there rfl) rfl oneZ ?_)
    refine bodyPost_ret (results_fr2 rfl _ _ w.heap.size _ rfl (range_set zeroFC.toList rfl (F4.there rfl)) rfl) rfl ?_
    exact ⟨rfl, setCells_below _ _ _ _ _ (Nat.le_refl _) bel4⟩
  · have F4 := F3.later (by omega) (below_alloc w3 (.cells (ipC ⟨tos, id, df, false, of, ttl, pr, src, dst, opts, body⟩ (.slice a1 opts.length k1) (.slice a2 body.length k2)) 29))
    have bel4 := below_trans bel3 (below_alloc w3 (.cells (ipC ⟨tos, id, df, false, of, ttl, pr, src, dst, opts, body⟩ (.slice a1 opts.length k1) (.slice a2 body.length k2)) 29))
    go_wp2_with (refine store_fr rfl (.tmp 2) (.tmp 28) rfl w.heap.size zeroFC rfl rfl (F4.there rfl) rfl oneZ ?_)
    refine bodyPost_ret (results_fr2 rfl _ _ w.heap.size _ rfl (range_set zeroFC.toList rfl (F4.there rfl)) rfl) rfl ?_
    exact ⟨rfl, setCells_below _ _ _ _ _ (Nat.le_refl _) bel4⟩
end Go.Proofs.Ytdejjokgchbgnaa
