/- The contract of Quote. -/
import Derived.Test.YtdejjokgchbgnaaFrameQuote
set_option maxRecDepth 100000
namespace Go.Proofs.Ytdejjokgchbgnaa
open Go.RowKit
attribute [local go_sem ↓] Go.wp_at_zero Go.wp_at_succ

theorem head_nat (l : List Int) (g : Head l) : ∃ h : Nat, hdOf l = (h : Int) := by
  have := g.d
  exact ⟨(hdOf l).toNat, by omega⟩

@[reducible] def inC (x : Inn) : Array Value := #[.int .i64 x.proto, .int .u32 x.sa, .int .i64 x.sp, .int .u32 x.da, .int .i64 x.dp]

/-- What is quoted, laid into the five cells of block n. -/
@[reducible] def laidI (w : World) (n : Nat) (x : Inn) : World :=
  ((((w.setCell ⟨n, 0, none⟩ (.int .i64 x.proto)).setCell ⟨n, 1, none⟩ (.int .u32 x.sa)).setCell ⟨n, 2, none⟩ (.int .i64 x.sp)).setCell ⟨n, 3, none⟩ (.int .u32 x.da)).setCell ⟨n, 4, none⟩ (.int .i64 x.dp)

theorem laidI_below {w w' : World} {n : Nat} (h : Below n w w') (x : Inn) : Below n w (laidI w' n x) := by
  have hle : n ≤ n := Nat.le_refl _
  exact (((((h.setCell hle _).setCell hle _).setCell hle _).setCell hle _).setCell hle _)

theorem inC_cells {w w' : World} {t : TypeId} (hb : Below (w.alloc (.cells (inC Inn.zero) t)).heap.size (w.alloc (.cells (inC Inn.zero) t)) w') :
    (w'.cell? ⟨w.heap.size, 0, none⟩ = some (.int .i64 0) ∧ w'.cell? ⟨w.heap.size, 1, none⟩ = some (.int .u32 0) ∧ w'.cell? ⟨w.heap.size, 2, none⟩ = some (.int .i64 0) ∧ w'.cell? ⟨w.heap.size, 3, none⟩ = some (.int .u32 0) ∧ w'.cell? ⟨w.heap.size, 4, none⟩ = some (.int .i64 0)) ∧ ∀ i, w'.frozen? ⟨w.heap.size, i, none⟩ = false := by
  refine ⟨⟨box_cell hb 0 _ rfl, box_cell hb 1 _ rfl, box_cell hb 2 _ rfl, box_cell hb 3 _ rfl, box_cell hb 4 _ rfl⟩, fun i => ?_⟩
  rw [hb.frozen (by simp), World.frozen?_alloc_mark w (inC Inn.zero) t 0 0 i]; simp

theorem quote_head (a : Option Addr) (len cap : Nat) (w : World) (hbh : ∀ W, Below w.heap.size w W → Calls Try.prog 34 #[.slice a len cap] W fun e w' => e = .returned (.tuple #[.slice none 0 0, .bool false]) ∧ w' = W) :
    Calls Try.prog 15 #[.slice a len cap] w fun e w' => e = .returned (.tuple #[inV Inn.zero, .bool false]) ∧ Below w.heap.size w w' := by
  go_enter Try.func15, Try.ntmps15
  go_wp2_with fail
  refine (hbh _ (below_alloc _ _)).mono ?_
  rintro e w' ⟨rfl, rfl⟩
  go_wp2
  refine bodyPost_ret (v := .tuple #[inV Inn.zero, .bool false]) ?_ rfl ?_
  · simp [results, Try.results15, go_sem, Inn.zero]
  exact ⟨rfl, below_alloc _ _⟩

set_option maxHeartbeats 2000000 in
theorem quote_part (b off len cap h : Nat) (l : List Int) (w : World) (hA : At w b off len cap l) (hh : hdOf l = (h : Int)) (g : Head l) (ho : ¬ w2 l 6 % 8192 = 0) :
    Calls Try.prog 15 #[.slice (some ⟨b, off, none⟩) len cap] w fun e w' => e = .returned (.tuple #[inV Inn.zero, .bool false]) ∧ Below w.heap.size w w' := by
  have hL := hA.len
  have g1 := g.a
  rw [hL] at g1
  obtain ⟨x6, y6⟩ := w2_bd l hA.bytes 6
  have hm := mask13_u (w2 l 6) x6 y6
  have hne : (w2 l 6 % 8192 != 0) = true := by rw [bne_iff_ne]; exact ho
  have hA0 := hA.later (below_alloc w (.cells (inC Inn.zero) 35))
  have hbh := behind_ok b off len cap h l _ hA0 hh g
  have hn6 := fnumber2 b off len cap l 6 6 _ hA0 rfl (by omega)
  clear ho hA hA0 g hh hL
  go_enter Try.func15, Try.ntmps15
  go_wp2_with fail
  refine hbh.mono ?_
  rintro e w' ⟨rfl, rfl⟩
  go_wp2_with fail
  refine hn6.mono ?_
  rintro e w' ⟨rfl, rfl⟩
  go_wp2
  refine bodyPost_ret (v := .tuple #[inV Inn.zero, .bool false]) ?_ rfl ?_
  · simp [results, Try.results15, go_sem, Inn.zero]
  exact ⟨rfl, below_alloc _ _⟩

set_option maxHeartbeats 2000000 in
theorem quote_none (b off len cap h : Nat) (l : List Int) (w : World) (hA : At w b off len cap l) (hh : hdOf l = (h : Int)) (g : Head l) (ho : w2 l 6 % 8192 = 0) (hp : portsOf (b1 l 9) (l.drop h) = none) :
    Calls Try.prog 15 #[.slice (some ⟨b, off, none⟩) len cap] w fun e w' => e = .returned (.tuple #[inV Inn.zero, .bool false]) ∧ Below w.heap.size w w' := by
  have hL := hA.len
  have g1 := g.a
  have g4 := g.e
  rw [hL] at g1 g4
  obtain ⟨x6, y6⟩ := w2_bd l hA.bytes 6
  obtain ⟨x9, y9⟩ := b1_bd l hA.bytes 9
  have hm := mask13_u (w2 l 6) x6 y6
  have hne : (w2 l 6 % 8192 != 0) = false := by rw [ho]; rfl
  have v9 : IntKind.i64.wrap (b1 l 9) = b1 l 9 := i64_id _ x9 (by omega)
  have hA0 := hA.later (below_alloc w (.cells (inC Inn.zero) 35))
  have hbh := behind_ok b off len cap h l _ hA0 hh g
  have hn6 := fnumber2 b off len cap l 6 6 _ hA0 rfl (by omega)
  have hn9 := fnumber1 b off len cap l 9 9 _ hA0 rfl (by omega)
  have hpo := ports_none b (off + h) (len - h) (cap - h) (b1 l 9) (l.drop h) _ (at_drop hA0 h (by omega)) (by omega) hp
  clear ho hA hA0 g hh hL hp g1 g4
  go_enter Try.func15, Try.ntmps15
  go_wp2_with fail
  refine hbh.mono ?_
  rintro e w' ⟨rfl, rfl⟩
  go_wp2_with fail
  refine hn6.mono ?_
  rintro e w' ⟨rfl, rfl⟩
  go_wp2_with fail
  refine hn9.mono ?_
  rintro e w' ⟨rfl, rfl⟩
  go_wp2_with fail
  refine hpo.mono ?_
  rintro e w1 ⟨f, t, rfl, hb1⟩
  obtain ⟨⟨c0, c1, c2, c3, c4⟩, hfz⟩ := inC_cells hb1
  have bel := laidI_below (below_trans (below_alloc _ _) hb1) Inn.zero
  clear hb1 hbh hn6 hn9 hpo
  go_wp2
  refine bodyPost_ret (v := .tuple #[inV Inn.zero, .bool false]) ?_ rfl ?_
  · simp [results, Try.results15, go_sem, Inn.zero, c0, c1, c2, c3, c4]
  exact ⟨rfl, bel⟩

set_option maxHeartbeats 2000000 in
theorem quote_some (b off len cap h : Nat) (l : List Int) (f t : Int) (w : World) (hA : At w b off len cap l) (hh : hdOf l = (h : Int)) (g : Head l) (ho : w2 l 6 % 8192 = 0) (hp : portsOf (b1 l 9) (l.drop h) = some (f, t)) :
    Calls Try.prog 15 #[.slice (some ⟨b, off, none⟩) len cap] w fun e w' => e = .returned (.tuple #[inV (innOf l (f, t)), .bool true]) ∧ Below w.heap.size w w' := by
  have hL := hA.len
  have g1 := g.a
  have g4 := g.e
  rw [hL] at g1 g4
  obtain ⟨x6, y6⟩ := w2_bd l hA.bytes 6
  obtain ⟨x9, y9⟩ := b1_bd l hA.bytes 9
  obtain ⟨x12, y12⟩ := w4_bd l hA.bytes 12
  obtain ⟨x16, y16⟩ := w4_bd l hA.bytes 16
  have hm := mask13_u (w2 l 6) x6 y6
  have hne : (w2 l 6 % 8192 != 0) = false := by rw [ho]; rfl
  have v9 : IntKind.i64.wrap (b1 l 9) = b1 l 9 := i64_id _ x9 (by omega)
  have v12 : IntKind.u32.wrap (w4 l 12) = w4 l 12 := u32_id _ x12 (by omega)
  have v16 : IntKind.u32.wrap (w4 l 16) = w4 l 16 := u32_id _ x16 (by omega)
  have hA0 := hA.later (below_alloc w (.cells (inC Inn.zero) 35))
  have hbh := behind_ok b off len cap h l _ hA0 hh g
  have hn6 := fnumber2 b off len cap l 6 6 _ hA0 rfl (by omega)
  have hn9 := fnumber1 b off len cap l 9 9 _ hA0 rfl (by omega)
  have hpo := ports_some b (off + h) (len - h) (cap - h) (b1 l 9) f t (l.drop h) _ (at_drop hA0 h (by omega)) (by omega) hp
  clear ho g hh hL hp
  go_enter Try.func15, Try.ntmps15
  go_wp2_with fail
  refine hbh.mono ?_
  rintro e w' ⟨rfl, rfl⟩
  go_wp2_with fail
  refine hn6.mono ?_
  rintro e w' ⟨rfl, rfl⟩
  go_wp2_with fail
  refine hn9.mono ?_
  rintro e w' ⟨rfl, rfl⟩
  go_wp2_with fail
  refine hpo.mono ?_
  rintro e w1 ⟨rfl, hb1⟩
  have hA1 := hA0.later hb1
  have hn12 := fnumber4 b off len cap l 12 12 _ hA1 rfl (by omega)
  have hn16 := fnumber4 b off len cap l 16 16 _ hA1 rfl (by omega)
  obtain ⟨⟨c0, c1, c2, c3, c4⟩, hfz⟩ := inC_cells hb1
  have bel := laidI_below (below_trans (below_alloc _ _) hb1) (innOf l (f, t))
  clear hb1 hbh hn6 hn9 hpo hA hA0 hA1 g1 g4
  go_wp2_with fail
  refine hn12.mono ?_
  rintro e w' ⟨rfl, rfl⟩
  go_wp2_with fail
  refine hn16.mono ?_
  rintro e w' ⟨rfl, rfl⟩
  clear hn12 hn16
  go_wp2
  refine bodyPost_ret (v := .tuple #[inV (innOf l (f, t)), .bool true]) ?_ rfl ?_
  · simp [results, Try.results15, go_sem, innOf, c0, c1, c2, c3, c4]
  exact ⟨rfl, bel⟩

theorem quote_no (a : Option Addr) (b off len cap : Nat) (l : List Int) (w : World) (ha : a = some ⟨b, off, none⟩ ∨ l = []) (hA : At w b off len cap l) (h : quoteO l = none) :
    Calls Try.prog 15 #[.slice a len cap] w fun e w' => e = .returned (.tuple #[inV Inn.zero, .bool false]) ∧ Below w.heap.size w w' := by
  have hL := hA.len
  by_cases h20 : len < 20
  · exact quote_head a len cap w (fun W _ => behind_short a len cap W h20)
  rcases ha with rfl | rfl
  case inr => simp at hL; omega
  by_cases g : Head l
  · obtain ⟨k, hk⟩ := head_nat l g
    unfold quoteO at h
    by_cases ho : w2 l 6 % 8192 = 0
    · rw [if_pos ⟨g, ho⟩, hk, Int.toNat_natCast, Option.map_eq_none_iff] at h
      exact quote_none b off len cap k l w hA hk g ho h
    · exact quote_part b off len cap k l w hA hk g ho
  · exact quote_head _ len cap w (fun W hW => behind_no b off len cap l W (hA.later hW) (by omega) g)

theorem quote_ok (b off len cap : Nat) (l : List Int) (x : Inn) (w : World) (hA : At w b off len cap l) (h : quoteO l = some x) :
    Calls Try.prog 15 #[.slice (some ⟨b, off, none⟩) len cap] w fun e w' => e = .returned (.tuple #[inV x, .bool true]) ∧ Below w.heap.size w w' := by
  unfold quoteO at h
  by_cases g : Head l ∧ w2 l 6 % 8192 = 0
  · rw [if_pos g] at h
    obtain ⟨k, hk⟩ := head_nat l g.1
    rw [hk, Int.toNat_natCast] at h
    obtain ⟨⟨f, t⟩, hp, rfl⟩ := Option.map_eq_some_iff.1 h
    exact quote_some b off len cap k l f t w hA hk g.1 g.2 hp
  · rw [if_neg g] at h; cases h
end Go.Proofs.Ytdejjokgchbgnaa
