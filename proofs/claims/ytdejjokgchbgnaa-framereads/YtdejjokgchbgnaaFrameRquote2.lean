/- The contract of Quote in the document's own answer, where the header can be read. -/
import Derived.Test.YtdejjokgchbgnaaFrameRquote
import Derived.Test.YtdejjokgchbgnaaRparse
set_option maxRecDepth 100000
namespace Go.Proofs.Ytdejjokgchbgnaa
open Go.RowKit
attribute [local go_sem ↓] Go.wp_at_zero Go.wp_at_succ

/-- A world where the result's cells and the variable's lie in two blocks of their own. -/
structure RQ (w W : World) (b off len cap : Nat) (l : List Int) (x : Inn) : Prop where
  bel : Below w.heap.size w W
  at_ : At W b off len cap l
  lt : b < w.heap.size
  r : W.cell? ⟨w.heap.size, 0, none⟩ = some (.int .i64 0) ∧ W.cell? ⟨w.heap.size, 1, none⟩ = some (.int .u32 0) ∧ W.cell? ⟨w.heap.size, 2, none⟩ = some (.int .i64 0) ∧ W.cell? ⟨w.heap.size, 3, none⟩ = some (.int .u32 0) ∧ W.cell? ⟨w.heap.size, 4, none⟩ = some (.int .i64 0)
  x : W.cell? ⟨w.heap.size + 1, 0, none⟩ = some (.int .i64 x.proto) ∧ W.cell? ⟨w.heap.size + 1, 1, none⟩ = some (.int .u32 x.sa) ∧ W.cell? ⟨w.heap.size + 1, 2, none⟩ = some (.int .i64 x.sp) ∧ W.cell? ⟨w.heap.size + 1, 3, none⟩ = some (.int .u32 x.da) ∧ W.cell? ⟨w.heap.size + 1, 4, none⟩ = some (.int .i64 x.dp)
  f : ∀ i, W.frozen? ⟨w.heap.size, i, none⟩ = false
  g : ∀ i, W.frozen? ⟨w.heap.size + 1, i, none⟩ = false

theorem rq_new {w : World} {b off len cap : Nat} {l : List Int} (hA : At w b off len cap l) (h0 : 0 < len) (p s d : Int) (t : TypeId) (n : Nat) :
    ∃ W, W = (((w.alloc (.cells zeroIC t)).alloc (.cells #[.int .i64 p, .int .u32 s, .int .i64 0, .int .u32 d, .int .i64 0] t)).drewN n) ∧ RQ w W b off len cap l ⟨p, s, 0, d, 0⟩ := by
  refine ⟨_, rfl, ?_⟩
  have hb := below_drewN (below_trans (below_alloc w (.cells zeroIC t)) (below_alloc _ (.cells #[.int .i64 p, .int .u32 s, .int .i64 0, .int .u32 d, .int .i64 0] t))) n
  have hlt : b < w.heap.size := World.block_lt_of_cell? _ _ (hA.sees 0 (by rw [hA.len]; exact h0))
  have k0 : ∀ i v, zeroIC[i]? = some v → (((w.alloc (.cells zeroIC t)).alloc (.cells #[.int .i64 p, .int .u32 s, .int .i64 0, .int .u32 d, .int .i64 0] t)).drewN n).cell? ⟨w.heap.size, i, none⟩ = some v := by
    intro i v hv
    have : ((w.alloc (.cells zeroIC t)).alloc (.cells #[.int .i64 p, .int .u32 s, .int .i64 0, .int .u32 d, .int .i64 0] t)).cell? ⟨w.heap.size, i, none⟩ = some v := by
      refine cell_later (below_alloc _ _) ?_
      rw [World.cell?_alloc_mark w zeroIC t (0, 0) i]; exact hv
    exact this
  have k1 : ∀ i v, (#[.int .i64 p, .int .u32 s, .int .i64 0, .int .u32 d, .int .i64 0] : Array Value)[i]? = some v → (((w.alloc (.cells zeroIC t)).alloc (.cells #[.int .i64 p, .int .u32 s, .int .i64 0, .int .u32 d, .int .i64 0] t)).drewN n).cell? ⟨w.heap.size + 1, i, none⟩ = some v := by
    intro i v hv
    have := World.cell?_alloc_mark (w.alloc (.cells zeroIC t)) #[.int .i64 p, .int .u32 s, .int .i64 0, .int .u32 d, .int .i64 0] t (0, 0) i
    rw [show (w.alloc (.cells zeroIC t)).heap.size = w.heap.size + 1 by simp] at this
    rw [hv] at this
    exact this
  refine ⟨hb, hA.later hb, hlt, ⟨k0 0 _ rfl, k0 1 _ rfl, k0 2 _ rfl, k0 3 _ rfl, k0 4 _ rfl⟩, ⟨k1 0 _ rfl, k1 1 _ rfl, k1 2 _ rfl, k1 3 _ rfl, k1 4 _ rfl⟩, fun i => ?_, fun i => ?_⟩
  · show ((w.alloc (.cells zeroIC t)).alloc (.cells #[.int .i64 p, .int .u32 s, .int .i64 0, .int .u32 d, .int .i64 0] t)).frozen? ⟨w.heap.size, i, none⟩ = false
    rw [(below_alloc (w.alloc (.cells zeroIC t)) (.cells #[.int .i64 p, .int .u32 s, .int .i64 0, .int .u32 d, .int .i64 0] t)).frozen (by simp), World.frozen?_alloc_mark w zeroIC t 0 0 i]; simp
  · show ((w.alloc (.cells zeroIC t)).alloc (.cells #[.int .i64 p, .int .u32 s, .int .i64 0, .int .u32 d, .int .i64 0] t)).frozen? ⟨w.heap.size + 1, i, none⟩ = false
    have := World.frozen?_alloc_mark (w.alloc (.cells zeroIC t)) #[.int .i64 p, .int .u32 s, .int .i64 0, .int .u32 d, .int .i64 0] t 0 0 i
    rw [show (w.alloc (.cells zeroIC t)).heap.size = w.heap.size + 1 by simp] at this
    rw [this]; simp

theorem RQ.drew {w W : World} {b off len cap : Nat} {l : List Int} {x : Inn} (h : RQ w W b off len cap l x) : RQ w W.drew b off len cap l x :=
  ⟨below_drewN h.bel 1, h.at_.later (below_drewN (Below.refl _ _) 1), h.lt, h.r, h.x, h.f, h.g⟩

theorem RQ.sp {w W : World} {b off len cap : Nat} {l : List Int} {x : Inn} (h : RQ w W b off len cap l x) (v : Int) : RQ w (W.setCell ⟨w.heap.size + 1, 2, none⟩ (.int .i64 v)) b off len cap l { x with sp := v } := by
  have hA := h.at_
  have hlt := h.lt
  have far : ∀ (c : Nat) (j : Nat), c < w.heap.size + 1 → (W.setCell ⟨w.heap.size + 1, 2, none⟩ (.int .i64 v)).cell? ⟨c, j, none⟩ = W.cell? ⟨c, j, none⟩ := fun c j hc => World.cell?_setCell_far W ⟨w.heap.size + 1, 2, none⟩ ⟨c, j, none⟩ _ (by show w.heap.size + 1 ≠ c; omega)
  obtain ⟨r0, r1, r2, r3, r4⟩ := h.r
  obtain ⟨x0, x1, x2, x3, x4⟩ := h.x
  have hf := h.f
  have hg := h.g
  refine ⟨h.bel.setCell (Nat.le_succ _) _, ⟨hA.cap1, hA.cap2, hA.len, hA.bytes, fun i hi => by rw [far _ _ (by omega)]; exact hA.sees i hi⟩, hlt, ?_, ?_, fun i => ?_, fun i => ?_⟩
  · simp only [far _ _ (Nat.lt_succ_self _)]; exact ⟨r0, r1, r2, r3, r4⟩
  · refine ⟨?_, ?_, ?_, ?_, ?_⟩ <;> simp [go_sem, x0, x1, x2, x3, x4]
  · simp [go_sem, hf]
  · simp [go_sem, hg]

theorem RQ.dp {w W : World} {b off len cap : Nat} {l : List Int} {x : Inn} (h : RQ w W b off len cap l x) (v : Int) : RQ w (W.setCell ⟨w.heap.size + 1, 4, none⟩ (.int .i64 v)) b off len cap l { x with dp := v } := by
  have hA := h.at_
  have hlt := h.lt
  have far : ∀ (c : Nat) (j : Nat), c < w.heap.size + 1 → (W.setCell ⟨w.heap.size + 1, 4, none⟩ (.int .i64 v)).cell? ⟨c, j, none⟩ = W.cell? ⟨c, j, none⟩ := fun c j hc => World.cell?_setCell_far W ⟨w.heap.size + 1, 4, none⟩ ⟨c, j, none⟩ _ (by show w.heap.size + 1 ≠ c; omega)
  obtain ⟨r0, r1, r2, r3, r4⟩ := h.r
  obtain ⟨x0, x1, x2, x3, x4⟩ := h.x
  have hf := h.f
  have hg := h.g
  refine ⟨h.bel.setCell (Nat.le_succ _) _, ⟨hA.cap1, hA.cap2, hA.len, hA.bytes, fun i hi => by rw [far _ _ (by omega)]; exact hA.sees i hi⟩, hlt, ?_, ?_, fun i => ?_, fun i => ?_⟩
  · simp only [far _ _ (Nat.lt_succ_self _)]; exact ⟨r0, r1, r2, r3, r4⟩
  · refine ⟨?_, ?_, ?_, ?_, ?_⟩ <;> simp [go_sem, x0, x1, x2, x3, x4]
  · simp [go_sem, hf]
  · simp [go_sem, hg]

set_option maxHeartbeats 8000000 in
theorem rquote_other (b off len cap : Nat) (l : List Int) (w : World) (hA : At w b off len cap l) (hl : len ≤ 140737488351232) (g : Head l) (h : w2 l 6 % 8192 = 0) (n17 : ¬ b1 l 9 = 17) (n6 : ¬ b1 l 9 = 6) (n1 : ¬ b1 l 9 = 1) :
    Calls Try.prog 16 #[.slice (some ⟨b, off, none⟩) len cap] w fun e w' => e = .returned (.tuple #[inV Inn.zero, .bool false]) ∧ Below w.heap.size w w' := by
  have sd := set_drewN
  have ad := alloc_drewN
  have hL := hA.len
  rw [off_bytes l hA.bytes] at h
  obtain ⟨g1, g2, g3, g4⟩ := g
  rw [hL] at g1 g4
  unfold hdOf at g3 g4
  have h' : ¬ (len : Int) < 20 := by omega
  have l0 : 0 < len := by omega
  have l6 : (6 : Int) < (len : Int) := by omega
  have l7 : (7 : Int) < (len : Int) := by omega
  have l9 : (9 : Int) < (len : Int) := by omega
  have hA0 := hA.later (below_alloc w (.cells zeroIC 35))
  have c0 : (w.alloc (.cells zeroIC 35)).cell? ⟨b, off, none⟩ = some (.int .u8 (b1 l 0)) := hA0.sees 0 (by rw [hA.len]; omega)
  have c6 : (w.alloc (.cells zeroIC 35)).cell? ⟨b, off + 6, none⟩ = some (.int .u8 (b1 l 6)) := hA0.sees 6 (by rw [hA.len]; omega)
  have c7 : (w.alloc (.cells zeroIC 35)).cell? ⟨b, off + 7, none⟩ = some (.int .u8 (b1 l 7)) := hA0.sees 7 (by rw [hA.len]; omega)
  have c9 : (w.alloc (.cells zeroIC 35)).cell? ⟨b, off + 9, none⟩ = some (.int .u8 (b1 l 9)) := hA0.sees 9 (by rw [hA.len]; omega)
  have hv : (b1 l 0 / 16 != 4) = false := by rw [g2]; rfl
  obtain ⟨x0, y0⟩ := b1_bd l hA.bytes 0
  obtain ⟨x6, y6⟩ := b1_bd l hA.bytes 6
  obtain ⟨x7, y7⟩ := b1_bd l hA.bytes 7
  obtain ⟨x9, y9⟩ := b1_bd l hA.bytes 9
  have u9 : IntKind.i64.wrap (b1 l 9) = b1 l 9 := i64_id _ x9 (by omega)
  have hd : ¬ b1 l 0 % 16 < 5 := by omega
  have he : ¬ (len : Int) < b1 l 0 % 16 * 4 + 8 := by omega
  have h6' : (b1 l 6 % 32 != 0) = false := by simp; omega
  have h7' : (b1 l 7 != 0) = false := by simp; omega
  have q17 : (b1 l 9 == 17) = false := by simpa using n17
  have q6 : (b1 l 9 == 6) = false := by simpa using n6
  have q1 : (b1 l 9 == 1) = false := by simpa using n1
  have HA : Hid (At w b off len cap l) := hA
  clear hA g2 g3 g4 h hL n17 n6 n1
  go_enter Try.func16, Try.ntmps16
  go_wp2_with fail
  go_region_held3 (fun w' => w'.cell? ⟨b, off + 9, none⟩ = some (.int .u8 (b1 l 9))) (first | exact c9 | go_keep)
    (first
      | (go_at_call_of 22 (Value.int .i64 12); refine (flong_any b off len cap l 12 12 _ (by first | exact hA0.later (below_drewN (Below.refl _ _) _) | exact hA0.later (below_drewN (below_alloc _ _) _)) rfl (by omega) hl).mono ?_; rintro e w4 ⟨rfl, n4, rfl⟩)
      | (go_at_call_of 22 (Value.int .i64 16); refine (flong_any b off len cap l 16 16 _ (by first | exact hA0.later (below_drewN (Below.refl _ _) _) | exact hA0.later (below_drewN (below_alloc _ _) _)) rfl (by omega) hl).mono ?_; rintro e w5 ⟨rfl, n5, rfl⟩))
  all_goals
    obtain ⟨W, hW, R⟩ := rq_new HA.out l0 (b1 l 9) (w4 l 12) (w4 l 16) 35 (1 + n4 + n5)
    rw [← hW]
    clear hW hA0 c0 c6 c7 c9
    obtain ⟨r0, r1, r2, r3, r4⟩ := R.r
    obtain ⟨x0, x1, x2, x3, x4⟩ := R.x
    have hf := R.f
    have bel := laidI_below R.bel Inn.zero
    clear R
    go_wp2
    refine bodyPost_ret (v := .tuple #[inV Inn.zero, .bool false]) ?_ rfl ?_
    · simp [results, Try.results16, go_sem, Inn.zero, r0, r1, r2, r3, r4]
    exact ⟨rfl, bel⟩
end Go.Proofs.Ytdejjokgchbgnaa
