/- The document's New, Read. -/
import Derived.Test.YtafkkehcacdodaaGreatSecRef2
import Derived.Deep.OwnRows
set_option maxRecDepth 100000
namespace Go.Proofs.YtafkkehcacdodaaGreat
open Go.RowKit
attribute [local go_sem ↓] Go.wp_at_zero Go.wp_at_succ

/-- Tags of a new disk's blocks. -/
def tagM (tag : Nat → Nat) (N o M S T : Nat) : Nat → Nat := fun k => if k < N then tag k else if k = M then 16 * o + 1 else if k = S then 16 * o + 2 else if k = T then 16 * o + 3 else 0

theorem made_zero5 (n : Nat) : (madeCells #[Value.int .u8 0] n).toList = bytesV (zeros n) := by
  apply List.ext_getElem?
  intro j
  by_cases hj : j < n
  · simp [madeCells, hj, zeros, Nat.mod_one]
  · simp [madeCells, hj, zeros]

set_option maxHeartbeats 400000 in
theorem rnew_no (w : World) (n : Int) (h : n < 1 ∨ 4096 < n) : Calls Tryz.prog 8 #[.int .i64 n] w fun e w' => e = .returned (.tuple #[.pointer none, .int .i64 1]) ∧ w' = w := by
  rcases h with h | h
  · go_enter Tryz.func8, Tryz.ntmps8
    go_wp2
    go_ret2
    exact ⟨rfl, rfl⟩
  · have h' : ¬ n < 1 := by omega
    go_enter Tryz.func8, Tryz.ntmps8
    go_wp2
    go_ret2
    exact ⟨rfl, rfl⟩

theorem row_made (w w' : World) (n : Nat) (Z : Array Value) (hZ : Z.toList = bytesV (zeros n)) (hn : n ≤ maxLen) (h : Below (w.alloc (.cells Z 5)).heap.size (w.alloc (.cells Z 5)) w') : Row w' 1 w.heap.size n n (bytesV (zeros n)) := by
  refine ⟨by simp [zeros], Nat.le_refl _, hn, _, (blk_new w Z 5).later h, ?_, ?_⟩
  · rw [hZ]; simp [zeros]
  · rw [hZ]; simp [zeros]

theorem made_md (w : World) (tag : Nat → Nat) (base o n N : Nat) (Z : Array Value) (hZ : Z.toList = bytesV (zeros N)) (hN : N = n * 64) (hbase : base ≤ w.heap.size) (h1 : 1 ≤ n) (h2 : n ≤ 4096) (A B : Nat) (hAB : (A = w.heap.size ∧ B = w.heap.size + 1) ∨ (A = w.heap.size + 1 ∧ B = w.heap.size)) :
    MD ((((w.alloc (.cells Z 5)).alloc (.cells Z 5)).alloc (.cells #[.int .i64 n, .slice (some ⟨A, 0, none⟩) N N, .slice (some ⟨B, 0, none⟩) N N, .slice none 0 0, .slice none 0 0, .int .i64 0] 71)).drew)
      (tagM tag w.heap.size o (w.heap.size + 1 + 1) A B) base o (St.new n) ⟨w.heap.size + 1 + 1, A, B, N, N, .slice none 0 0, .slice none 0 0, []⟩ ∧
    (∀ k, k < w.heap.size → tagM tag w.heap.size o (w.heap.size + 1 + 1) A B k = tag k) ∧
    Below w.heap.size w ((((w.alloc (.cells Z 5)).alloc (.cells Z 5)).alloc (.cells #[.int .i64 n, .slice (some ⟨A, 0, none⟩) N N, .slice (some ⟨B, 0, none⟩) N N, .slice none 0 0, .slice none 0 0, .int .i64 0] 71)).drew) := by
  subst hN
  have hb1 := below_alloc w (.cells Z 5)
  have hb2 := below_alloc (w.alloc (.cells Z 5)) (.cells Z 5)
  have hb3 := (below_alloc ((w.alloc (.cells Z 5)).alloc (.cells Z 5)) (.cells #[.int .i64 n, .slice (some ⟨A, 0, none⟩) (n * 64) (n * 64), .slice (some ⟨B, 0, none⟩) (n * 64) (n * 64), .slice none 0 0, .slice none 0 0, .int .i64 0] 71)).drew
  have hm : n * 64 ≤ maxLen := by unfold maxLen; omega
  have r1 := row_made w _ (n * 64) Z hZ hm (below_trans hb2 hb3)
  have r2 := row_made (w.alloc (.cells Z 5)) _ (n * 64) Z hZ hm hb3
  rw [World.size_alloc] at r2
  have bm := blk_new ((w.alloc (.cells Z 5)).alloc (.cells Z 5)) #[.int .i64 n, .slice (some ⟨A, 0, none⟩) (n * 64) (n * 64), .slice (some ⟨B, 0, none⟩) (n * 64) (n * 64), .slice none 0 0, .slice none 0 0, .int .i64 0] 71
  rw [World.size_alloc, World.size_alloc] at bm
  refine ⟨⟨bm, ?_, ?_, win_nil _ _, win_nil _ _, rfl, (fun k hk => by simp [St.new] at hk), ⟨?_, ?_⟩, ⟨?_, ?_⟩, ⟨?_, ?_⟩, (fun g hg => by simp [Value.ownBlock] at hg), (fun g hg => by simp [Value.ownBlock] at hg), (fun k hk => by simp [St.new] at hk), St.ok_new h1 h2⟩, fun k hk => by simp [tagM, hk], below_trans hb1 (below_trans hb2 hb3)⟩
  · rcases hAB with ⟨rfl, rfl⟩ | ⟨rfl, rfl⟩
    · exact r1
    · exact r2
  · rcases hAB with ⟨rfl, rfl⟩ | ⟨rfl, rfl⟩
    · exact r2
    · exact r1
  all_goals first
    | (show base ≤ _; dsimp only; omega)
    | (show tagM _ _ _ _ _ _ _ = _; dsimp only; unfold tagM; repeat (first | rw [if_pos rfl] | rw [if_neg (by omega)]))

set_option maxHeartbeats 2000000 in
theorem rnew_ok (w : World) (tag : Nat → Nat) (base o n : Nat) (hbase : base ≤ w.heap.size) (h1 : 1 ≤ n) (h2 : n ≤ 4096) :
    Calls Tryz.prog 8 #[.int .i64 n] w fun e w' => ∃ p tag', e = .returned (.tuple #[.pointer (some ⟨p.M, 0, none⟩), .int .i64 0]) ∧ MD w' tag' base o (St.new n) p ∧ (∀ k, k < w.heap.size → tag' k = tag k) ∧ Below w.heap.size w w' := by
  have h3 : ¬ (n : Int) < 1 := by omega
  have h4 : ¬ (4096 : Int) < n := by omega
  obtain ⟨N, hN⟩ : ∃ N, N = n * 64 := ⟨_, rfl⟩
  have hwr : IntKind.i64.wrap ((n : Int) * 64) = (N : Int) := by rw [IntWalk.i64_in _ (by omega)]; omega
  have hmk : ∀ W : World, (Instr.makeSlice 39 (.int .i64 (N : Int)) (.int .i64 (N : Int))).run Tryz.prog W = .ok (.slice (some ⟨W.heap.size, 0, none⟩) N N) (W.alloc (.cells (madeCells #[Value.int .u8 0] N) 5)) := fun W =>
    run_make_row' (P := Tryz.prog) 39 5 (.int .u8 0) 1 Tryz.underlying39 info5 rfl .i64 .i64 N (by omega) (by omega) W
  have HZ : Hid ((madeCells #[Value.int .u8 0] N).toList = bytesV (zeros N)) := made_zero5 _
  generalize madeCells #[Value.int .u8 0] N = Z at *
  have HN : Hid (N = n * 64) := hN
  have hNm : N ≤ 262144 := by omega
  clear hN
  go_enter Tryz.func8, Tryz.ntmps8
  go_wp2
  go_region_law (fail)
  all_goals
    go_wp2
    go_ret2
    first
      | exact ⟨_, _, rfl, made_md w tag base o n N Z HZ.out HN.out hbase h1 h2 w.heap.size (w.heap.size + 1) (.inl ⟨rfl, rfl⟩)⟩
      | exact ⟨_, _, rfl, made_md w tag base o n N Z HZ.out HN.out hbase h1 h2 (w.heap.size + 1) w.heap.size (.inr ⟨rfl, rfl⟩)⟩

end Go.Proofs.YtafkkehcacdodaaGreat
