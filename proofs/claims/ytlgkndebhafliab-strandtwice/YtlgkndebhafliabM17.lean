/- The document's New, Read. -/
import Derived.Test.YtlgkndebhafliabM16
import Derived.Deep.OwnRows
set_option maxRecDepth 100000
namespace Go.Proofs.Ytlgkndebhafliab
open Go.RowKit
attribute [local go_sem ↓] Go.wp_at_zero Go.wp_at_succ

/-- Tags of a new disk's blocks. -/
def tagM (tag : Nat → Nat) (N o M S T : Nat) : Nat → Nat := fun k => if k < N then tag k else if k = M then 16 * o + 1 else if k = S then 16 * o + 2 else if k = T then 16 * o + 3 else 0

theorem made_zero5 (n : Nat) : (madeCells #[Value.int .u8 0] n).toList = bytesV (zeros n) := by
  apply List.ext_getElem?
  intro j
  by_cases hj : j < n
  · simp [madeCells, hj, zeros, Nat.mod_one]
  · simp [madeCells, hj, zeros]

set_option maxHeartbeats 400000 in
theorem rnew_no (w : World) (n : Int) (h : n < 1 ∨ 4096 < n) : Calls Try.prog 22 #[.int .i64 n] w fun e w' => e = .returned (.tuple #[.pointer none, .int .i64 1]) ∧ w' = w := by
  rcases h with h | h
  · go_enter Try.func22, Try.ntmps22
    go_wp2
    go_ret2
    exact ⟨rfl, rfl⟩
  · have h' : ¬ n < 1 := by omega
    go_enter Try.func22, Try.ntmps22
    go_wp2
    go_ret2
    exact ⟨rfl, rfl⟩

theorem row_made (w w' : World) (n : Nat) (Z : Array Value) (hZ : Z.toList = bytesV (zeros n)) (hn : n ≤ maxLen) (h : Below (w.alloc (.cells Z 5)).heap.size (w.alloc (.cells Z 5)) w') : Row w' 1 w.heap.size n n (bytesV (zeros n)) := by
  refine ⟨by simp [zeros], Nat.le_refl _, hn, _, (blk_new w Z 5).later h, ?_, ?_⟩
  · rw [hZ]; simp [zeros]
  · rw [hZ]; simp [zeros]

theorem made_md (w : World) (tag : Nat → Nat) (base o n N : Nat) (Z : Array Value) (hZ : Z.toList = bytesV (zeros N)) (hN : N = n * 64) (hbase : base ≤ w.heap.size) (h1 : 1 ≤ n) (h2 : n ≤ 4096) (A B : Nat) (hAB : (A = w.heap.size ∧ B = w.heap.size + 1) ∨ (A = w.heap.size + 1 ∧ B = w.heap.size)) :
    MD ((((w.alloc (.cells Z 5)).alloc (.cells Z 5)).alloc (.cells #[.int .i64 n, .slice (some ⟨A, 0, none⟩) N N, .slice (some ⟨B, 0, none⟩) N N, .slice none 0 0, .slice none 0 0, .int .i64 0] 92)).drew)
      (tagM tag w.heap.size o (w.heap.size + 1 + 1) A B) base o (St.new n) ⟨w.heap.size + 1 + 1, A, B, N, N, .slice none 0 0, .slice none 0 0, []⟩ ∧
    (∀ k, k < w.heap.size → tagM tag w.heap.size o (w.heap.size + 1 + 1) A B k = tag k) ∧
    Below w.heap.size w ((((w.alloc (.cells Z 5)).alloc (.cells Z 5)).alloc (.cells #[.int .i64 n, .slice (some ⟨A, 0, none⟩) N N, .slice (some ⟨B, 0, none⟩) N N, .slice none 0 0, .slice none 0 0, .int .i64 0] 92)).drew) := by
  subst hN
  have hb1 := below_alloc w (.cells Z 5)
  have hb2 := below_alloc (w.alloc (.cells Z 5)) (.cells Z 5)
  have hb3 := (below_alloc ((w.alloc (.cells Z 5)).alloc (.cells Z 5)) (.cells #[.int .i64 n, .slice (some ⟨A, 0, none⟩) (n * 64) (n * 64), .slice (some ⟨B, 0, none⟩) (n * 64) (n * 64), .slice none 0 0, .slice none 0 0, .int .i64 0] 92)).drew
  have hm : n * 64 ≤ maxLen := by unfold maxLen; omega
  have r1 := row_made w _ (n * 64) Z hZ hm (below_trans hb2 hb3)
  have r2 := row_made (w.alloc (.cells Z 5)) _ (n * 64) Z hZ hm hb3
  rw [World.size_alloc] at r2
  have bm := blk_new ((w.alloc (.cells Z 5)).alloc (.cells Z 5)) #[.int .i64 n, .slice (some ⟨A, 0, none⟩) (n * 64) (n * 64), .slice (some ⟨B, 0, none⟩) (n * 64) (n * 64), .slice none 0 0, .slice none 0 0, .int .i64 0] 92
  rw [World.size_alloc, World.size_alloc] at bm
  refine ⟨⟨bm, ?_, ?_, win_nil _ _, win_nil _ _, rfl, (fun k hk => by simp [St.new] at hk), ⟨?_, ?_⟩, ⟨?_, ?_⟩, ⟨?_, ?_⟩, (fun g hg => by simp [Value.ownBlock] at hg), (fun g hg => by simp [Value.ownBlock] at hg), (fun k hk => by simp [St.new] at hk), St.ok_new h1 h2⟩, fun k hk => by simp [tagM, hk], below_trans hb1 (below_trans hb2 hb3)⟩
  · rcases hAB with ⟨rfl, rfl⟩ | ⟨rfl, rfl⟩
    · exact r1
    · exact r2
  · rcases hAB with ⟨rfl, rfl⟩ | ⟨rfl, rfl⟩
    · exact r2
    · exact r1
  all_goals first
    | (show base ≤ _; dsimp only; omega)
    | (show tagM _ _ _ _ _ _ _ = _; dsimp only; unfold tagM; repeat (first | rw [if_pos rfl] | rw [if_neg (by omega)]))

set_option maxHeartbeats 2000000 in
theorem rnew_ok (w : World) (tag : Nat → Nat) (base o n : Nat) (hbase : base ≤ w.heap.size) (h1 : 1 ≤ n) (h2 : n ≤ 4096) :
    Calls Try.prog 22 #[.int .i64 n] w fun e w' => ∃ p tag', e = .returned (.tuple #[.pointer (some ⟨p.M, 0, none⟩), .int .i64 0]) ∧ MD w' tag' base o (St.new n) p ∧ (∀ k, k < w.heap.size → tag' k = tag k) ∧ Below w.heap.size w w' := by
  have h3 : ¬ (n : Int) < 1 := by omega
  have h4 : ¬ (4096 : Int) < n := by omega
  obtain ⟨N, hN⟩ : ∃ N, N = n * 64 := ⟨_, rfl⟩
  have hwr : IntKind.i64.wrap ((n : Int) * 64) = (N : Int) := by rw [IntWalk.i64_in _ (by omega)]; omega
  have hmk : ∀ W : World, (Instr.makeSlice 23 (.int .i64 (N : Int)) (.int .i64 (N : Int))).run Try.prog W = .ok (.slice (some ⟨W.heap.size, 0, none⟩) N N) (W.alloc (.cells (madeCells #[Value.int .u8 0] N) 5)) := fun W =>
    run_make_row' (P := Try.prog) 23 5 (.int .u8 0) 1 Try.underlying23 info5 rfl .i64 .i64 N (by omega) (by omega) W
  have HZ : Hid ((madeCells #[Value.int .u8 0] N).toList = bytesV (zeros N)) := made_zero5 _
  generalize madeCells #[Value.int .u8 0] N = Z at *
  have HN : Hid (N = n * 64) := hN
  have hNm : N ≤ 262144 := by omega
  clear hN
  go_enter Try.func22, Try.ntmps22
  go_wp2
  go_region_law (fail)
  all_goals
    go_wp2
    go_ret2
    first
      | exact ⟨_, _, rfl, made_md w tag base o n N Z HZ.out HN.out hbase h1 h2 w.heap.size (w.heap.size + 1) (.inl ⟨rfl, rfl⟩)⟩
      | exact ⟨_, _, rfl, made_md w tag base o n N Z HZ.out HN.out hbase h1 h2 (w.heap.size + 1) w.heap.size (.inr ⟨rfl, rfl⟩)⟩

end Go.Proofs.Ytlgkndebhafliab

namespace Go.Proofs.Ytlgkndebhafliab
open Go.RowKit
attribute [local go_sem ↓] Go.wp_at_zero Go.wp_at_succ

theorem sec_getD (l : List Int) (k j : Nat) (hj : j < 64) : (sec l k).getD j 0 = l.getD (k * 64 + j) 0 := by
  unfold sec
  rw [List.getD_eq_getElem?_getD, List.getD_eq_getElem?_getD, List.getElem?_take_of_lt hj, List.getElem?_drop]

theorem row_byte {w : World} {g cap n : Nat} {l : List Int} (h : Row w 1 g cap n (bytesV l)) (j : Nat) (hj : j < l.length) : w.cell? ⟨g, j, none⟩ = some (.int .u8 (l.getD j 0)) := by
  have hl : l.length = n := by simpa using h.1
  rw [h.cell j (by omega)]
  simp [List.getElem?_eq_getElem hj]

/-- The document's Sync, under way: k bytes have been copied. -/
structure RMid (w : World) (base : Nat) (s : St) (p : ML) (k : Nat) (wr : World) : Prop where
  row : Row wr 1 p.S p.cS (s.n * 64) (bytesV (s.now.take k ++ s.sure.drop k))
  kept : ∀ q, q ≠ p.S → wr.heap[q]? = w.heap[q]?
  below : Below base w wr

theorem copied_set (a b : List Int) (k : Nat) (h : a.length = b.length) (hk : k < a.length) : (bytesV (a.take k ++ b.drop k)).set k (.int .u8 (a.getD k 0)) = bytesV (a.take (k + 1) ++ b.drop (k + 1)) := by
  apply List.ext_getElem?
  intro j
  rw [List.getElem?_set]
  by_cases e : k = j
  · subst e
    rw [if_pos rfl]
    simp only [List.length_map, List.length_append, List.length_take, List.length_drop, List.getElem?_map]
    rw [if_pos (by omega), List.getElem?_append_left (by simp; omega), List.getElem?_take_of_lt (by omega), List.getElem?_eq_getElem hk]
    simp [List.getD_eq_getElem?_getD, List.getElem?_eq_getElem hk]
  · rw [if_neg e]
    simp only [List.getElem?_map]
    congr 1
    by_cases hj : j < k
    · rw [List.getElem?_append_left (by simp; omega), List.getElem?_append_left (by simp; omega), List.getElem?_take_of_lt hj, List.getElem?_take_of_lt (by omega)]
    · rw [List.getElem?_append_right (by simp; omega), List.getElem?_append_right (by simp; omega), List.getElem?_drop, List.getElem?_drop]
      congr 1
      simp; omega

theorem MD.settle {w wr : World} {tag : Nat → Nat} {base o : Nat} {s : St} {p : ML} (h : MD w tag base o s p) (hM : RMid w base s p (s.n * 64) wr) :
    MD (wr.setCell ⟨p.M, 3, none⟩ (.slice none 0 0)) tag base o s.settled { p with sv := .slice none 0 0, bs := [] } ∧ Step tag tag base o w (wr.setCell ⟨p.M, 3, none⟩ (.slice none 0 0)) := by
  have hMS : p.M ≠ p.S := fun e => by have a := h.tM.1; have b := h.tS.1; rw [e] at a; omega
  have all : ∀ {g T : Nat}, tag g = T → T ≠ 16 * o + 1 → T ≠ 16 * o + 2 → (wr.setCell ⟨p.M, 3, none⟩ (.slice none 0 0)).heap[g]? = w.heap[g]? := fun {g T} ht n1 n2 => by
    rw [heap_setCell_other _ _ g _ (fun e => n1 (by rw [← ht, show g = p.M from e]; exact h.tM.1))]
    exact hM.kept g (fun e => n2 (by rw [← ht, e]; exact h.tS.1))
  have hr : Row wr 1 p.S p.cS (s.n * 64) (bytesV s.now) := by
    have := hM.row
    rw [List.take_of_length_le (by rw [h.ok.nl]; omega), List.drop_of_length_le (by rw [h.ok.sl]; omega), List.append_nil] at this
    exact this
  constructor
  · refine ⟨?_, hr.same (heap_setCell_other _ _ _ _ (fun e => hMS e.symm)), h.rN.same (all h.tN.1 (by omega) (by omega)), win_nil _ _, h.wO.same (fun g hg => all (h.tO g hg).1 (by omega) (by omega)), rfl, (fun k hk => by simp [St.settled] at hk), h.tM, h.tS, h.tN, (fun g hg => by simp [Value.ownBlock] at hg), h.tO, (fun k hk => by simp [St.settled] at hk), h.ok.settled⟩
    have := (h.bM.same (hM.kept p.M hMS)).set 3 (.slice none 0 0)
    simpa [St.settled] using this
  · refine Step.set ?_ h.tM.2 (by have := h.tM.1; omega) 3 _
    exact ⟨hM.below, fun _ _ => rfl, fun q hq hne => hM.kept q (fun e => hne (by rw [e]; have := h.tS.1; omega))⟩

end Go.Proofs.Ytlgkndebhafliab
