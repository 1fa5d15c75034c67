/- Disks made: Clone, holding, New. -/
import Derived.Test.YtafkkehcacdodaaGreatSecSmall2
set_option maxRecDepth 100000
namespace Go.Proofs.YtafkkehcacdodaaGreat
open Go.RowKit

@[irreducible] def zeroC : Value := .agg (Array.replicate 64 (.int .u8 0))

theorem infoC : (Tryz.prog.info? 103).map (fun i => (i.zero, i.size, i.bytes)) = some (some (.agg (Array.replicate 64 (.int .u8 0))), 64, 64) := by kernel_rfl

theorem infoC' : (Tryz.prog.info? 103).map (fun i => (i.zero, i.size, i.bytes)) = some (some zeroC, 64, 64) := by
  unfold zeroC; exact infoC

theorem zeroC_cells : zeroC.cells.size = 64 := by unfold zeroC; simp [Value.cells]

theorem made_zeroC (n : Nat) : (madeCells zeroC.cells (n * 64)).toList = bytesV (zeros (n * 64)) := by
  apply List.ext_getElem?
  intro j
  unfold zeroC
  by_cases hj : j < n * 64
  · simp [madeCells, hj, Value.cells, zeros, Nat.mod_lt]
  · simp [madeCells, hj, zeros]

theorem run_equalIn_slice (d : Nat) (w : World) (a : Addr) (l c : Nat) : (Op.equalIn (d + 1) 68 (.slice (some a) l c) (.slice none 0 0)).run Tryz.prog w = .ok false w := by
  simp [Op.equalIn, run_underlying Tryz.underlying68]
theorem run_equal_slice (w : World) (a : Addr) (l c : Nat) : (Op.equal 68 (.slice (some a) l c) (.slice none 0 0)).run Tryz.prog w = .ok false w := run_equalIn_slice 9999 w a l c
theorem run_eql_slice (w : World) (a : Addr) (l c : Nat) : (binOp .eql 68 (.slice (some a) l c) (.slice none 0 0)).run Tryz.prog w = .ok (.bool false) w := by
  simp only [binOp]
  simp [run_equal_slice w a l c]

set_option maxHeartbeats 1000000 in
theorem clone_ok (w : World) (g cap n : Nat) (xs : List Value) (h : Row w 64 g cap n xs) (hn : 1 ≤ n) (hn2 : n ≤ 4096) (h1 : ∀ u ∈ xs, u.oneCell' = true) :
    Calls Tryz.prog 43 #[.slice (some ⟨g, 0, none⟩) n cap] w fun e w' => ∃ G c, e = .returned (.slice (some ⟨G, 0, none⟩) n c) ∧ w.heap.size ≤ G ∧ Row w' 64 G c n xs ∧ Below w.heap.size w w' := by
  obtain ⟨i0, hi, hz0, hz1, hz2⟩ := info_parts infoC'
  have hB : Below w.heap.size w (w.alloc (.cells #[] 103)) := below_alloc _ _
  have hown : (w.alloc (.cells #[] 103)).ownsRow w.heap.size 103 64 (.slice (some ⟨w.heap.size, 0, none⟩) 0 0) 0 [] := World.ownsRow_made w #[] 0 (Nat.le_refl _) (by decide) rfl
  have hsrc : ∀ j u, xs[j]? = some u → (w.alloc (.cells #[] 103)).cell? ((⟨g, 0, none⟩ : Addr).add j) = some u := by
    intro j u hu
    have hj : j < n * 64 := by rw [← h.1]; exact (List.getElem?_eq_some_iff.1 hu).1
    rw [add_at, Nat.zero_add]
    exact cell_later hB (by rw [h.cell j hj]; exact hu)
  obtain ⟨v', w1, hrun, ho, hg, _⟩ := run_append_own (P := Tryz.prog) (w.alloc (.cells #[] 103)) w.heap.size 68 68 103 i0 zeroC 64 64 Tryz.underlying68 hi hz0 hz1 hz2 zeroC_cells (by decide) (.slice (some ⟨w.heap.size, 0, none⟩) 0 0) 0 [] hown ⟨g, 0, none⟩ n cap xs h.1 hsrc h1 (by unfold maxLen; omega) (by omega) (by simp)
  rw [Nat.zero_add, List.nil_append] at ho
  have hbel : Below w.heap.size w w1 := hB.grown hg (by simp) (fun k hk => by simp [Value.ownBlock] at hk; omega)
  rcases ho.2 with ⟨_, h0⟩ | ⟨G, c, cur, hv, hGb, _⟩
  · omega
  subst hv
  have HR : Hid (Row w1 64 G c n xs) := row_of_owns ho
  have HB : Hid (Below w.heap.size w w1) := hbel
  have hgG : Hid (w.heap.size ≤ G) := hGb
  clear ho hg hbel hB hown hsrc h1 h hi hz0 hz1 hz2 hGb
  have heq := run_eql_slice
  go_enter Tryz.func43, Tryz.ntmps43
  go_wp2_with (at_builtin; refine wpl_append_run rfl _ _ 68 rfl _ _ rfl rfl hrun ?_)
  go_ret
  exact ⟨G, c, rfl, hgG.out, HR.out, HB.out⟩

/-- Tags of a new disk's blocks. -/
def tagP (tag : Nat → Nat) (N o D Q C L : Nat) : Nat → Nat := fun k => if k < N then tag k else if k = D then 16 * o + 1 else if k = Q then 16 * o + 2 else if k = C then 16 * o + 3 else if k = L then 16 * o + 4 else 0

set_option maxHeartbeats 1000000 in
theorem holding_ok (w0 w : World) (tag : Nat → Nat) (base o : Nat) (g cap n : Nat) (l : List Int) (hbase : base ≤ w0.heap.size) (hw : Below w0.heap.size w0 w) (hg : w0.heap.size ≤ g) (h : Row w 64 g cap n (bytesV l)) (hn : 1 ≤ n) (hn2 : n ≤ 4096) (hl : isBytes l) :
    Calls Tryz.prog 28 #[.slice (some ⟨g, 0, none⟩) n cap] w fun e w' => ∃ p tag', e = .returned (.pointer (some ⟨p.D, 0, none⟩)) ∧ PD w' tag' base o ⟨n, l, l, [], [], 0⟩ p ∧ (∀ k, k < w0.heap.size → tag' k = tag k) ∧ Below w0.heap.size w0 w' := by
  have hl' : l.length = n * 64 := by simpa using h.1
  have HL : Hid (l.length = n * 64) := hl'
  have HR : Hid (Row w 64 g cap n (bytesV l)) := h
  have HW : Hid (Below w0.heap.size w0 w) := hw
  have hR1 : Row (w.alloc (.cells #[.slice none 0 0, .int .i64 0] 129)) 64 g cap n (bytesV l) := h.later (below_alloc _ _)
  have HC := clone_ok _ g cap n (bytesV l) hR1 hn hn2 (ones_bytes l)
  clear hR1 hl' h hw
  go_enter Tryz.func28, Tryz.ntmps28
  go_wp2_with (go_at_call 43; refine HC.mono ?_; rintro e w3 ⟨G, c, rfl, hG, hRG, hB⟩)
  go_ret
  have hs0 := HW.out.size
  have hgl := HR.out.lt
  have hGl := hRG.lt
  have hB' : Below w.heap.size w w3 := (below_alloc w _).trans (hB.mono (by simp))
  have hs3 := hB'.size
  have hs4 := hB.size
  rw [World.size_alloc] at hG hs4
  refine ⟨⟨w3.heap.size, w.heap.size, g, G, cap, c, .slice none 0 0, .slice none 0 0⟩, tagP tag w0.heap.size o w3.heap.size w.heap.size g G, rfl, ?_, fun k hk => by simp [tagP, hk], (HW.out.trans (hB'.mono hs0)).alloc (by omega) _⟩
  have hb4 := below_alloc w3 (.cells #[.pointer (some ⟨w.heap.size, 0, none⟩), .func (.func 67) #[.pointer (some ⟨w.heap.size, 0, none⟩)] #[], .slice (some ⟨g, 0, none⟩) n cap, .slice (some ⟨G, 0, none⟩) n c, .slice none 0 0] 100)
  refine ⟨blk_new w3 _ _, ((blk_new w _ _).later hB).later hb4, (HR.out.later hB').later hb4, hRG.later hb4, win_nil _ _, win_nil _ _, ⟨?_, ?_⟩, ⟨?_, ?_⟩, ⟨?_, ?_⟩, ⟨?_, ?_⟩, fun g hg => by simp [Value.ownBlock] at hg, fun g hg => by simp [Value.ownBlock] at hg, ⟨hn, hn2, HL.out, HL.out, hl, hl, isBytes_nil, (fun x hx => by cases hx), rfl⟩⟩
  all_goals first
    | (show base ≤ _; dsimp only; omega)
    | (show tagP _ _ _ _ _ _ _ _ = _; dsimp only; unfold tagP; repeat (first | rw [if_pos rfl] | rw [if_neg (by omega)]))

set_option maxHeartbeats 400000 in
theorem new_no (w : World) (n : Int) (h : n < 1 ∨ 4096 < n) : Calls Tryz.prog 7 #[.int .i64 n] w fun e w' => e = .returned (.tuple #[.pointer none, .int .i64 1]) ∧ w' = w := by
  rcases h with h | h
  · go_enter Tryz.func7, Tryz.ntmps7
    go_wp2
    go_ret2
    exact ⟨rfl, rfl⟩
  · have h' : ¬ n < 1 := by omega
    go_enter Tryz.func7, Tryz.ntmps7
    go_wp2
    go_ret2
    exact ⟨rfl, rfl⟩

set_option maxHeartbeats 1000000 in
theorem new_ok (w : World) (tag : Nat → Nat) (base o n : Nat) (hbase : base ≤ w.heap.size) (h1 : 1 ≤ n) (h2 : n ≤ 4096) :
    Calls Tryz.prog 7 #[.int .i64 n] w fun e w' => ∃ p tag', e = .returned (.tuple #[.pointer (some ⟨p.D, 0, none⟩), .int .i64 0]) ∧ PD w' tag' base o (St.new n) p ∧ (∀ k, k < w.heap.size → tag' k = tag k) ∧ Below w.heap.size w w' := by
  obtain ⟨i0, hi, hz0, hz1, hz2⟩ := info_parts infoC'
  have h3 : ¬ (n : Int) < 1 := by omega
  have h4 : ¬ (4096 : Int) < n := by omega
  go_enter Tryz.func7, Tryz.ntmps7
  go_wp2_with (first
    | (at_make; refine wpList_make_full _ rfl _ _ 68 rfl w.heap.size 103 i0 zeroC 64 Tryz.underlying68 hi hz0 hz1 .i64 .i64 _ _ n rfl rfl rfl rfl (by rw [hz2]; omega) (by unfold maxLen; omega) (Nat.le_refl _) ?_; intro w1 hown hgrow)
    | (go_at_call 28; refine (holding_ok w w1 tag base o w.heap.size n n (zeros (n * 64)) hbase ((Below.refl _ _).grown hgrow (Nat.le_refl _) (fun k hk => by cases hk)) (Nat.le_refl _) (by have := row_of_owns hown; rwa [made_zeroC] at this) h1 h2 (isBytes_zeros _)).mono ?_; rintro e w2 ⟨p, tag', rfl, hP, hT, hB⟩))
  go_ret2
  exact ⟨p, tag', rfl, hP, hT, hB⟩

end Go.Proofs.YtafkkehcacdodaaGreat
