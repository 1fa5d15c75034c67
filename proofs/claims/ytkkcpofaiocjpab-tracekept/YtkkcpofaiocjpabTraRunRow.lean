/- A row of runs in memory. -/
import Derived.Test.YtkkcpofaiocjpabTraRunMath
import Derived.Test.YtkkcpofaiocjpabTraRows
set_option maxRecDepth 100000
namespace Go.Proofs.Ytkkcpofaiocjpab
open Go.RowKit Go.Shelf

def ruC (r : Ru) : List Value := [.int .u32 r.sub, .int .i64 r.frm, .int .i64 r.til, .int .i64 r.lat]

theorem ruC_length (r : Ru) : (ruC r).length = 4 := rfl

abbrev RuRow (w : World) (base : Nat) (v : Value) (l : List Ru) : Prop := w.ownsRow base 66 4 v l.length (l.flatMap ruC)

theorem infoRu : (Try.prog.info? 66).map (fun i => (i.zero, i.size, i.bytes)) = some (some (.agg #[.int .u32 0, .int .i64 0, .int .i64 0, .int .i64 0]), 4, 32) := by kernel_rfl

theorem ruRow_at {w : World} {base g cap n : Nat} {l : List Ru} (h : w.ownsRow base 66 4 (.slice (some ⟨g, 0, none⟩) n cap) n (l.flatMap ruC)) (hn : l.length = n) {i : Nat} {r : Ru} (hr : l[i]? = some r) :
    w.cell? ⟨g, i * 4, none⟩ = some (.int .u32 r.sub) ∧ w.cell? ⟨g, i * 4 + 1, none⟩ = some (.int .i64 r.frm) ∧ w.cell? ⟨g, i * 4 + 2, none⟩ = some (.int .i64 r.til) ∧ w.cell? ⟨g, i * 4 + 3, none⟩ = some (.int .i64 r.lat) := by
  have hi : i < n := by rw [← hn]; exact (List.getElem?_eq_some_iff.1 hr).1
  have hk : ∀ j, j < 4 → w.cell? ⟨g, i * 4 + j, none⟩ = (ruC r)[j]? := fun j hj => by
    rw [ownsRow_cell h (i * 4 + j) (by omega)]
    exact flat_get ruC_length hr hj
  exact ⟨hk 0 (by omega), hk 1 (by omega), hk 2 (by omega), hk 3 (by omega)⟩

/-- A run's end is stored. -/
theorem ruRow_til {w : World} {base g cap n : Nat} {l : List Ru} (h : w.ownsRow base 66 4 (.slice (some ⟨g, 0, none⟩) n cap) n (l.flatMap ruC)) {i : Nat} {r : Ru} (hr : l[i]? = some r) (x : Int) :
    (w.setCell ⟨g, i * 4 + 2, none⟩ (.int .i64 x)).ownsRow base 66 4 (.slice (some ⟨g, 0, none⟩) n cap) n ((l.set i { r with til := x }).flatMap ruC) := by
  have := ownsRow_set h (i * 4 + 2) (.int .i64 x)
  have e : (l.set i { r with til := x }).flatMap ruC = (l.flatMap ruC).set (i * 4 + 2) (.int .i64 x) := by
    obtain ⟨hi, ei⟩ := List.getElem?_eq_some_iff.1 hr
    apply List.ext_getElem?
    intro j
    have hlen := flat_length ruC_length l
    by_cases hj : j < l.length * 4
    · have hj4 : j = j / 4 * 4 + j % 4 := by omega
      have hm : j % 4 < 4 := by omega
      have hq : j / 4 < l.length := by omega
      rw [hj4]
      generalize j / 4 = a at *
      generalize j % 4 = b at *
      have hset : (l.set i { r with til := x })[a]? = some (if i = a then { r with til := x } else l[a]) := by
        rw [List.getElem?_set]
        split
        · rename_i e; subst e; simp
        · exact List.getElem?_eq_getElem hq
      rw [flat_get ruC_length hset hm, List.getElem?_set, flat_get ruC_length (List.getElem?_eq_getElem hq) hm, hlen]
      by_cases e1 : i = a
      · subst e1
        rw [if_pos rfl]
        by_cases e2 : b = 2
        · subst e2
          rw [if_pos rfl, if_pos (by omega)]
          rfl
        · rw [if_neg (by omega), ei]
          match b, hm, e2 with
          | 0, _, _ => rfl
          | 1, _, _ => rfl
          | 3, _, _ => rfl
      · rw [if_neg e1, if_neg (by omega)]
    · rw [List.getElem?_eq_none (by rw [flat_length ruC_length, List.length_set]; omega), List.getElem?_eq_none (by rw [List.length_set, hlen]; omega)]
  rw [e]
  exact this

/-- One run behind a row of the call's own. -/
theorem append_ru (W : World) (base : Nat) (v : Value) (l : List Ru) (s f t : Int) (hv : RuRow W base v l) (hbase : base ≤ W.heap.size) (hlen : l.length ≤ 1000000) :
    ∃ v' w', (Builtin.append_ #[47, 47] 47 #[v, .slice (some ⟨W.heap.size, 0, none⟩) 1 1]).run Try.prog (W.alloc (.cells #[.int .u32 s, .int .i64 f, .int .i64 t, .int .i64 0] 66)) = .ok v' w' ∧
      RuRow w' base v' (l ++ [⟨s, f, t, 0⟩]) ∧ (W.alloc (.cells #[.int .u32 s, .int .i64 f, .int .i64 t, .int .i64 0] 66)).grownBy w' v.ownBlock ∧ Below base W w' := by
  obtain ⟨i0, hi, hz0, hz1, hz2⟩ := info_parts infoRu
  have hown2 := World.ownsRow.alloc hv (.cells #[.int .u32 s, .int .i64 f, .int .i64 t, .int .i64 0] 66)
  obtain ⟨v', w', hr, ho, hg, -⟩ := run_append_own (P := Try.prog) (W.alloc (.cells #[.int .u32 s, .int .i64 f, .int .i64 t, .int .i64 0] 66)) base 47 47 66 i0 (.agg #[.int .u32 0, .int .i64 0, .int .i64 0, .int .i64 0]) 4 32 Try.underlying47 hi hz0 hz1 hz2 rfl (by decide) v l.length (l.flatMap ruC) hown2
    ⟨W.heap.size, 0, none⟩ 1 1 (ruC ⟨s, f, t, 0⟩) rfl (by
      intro j u hj
      rw [add_at, Nat.zero_add, (blk_new W _ _).cell]
      exact hj) (by
      intro u hu
      unfold ruC at hu
      simp at hu
      rcases hu with rfl | rfl | rfl | rfl <;> rfl) (by unfold maxLen; omega) (by omega) (by simp; omega)
  refine ⟨v', w', hr, ?_, hg, ((Below.refl _ _).alloc hbase _).grown hg (by simp; omega) (fun k hk => (hv.lt k hk).1)⟩
  show w'.ownsRow base _ 4 v' (l ++ [_]).length ((l ++ [_]).flatMap ruC)
  rw [List.flatMap_append, List.length_append]
  simpa using ho

end Go.Proofs.Ytkkcpofaiocjpab
