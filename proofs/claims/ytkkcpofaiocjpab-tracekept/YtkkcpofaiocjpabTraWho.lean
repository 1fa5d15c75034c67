/- trace.Who: of any spans and any question. -/
import Derived.Test.YtkkcpofaiocjpabTraSortF
set_option maxRecDepth 100000
namespace Go.Proofs.Ytkkcpofaiocjpab
open Go.RowKit Go.Shelf Go.Sort Go.Lib

theorem infoU : (Try.prog.info? 23).map (fun i => (i.zero, i.size, i.bytes)) = some (some (.int .u32 0), 1, 4) := by kernel_rfl

/-- One subscriber behind a row of the call's own. -/
theorem append_u (W : World) (base : Nat) (v : Value) (l : List Int) (x : Int) (hv : URow W base v l) (hbase : base ≤ W.heap.size) (hlen : l.length ≤ 1000000) :
    ∃ v' w', (Builtin.append_ #[27, 27] 27 #[v, .slice (some ⟨W.heap.size, 0, none⟩) 1 1]).run Try.prog (W.alloc (.cells #[.int .u32 x] 23)) = .ok v' w' ∧ URow w' base v' (l ++ [x]) ∧ Below base W w' := by
  obtain ⟨i0, hi, hz0, hz1, hz2⟩ := info_parts infoU
  have hown2 := World.ownsRow.alloc hv (.cells #[.int .u32 x] 23)
  obtain ⟨v', w', hr, ho, hg, -⟩ := run_append_own (P := Try.prog) (W.alloc (.cells #[.int .u32 x] 23)) base 27 27 23 i0 (.int .u32 0) 1 4 Try.underlying27 hi hz0 hz1 hz2 rfl (by decide) v l.length (l.map (Value.int .u32)) hown2
    ⟨W.heap.size, 0, none⟩ 1 1 [.int .u32 x] rfl (by
      intro j u hj
      rw [add_at, Nat.zero_add, (blk_new W _ _).cell]
      exact hj) (by intro u hu; simp at hu; subst hu; rfl) (by unfold maxLen; omega) (by omega) (by simp; omega)
  refine ⟨v', w', hr, ?_, ((Below.refl _ _).alloc hbase _).grown hg (by simp; omega) (fun k hk => (hv.lt k hk).1)⟩
  show w'.ownsRow base _ 1 v' (l ++ [x]).length ((l ++ [x]).map _)
  rw [List.map_append, List.length_append]
  simpa using ho

/-- What slices.Sort does to a row of at most N subscribers. -/
def SortU (N : Nat) : Prop := ∀ (W : World) (base : Nat) (v : Value) (l : List Int), URow W base v l → (∀ x ∈ l, OkU x) → l.length ≤ N →
  Calls Try.prog 25 #[v] W fun e w' => e = .returned (.tuple #[]) ∧ ∃ r : List Int, r.Perm l ∧ r.Pairwise (· ≤ ·) ∧ URow w' base v r ∧ Below base W w'

theorem sortU_one : SortU 1 := by
  intro W base v l h _ hl
  obtain ⟨a, cap, rfl, h1, h2, h3⟩ := ownsRow_shape h
  have HL := fun (W' : World) => Any.bits_Len Try.bitsLen (l.length : Int) W' (by omega) (by omega)
  change ∀ W', Calls Try.prog 27 _ _ _ at HL
  have hup : l.Pairwise (· ≤ ·) := by
    match l, hl with
    | [], _ => exact List.Pairwise.nil
    | [x], _ => simp
  have HR : Hid (URow W base (.slice a l.length cap) l) := h
  generalize hn : l.length = n at *
  have hwn : IntKind.u64.wrap (n : Int) = (n : Int) := by simp [IntKind.wrap, IntKind.bits, IntKind.signed]; omega
  have hnI : (n : Int) ≤ 12 := by omega
  have hn1 : ¬ (1 : Int) < (n : Int) := by omega
  generalize hB : (Lib.bitLen (n : Int).toNat : Int) = bl at *
  have HI : ∀ W', Calls Try.prog 41 #[.slice a n cap, .int .i64 0, .int .i64 n] W' fun e w' => e = .returned (.tuple #[]) ∧ w' = W' := fun W' => by
    go_enter Try.func41, Try.ntmps41
    go_wp2
    go_loopg [6] 0 (fun gk i wr => i = .int .i64 1 ∧ W' = wr)
    case atStart => exact ⟨rfl, rfl⟩
    case round =>
      obtain ⟨rfl, rfl⟩ := hrel
      go_wp2
      refine bodyPost_end (results_none rfl _ _ _) rfl ?_
      exact ⟨rfl, rfl⟩
  have HP : ∀ W', Calls Try.prog 30 #[.slice a n cap, .int .i64 0, .int .i64 n, .int .i64 bl] W' fun e w' => e = .returned (.tuple #[]) ∧ w' = W' := fun W' => by
    go_enter Try.func30, Try.ntmps30
    go_wp2
    go_loopg [1, 2] 0 (fun gk i j wr => i = .int .i64 0 ∧ j = .int .i64 (n : Int) ∧ W' = wr)
    case atStart => exact ⟨rfl, rfl, rfl⟩
    case round =>
      obtain ⟨rfl, rfl, rfl⟩ := hrel
      go_wp2_with (go_at_call 41; refine (HI _).mono ?_; rintro e w1 ⟨rfl, h1⟩; have h1 := h1.symm; subst h1)
      refine bodyPost_ret (results_none rfl _ _ _) rfl ?_
      exact ⟨rfl, rfl⟩
  go_enter Try.func25, Try.ntmps25
  go_wp2_with (first
    | (go_at_call 27; refine (HL _).mono ?_; rintro e w1 ⟨rfl, h1⟩; have h1 := h1.symm; subst h1)
    | (go_at_call 30; refine (HP _).mono ?_; rintro e w1 ⟨rfl, h1⟩; have h1 := h1.symm; subst h1))
  refine bodyPost_end (results_none rfl _ _ _) rfl ?_
  refine ⟨rfl, l, List.Perm.refl _, hup, ?_, Below.refl _ _⟩
  have := HR.out
  rw [hn] at *
  exact this

/-! ### slices.Compact of a row in order -/
theorem compact_facts (d : Array Int) (hup : ∀ i j, i < j → j < d.size → d[i]! ≤ d[j]!) : ∀ m, m ≤ d.size → (compactUpTo d m).Pairwise (· < ·) ∧ (∀ x, x ∈ compactUpTo d m ↔ ∃ j, j < m ∧ d[j]! = x) ∧ ∀ x ∈ compactUpTo d m, x ≤ d[m - 1]! := by
  intro m
  induction m with
  | zero => intro _; exact ⟨by simp [compactUpTo], fun x => by simp [compactUpTo], fun x hx => by simp [compactUpTo] at hx⟩
  | succ m ih =>
    intro hm
    obtain ⟨h1, h2, h3⟩ := ih (by omega)
    rw [compactUpTo_succ]
    rw [Nat.add_sub_cancel]
    have hle : ∀ x ∈ compactUpTo d m, x ≤ d[m]! := fun x hx => by
      obtain ⟨j, hj, rfl⟩ := (h2 x).1 hx
      exact hup j m hj (by omega)
    by_cases hk : keeps d m = true
    · rw [if_pos hk]
      have hlt : ∀ x ∈ compactUpTo d m, x < d[m]! := fun x hx => by
        have e1 := h3 x hx
        have hm0 : 0 < m := by
          rcases Nat.eq_zero_or_pos m with h0 | h0
          · subst h0; simp [compactUpTo] at hx
          · exact h0
        have hne : d[m]! ≠ d[m - 1]! := by
          unfold keeps at hk
          simp at hk
          omega
        have := hup (m - 1) m (by omega) (by omega)
        omega
      refine ⟨?_, fun x => ?_, fun x hx => ?_⟩
      · rw [List.pairwise_append]
        exact ⟨h1, by simp, fun x hx y hy => by rw [List.mem_singleton.1 hy]; exact hlt x hx⟩
      · rw [List.mem_append, List.mem_singleton, h2]
        constructor
        · rintro (⟨j, hj, rfl⟩ | rfl)
          · exact ⟨j, by omega, rfl⟩
          · exact ⟨m, by omega, rfl⟩
        · rintro ⟨j, hj, rfl⟩
          by_cases e : j = m
          · subst e; exact .inr rfl
          · exact .inl ⟨j, by omega, rfl⟩
      · rcases List.mem_append.1 hx with hx | hx
        · exact hle x hx
        · rw [List.mem_singleton.1 hx]; exact Int.le_refl _
    · rw [if_neg hk, List.append_nil]
      have hsame : 0 < m ∧ d[m]! = d[m - 1]! := by
        unfold keeps at hk
        simp at hk
        omega
      refine ⟨h1, fun x => ?_, hle⟩
      rw [h2]
      constructor
      · rintro ⟨j, hj, rfl⟩; exact ⟨j, by omega, rfl⟩
      · rintro ⟨j, hj, rfl⟩
        by_cases e : j = m
        · subst e; exact ⟨j - 1, by omega, hsame.2.symm⟩
        · exact ⟨j, by omega, rfl⟩

theorem ownsRow_cut {w : World} {base size : Nat} {e : TypeId} {n cap g m : Nat} {xs : List Value} (h : w.ownsRow base e size (.slice (some ⟨g, 0, none⟩) n cap) n xs) (hm : m ≤ n) : w.ownsRow base e size (.slice (some ⟨g, 0, none⟩) m cap) m (xs.take (m * size)) := by
  have hms : m * size ≤ n * size := Nat.mul_le_mul_right _ hm
  refine ⟨by rw [List.length_take, h.1]; omega, ?_⟩
  rcases h.2 with ⟨hn, _⟩ | ⟨g', cap', cur, hv, h1, h2, h3, h4, h5, h6⟩
  · cases hn
  · injection hv with ha _ hc
    injection ha with ha
    injection ha with hg
    subst hg
    subst hc
    exact .inr ⟨g, cap, cur, rfl, h1, h2, by omega, h4, h5, by rw [← h6, List.take_take]; congr 1; omega⟩

theorem putRow_enc (w : World) (blk off : Nat) (d : Array Int) : putRow (Value.int .u32) w blk off d = putRow id w blk off (d.map (Value.int .u32)) := by
  unfold putRow
  congr 1
  funext c
  unfold putCells
  apply Array.ext
  · simp
  · intro i h1 h2
    simp only [Array.getElem_mapIdx, Array.size_map]
    split
    · rename_i hi
      rw [getElem!_pos _ (i - off) (by omega), getElem!_pos _ (i - off) (by simp; omega)]
      simp
    · rfl

/-! ### trace.Who -/
theorem subsAt_take {l : List Sp} {t : Nat} {s : Sp} (hs : l[t]? = some s) (a k tt : Int) : subsAt (l.take (t + 1)) a k tt = subsAt (l.take t) a k tt ++ if hit s a k tt = true then [s.sub] else [] := by
  rw [List.take_add_one, hs]
  unfold subsAt
  rw [List.filter_append, List.map_append]
  congr 1
  cases hh : hit s a k tt <;> simp [hh]

theorem hit_end {s : Sp} {a k t : Int} (ht : t ≤ 9223372036854775807) : hit s a k t = (s.here a k && decide (s.frm ≤ t) && decide (t ≤ endS s)) := by
  unfold hit
  congr 1
  unfold endS
  cases s.opn <;> simp [ht]

end Go.Proofs.Ytkkcpofaiocjpab
