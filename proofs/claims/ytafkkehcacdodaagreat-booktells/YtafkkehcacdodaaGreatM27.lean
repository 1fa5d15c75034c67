/- slices.SortFunc of a row of spans, by their beginnings. -/
import Derived.Test.YtafkkehcacdodaaGreatM24
import Derived.Test.YtafkkehcacdodaaGreatSpShelf
set_option maxRecDepth 100000
namespace Go.Proofs.YtafkkehcacdodaaGreat
open Go.RowKit Go.Shelf Go.Sort

/-- How two numbers stand. -/
def cmpT (x y : Int) : Int := if x < y then -1 else if y < x then 1 else 0

theorem ltOf_cmp (x y : Sp) : ltOf (fun x y : Sp => cmpT x.frm y.frm) x y = decide (x.frm < y.frm) := by
  unfold ltOf cmpT
  by_cases h1 : x.frm < y.frm
  · simp [h1]
  · by_cases h2 : y.frm < x.frm <;> simp [h1, h2]

theorem swo_cmp : SWO (ltOf fun x y : Sp => cmpT x.frm y.frm) where
  irrefl x := by rw [ltOf_cmp]; simp
  trans x y z h1 h2 := by rw [ltOf_cmp] at *; simp at *; omega
  ntrans x y z h1 h2 := by rw [ltOf_cmp] at *; simp at *; omega

/-- A row of the call's own, laid anew. -/
theorem ownsRow_put {W : World} {base g n cap size m : Nat} {e : TypeId} {xs : List Value} {os : Array Obj} (h : W.ownsRow base e size (.slice (some ⟨g, 0, none⟩) n cap) n xs) (F : Array Value) (hF : F.size = n * size) :
    (grow (putRow id (Sort.ahead W m) g 0 F) os).ownsRow base e size (.slice (some ⟨g, 0, none⟩) n cap) n F.toList := by
  refine ⟨by simp [hF], ?_⟩
  rcases h.2 with ⟨hn, _⟩ | ⟨g', cap', cur, hv, h1, h2, h3, h4, h5, h6⟩
  · cases hn
  · injection hv with ha _ hc
    injection ha with ha
    injection ha with hg
    subst hg
    subst hc
    have hgl : g < W.heap.size := (Array.getElem?_eq_some_iff.1 h2).1
    have hsz : n * size ≤ cap * size := Nat.mul_le_mul_right _ h3
    refine .inr ⟨g, cap, putCells id 0 F cur, rfl, h1, ?_, h3, h4, by simp [putCells, h5], ?_⟩
    · rw [heap_grow_old _ _ (by simpa using hgl)]
      simp [putRow, mapBlock, Sort.ahead, Array.getElem?_modify, h2, onCells]
    · apply List.ext_getElem?
      intro j
      by_cases hj : j < n * size
      · have hjF : j < F.size := by omega
        rw [List.getElem?_take_of_lt hj, Array.getElem?_toList, Array.getElem?_toList]
        simp [putCells, hjF, show j < cur.size by omega]
      · rw [List.getElem?_take_eq_none (by omega), List.getElem?_eq_none (by simp [hF]; omega)]

theorem grown_put {W : World} {g m : Nat} {os : Array Obj} (F : Array Value) : W.grownBy (grow (putRow id (Sort.ahead W m) g 0 F) os) (some g) := by
  refine ⟨rfl, rfl, rfl, by simp, fun k hk hne => ?_⟩
  rw [heap_grow_old _ _ (by simpa using hk)]
  have : g ≠ k := fun e => hne (by rw [e])
  simp [putRow, mapBlock, Sort.ahead, Array.getElem?_modify, this]

theorem flatK_list (l : List Sp) : (flatK spC 6 l.toArray).toList = l.flatMap spC := by
  apply List.ext_getElem?
  intro j
  have hl := flat_length spC_length l
  have hs : (flatK spC 6 l.toArray).size = l.length * 6 := by simp
  by_cases hj : j < l.length * 6
  · rw [Array.getElem?_toList, Array.getElem?_eq_getElem (by omega)]
    have h1 := get_flatK spC 6 l.toArray j (by simpa using hj)
    rw [getElem!_pos _ j (by omega)] at h1
    rw [h1]
    have hi : j / 6 < l.length := by omega
    have h2 := flat_get spC_length (l := l) (i := j / 6) (j := j % 6) (List.getElem?_eq_getElem hi) (Nat.mod_lt _ (by decide))
    rw [show j / 6 * 6 + j % 6 = j by omega] at h2
    rw [h2, List.getElem?_eq_getElem (by rw [spC_length]; exact Nat.mod_lt _ (by decide))]
    congr 1
    rw [getElem!_pos (l.toArray) (j / 6) (by simpa using hi), getElem!_pos (spC _) (j % 6) (by rw [spC_length]; exact Nat.mod_lt _ (by decide))]
    rfl
  · rw [Array.getElem?_toList, Array.getElem?_eq_none (by omega), List.getElem?_eq_none (by omega)]

end Go.Proofs.YtafkkehcacdodaaGreat

namespace Go.Proofs.YtafkkehcacdodaaGreat
open Go.RowKit Go.Shelf Go.Sort Go.Lib

theorem infoU : (Tryz.prog.info? 38).map (fun i => (i.zero, i.size, i.bytes)) = some (some (.int .u32 0), 1, 4) := by kernel_rfl

/-- One subscriber behind a row of the call's own. -/
theorem append_u (W : World) (base : Nat) (v : Value) (l : List Int) (x : Int) (hv : URow W base v l) (hbase : base ≤ W.heap.size) (hlen : l.length ≤ 1000000) :
    ∃ v' w', (Builtin.append_ #[114, 114] 114 #[v, .slice (some ⟨W.heap.size, 0, none⟩) 1 1]).run Tryz.prog (W.alloc (.cells #[.int .u32 x] 38)) = .ok v' w' ∧ URow w' base v' (l ++ [x]) ∧ Below base W w' := by
  obtain ⟨i0, hi, hz0, hz1, hz2⟩ := info_parts infoU
  have hown2 := World.ownsRow.alloc hv (.cells #[.int .u32 x] 38)
  obtain ⟨v', w', hr, ho, hg, -⟩ := run_append_own (P := Tryz.prog) (W.alloc (.cells #[.int .u32 x] 38)) base 114 114 38 i0 (.int .u32 0) 1 4 Tryz.underlying114 hi hz0 hz1 hz2 rfl (by decide) v l.length (l.map (Value.int .u32)) hown2
    ⟨W.heap.size, 0, none⟩ 1 1 [.int .u32 x] rfl (by
      intro j u hj
      rw [add_at, Nat.zero_add, (blk_new W _ _).cell]
      exact hj) (by intro u hu; simp at hu; subst hu; rfl) (by unfold maxLen; omega) (by omega) (by simp; omega)
  refine ⟨v', w', hr, ?_, ((Below.refl _ _).alloc hbase _).grown hg (by simp; omega) (fun k hk => (hv.lt k hk).1)⟩
  show w'.ownsRow base _ 1 v' (l ++ [x]).length ((l ++ [x]).map _)
  rw [List.map_append, List.length_append]
  simpa using ho

/-- What slices.Sort does to a row of at most N subscribers. -/
def SortU (N : Nat) : Prop := ∀ (W : World) (base : Nat) (v : Value) (l : List Int), URow W base v l → (∀ x ∈ l, OkU x) → l.length ≤ N →
  Calls Tryz.prog 92 #[v] W fun e w' => e = .returned (.tuple #[]) ∧ ∃ r : List Int, r.Perm l ∧ r.Pairwise (· ≤ ·) ∧ URow w' base v r ∧ Below base W w'

theorem sortU_one : SortU 1 := by
  intro W base v l h _ hl
  obtain ⟨a, cap, rfl, h1, h2, h3⟩ := ownsRow_shape h
  have HL := fun (W' : World) => Any.bits_Len Tryz.bitsLen (l.length : Int) W' (by omega) (by omega)
  change ∀ W', Calls Tryz.prog 114 _ _ _ at HL
  have hup : l.Pairwise (· ≤ ·) := by
    match l, hl with
    | [], _ => exact List.Pairwise.nil
    | [x], _ => simp
  have HR : Hid (URow W base (.slice a l.length cap) l) := h
  generalize hn : l.length = n at *
  have hwn : IntKind.u64.wrap (n : Int) = (n : Int) := by simp [IntKind.wrap, IntKind.bits, IntKind.signed]; omega
  have hnI : (n : Int) ≤ 12 := by omega
  have hn1 : ¬ (1 : Int) < (n : Int) := by omega
  generalize hB : (Lib.bitLen (n : Int).toNat : Int) = bl at *
  have HI : ∀ W', Calls Tryz.prog 130 #[.slice a n cap, .int .i64 0, .int .i64 n] W' fun e w' => e = .returned (.tuple #[]) ∧ w' = W' := fun W' => by
    go_enter Tryz.func130, Tryz.ntmps130
    go_wp2
    go_loopg [6] 0 (fun gk i wr => i = .int .i64 1 ∧ W' = wr)
    case atStart => exact ⟨rfl, rfl⟩
    case round =>
      obtain ⟨rfl, rfl⟩ := hrel
      go_wp2
      refine bodyPost_end (results_none rfl _ _ _) rfl ?_
      exact ⟨rfl, rfl⟩
  have HP : ∀ W', Calls Tryz.prog 113 #[.slice a n cap, .int .i64 0, .int .i64 n, .int .i64 bl] W' fun e w' => e = .returned (.tuple #[]) ∧ w' = W' := fun W' => by
    go_enter Tryz.func113, Tryz.ntmps113
    go_wp2
    go_loopg [1, 2] 0 (fun gk i j wr => i = .int .i64 0 ∧ j = .int .i64 (n : Int) ∧ W' = wr)
    case atStart => exact ⟨rfl, rfl, rfl⟩
    case round =>
      obtain ⟨rfl, rfl, rfl⟩ := hrel
      go_wp2_with (go_at_call 130; refine (HI _).mono ?_; rintro e w1 ⟨rfl, h1⟩; have h1 := h1.symm; subst h1)
      refine bodyPost_ret (results_none rfl _ _ _) rfl ?_
      exact ⟨rfl, rfl⟩
  go_enter Tryz.func92, Tryz.ntmps92
  go_wp2_with (first
    | (go_at_call 114; refine (HL _).mono ?_; rintro e w1 ⟨rfl, h1⟩; have h1 := h1.symm; subst h1)
    | (go_at_call 113; refine (HP _).mono ?_; rintro e w1 ⟨rfl, h1⟩; have h1 := h1.symm; subst h1))
  refine bodyPost_end (results_none rfl _ _ _) rfl ?_
  refine ⟨rfl, l, List.Perm.refl _, hup, ?_, Below.refl _ _⟩
  have := HR.out
  rw [hn] at *
  exact this

/-! ### slices.Compact of a row in order -/
theorem compact_facts (d : Array Int) (hup : ∀ i j, i < j → j < d.size → d[i]! ≤ d[j]!) : ∀ m, m ≤ d.size → (compactUpTo d m).Pairwise (· < ·) ∧ (∀ x, x ∈ compactUpTo d m ↔ ∃ j, j < m ∧ d[j]! = x) ∧ ∀ x ∈ compactUpTo d m, x ≤ d[m - 1]! := by
  intro m
  induction m with
  | zero => intro _; exact ⟨by simp [compactUpTo], fun x => by simp [compactUpTo], fun x hx => by simp [compactUpTo] at hx⟩
  | succ m ih =>
    intro hm
    obtain ⟨h1, h2, h3⟩ := ih (by omega)
    rw [compactUpTo_succ]
    rw [Nat.add_sub_cancel]
    have hle : ∀ x ∈ compactUpTo d m, x ≤ d[m]! := fun x hx => by
      obtain ⟨j, hj, rfl⟩ := (h2 x).1 hx
      exact hup j m hj (by omega)
    by_cases hk : keeps d m = true
    · rw [if_pos hk]
      have hlt : ∀ x ∈ compactUpTo d m, x < d[m]! := fun x hx => by
        have e1 := h3 x hx
        have hm0 : 0 < m := by
          rcases Nat.eq_zero_or_pos m with h0 | h0
          · subst h0; simp [compactUpTo] at hx
          · exact h0
        have hne : d[m]! ≠ d[m - 1]! := by
          unfold keeps at hk
          simp at hk
          omega
        have := hup (m - 1) m (by omega) (by omega)
        omega
      refine ⟨?_, fun x => ?_, fun x hx => ?_⟩
      · rw [List.pairwise_append]
        exact ⟨h1, by simp, fun x hx y hy => by rw [List.mem_singleton.1 hy]; exact hlt x hx⟩
      · rw [List.mem_append, List.mem_singleton, h2]
        constructor
        · rintro (⟨j, hj, rfl⟩ | rfl)
          · exact ⟨j, by omega, rfl⟩
          · exact ⟨m, by omega, rfl⟩
        · rintro ⟨j, hj, rfl⟩
          by_cases e : j = m
          · subst e; exact .inr rfl
          · exact .inl ⟨j, by omega, rfl⟩
      · rcases List.mem_append.1 hx with hx | hx
        · exact hle x hx
        · rw [List.mem_singleton.1 hx]; exact Int.le_refl _
    · rw [if_neg hk, List.append_nil]
      have hsame : 0 < m ∧ d[m]! = d[m - 1]! := by
        unfold keeps at hk
        simp at hk
        omega
      refine ⟨h1, fun x => ?_, hle⟩
      rw [h2]
      constructor
      · rintro ⟨j, hj, rfl⟩; exact ⟨j, by omega, rfl⟩
      · rintro ⟨j, hj, rfl⟩
        by_cases e : j = m
        · subst e; exact ⟨j - 1, by omega, hsame.2.symm⟩
        · exact ⟨j, by omega, rfl⟩

theorem ownsRow_cut {w : World} {base size : Nat} {e : TypeId} {n cap g m : Nat} {xs : List Value} (h : w.ownsRow base e size (.slice (some ⟨g, 0, none⟩) n cap) n xs) (hm : m ≤ n) : w.ownsRow base e size (.slice (some ⟨g, 0, none⟩) m cap) m (xs.take (m * size)) := by
  have hms : m * size ≤ n * size := Nat.mul_le_mul_right _ hm
  refine ⟨by rw [List.length_take, h.1]; omega, ?_⟩
  rcases h.2 with ⟨hn, _⟩ | ⟨g', cap', cur, hv, h1, h2, h3, h4, h5, h6⟩
  · cases hn
  · injection hv with ha _ hc
    injection ha with ha
    injection ha with hg
    subst hg
    subst hc
    exact .inr ⟨g, cap, cur, rfl, h1, h2, by omega, h4, h5, by rw [← h6, List.take_take]; congr 1; omega⟩

theorem putRow_enc (w : World) (blk off : Nat) (d : Array Int) : putRow (Value.int .u32) w blk off d = putRow id w blk off (d.map (Value.int .u32)) := by
  unfold putRow
  congr 1
  funext c
  unfold putCells
  apply Array.ext
  · simp
  · intro i h1 h2
    simp only [Array.getElem_mapIdx, Array.size_map]
    split
    · rename_i hi
      rw [getElem!_pos _ (i - off) (by omega), getElem!_pos _ (i - off) (by simp; omega)]
      simp
    · rfl

theorem compact_ok (W : World) (base : Nat) (v : Value) (l : List Int) (h : URow W base v l) (hup : l.Pairwise (· ≤ ·)) (hbase : base ≤ W.heap.size) (hl : l.length ≤ 100000) :
    Calls Tryz.prog 93 #[v] W fun e w' => ∃ v' c, e = .returned v' ∧ URow w' base v' c ∧ c.Pairwise (· < ·) ∧ (∀ x, x ∈ c ↔ x ∈ l) ∧ Below base W w' := by
  by_cases h2 : l.length < 2
  · obtain ⟨a, cap, rfl, h3, h4, h5⟩ := ownsRow_shape h
    have hI : (l.length : Int) < 2 := by omega
    have HR : Hid (URow W base (.slice a l.length cap) l) := h
    clear h
    go_enter Tryz.func93, Tryz.ntmps93
    go_wp2
    go_ret
    refine ⟨_, l, rfl, HR.out, ?_, fun x => Iff.rfl, Below.refl _ _⟩
    match l, h2 with
    | [], _ => exact List.Pairwise.nil
    | [x], _ => simp
  · obtain ⟨g, cap, rfl, hg1, hg2, hg3⟩ := ownsRow_slice h (by omega)
    have hH : Holds (Value.int .u32) W g 0 l.toArray := by
      intro j hj
      have hj' : j < l.length := by simpa using hj
      refine ⟨?_, ownsRow_frozen h _⟩
      rw [Nat.zero_add, ownsRow_cell h j (by omega), List.getElem?_map, List.getElem?_eq_getElem hj', getElem!_pos _ j hj]
      rfl
    have hcon := AnyE.slices_Compact Tryz.compactU (Value.int .u32) (fun _ => rfl) (EqlAt.intD _ _ .u32) (NeqAt.intD _ _ .u32) 0 Tryz.zeroValue38 g 0 cap l.toArray W hH (by simp; omega) (by simpa using hg2)
    change Calls Tryz.prog 93 _ _ _ at hcon
    have hsz : l.toArray.size = l.length := by simp
    obtain ⟨c1, c2, -⟩ := compact_facts l.toArray (fun i j hij hj => by
      have hj' : j < l.length := by simpa using hj
      rw [getElem!_pos _ i (by omega), getElem!_pos _ j hj]
      simp only [List.getElem_toArray]
      exact List.pairwise_iff_getElem.1 hup i j (by omega) hj' hij) l.toArray.size (Nat.le_refl _)
    have hclen : (compactUpTo l.toArray l.toArray.size).length ≤ l.length := by
      unfold compactUpTo
      rw [List.length_map]
      exact Nat.le_trans (List.length_filter_le _ _) (by simp)
    rw [hsz] at hcon c1 c2 hclen
    refine hcon.mono ?_
    rintro e w' ⟨rfl, q, rfl⟩
    generalize hc : compactUpTo l.toArray l.length = c at *
    refine ⟨_, c, rfl, ?_, c1, fun x => ?_, ?_⟩
    · rw [putRow_enc]
      have h6 := ownsRow_put (m := q) (os := #[]) h (((c ++ List.replicate (l.length - c.length) 0).toArray).map (Value.int .u32)) (by simp; omega)
      rw [grow_empty] at h6
      have h7 := ownsRow_cut h6 hclen
      show World.ownsRow _ _ _ _ _ _ _
      have e1 : ((((c ++ List.replicate (l.length - c.length) 0).toArray).map (Value.int .u32)).toList.take (c.length * 1)) = c.map (Value.int .u32) := by simp
      rw [e1] at h7
      exact h7
    · rw [c2]
      constructor
      · rintro ⟨j, hj, rfl⟩
        rw [getElem!_pos _ j (by simpa using hj)]
        simp
      · intro hx
        obtain ⟨j, hj, rfl⟩ := List.mem_iff_getElem.1 hx
        exact ⟨j, hj, by rw [getElem!_pos _ j (by simpa using hj)]; simp⟩
    · rw [putRow_enc]
      have h6 := grown_put (W := W) (g := g) (m := q) (os := #[]) (((c ++ List.replicate (l.length - c.length) 0).toArray).map (Value.int .u32))
      rw [grow_empty] at h6
      exact (Below.refl base W).grown h6 hbase (fun k hk => by injection hk with hk; omega)

/-! ### trace.Who -/
theorem subsAt_take {l : List Sp} {t : Nat} {s : Sp} (hs : l[t]? = some s) (a k tt : Int) : subsAt (l.take (t + 1)) a k tt = subsAt (l.take t) a k tt ++ if hit s a k tt = true then [s.sub] else [] := by
  rw [List.take_add_one, hs]
  unfold subsAt
  rw [List.filter_append, List.map_append]
  congr 1
  cases hh : hit s a k tt <;> simp [hh]

theorem hit_end {s : Sp} {a k t : Int} (ht : t ≤ 9223372036854775807) : hit s a k t = (s.here a k && decide (s.frm ≤ t) && decide (t ≤ endS s)) := by
  unfold hit
  congr 1
  unfold endS
  cases s.opn <;> simp [ht]

set_option maxHeartbeats 8000000 in
theorem who_ok (N : Nat) (HS : SortU N) (v : Value) (B O : Nat) (l : List Sp) (a k tt : Int) (w : World) (h : Sps w v B O l) (hok : OkAll l) (hl : l.length ≤ 1000) (hN : (subsAt l a k tt).length ≤ N) (ht : tt ≤ 9223372036854775807) :
    Calls Tryz.prog 59 #[v, .int .u32 a, .int .i64 k, .int .i64 tt] w fun e w' => ∃ v' c, e = .returned v' ∧ URow w' w.heap.size v' c ∧ WhoOf l a k tt c ∧ Below w.heap.size w w' := by
  obtain ⟨ad, cap, rfl, h2, h3, h4, h5⟩ := h
  have H5 : Hid (∀ i s, l[i]? = some s → SpAt w B (O + i * 6) s) := h5
  have HOK : Hid (OkAll l) := hok
  have HSN : Hid (SortU N) := HS
  have HN : Hid ((subsAt l a k tt).length ≤ N) := hN
  have HTT : Hid (tt ≤ 9223372036854775807) := ht
  unfold maxLen at h3
  clear h5 hok HS hN ht
  go_enter Tryz.func59, Tryz.ntmps59
  go_wp2
  go_loopg [9, 14] l.length (fun gk rv i wr => ∃ (t : Nat) (r : Value), t + gk = l.length ∧ r = rv ∧ i = .int .i64 (t : Int) ∧ URow wr w.heap.size r (subsAt (l.take t) a k tt) ∧ Below w.heap.size w wr)
  case atStart => exact ⟨0, _, by omega, rfl, rfl, World.ownsRow_nil _ _ _ _, Below.refl _ _⟩
  case round =>
    obtain ⟨t, r, ht, rfl, rfl, hrow, hbel⟩ := hrel
    by_cases hlt : t < l.length
    case neg =>
      have hte : t = l.length := by omega
      subst hte
      rw [List.take_length] at hrow
      have hge : ¬ ((l.length : Int) < (l.length : Int)) := by omega
      have HB : Hid (Below w.heap.size w wr) := hbel
      have HSub : Hid (∀ x ∈ subsAt l a k tt, OkU x) := fun x hx => by
        obtain ⟨s, hs, _, rfl⟩ := mem_subsAt.1 hx
        exact ⟨(HOK.out s hs).sub0, (HOK.out s hs).sub1⟩
      have HSo := HSN.out wr w.heap.size r (subsAt l a k tt) hrow HSub.out HN.out
      have hln : (subsAt l a k tt).length ≤ 1000 := by
        unfold subsAt
        rw [List.length_map]
        exact Nat.le_trans (List.length_filter_le _ _) hl
      clear hrow hbel hlt
      go_wp2_with fail
      refine HSo.mono ?_
      rintro e w2 ⟨rfl, q, hq1, hq2, hq3, hq4⟩
      have HB2 : Hid (Below w.heap.size w w2) := HB.out.trans hq4
      have HC := compact_ok w2 w.heap.size r q hq3 hq2 HB2.out.size (by rw [hq1.length_eq]; omega)
      have HQ : Hid (q.Perm (subsAt l a k tt)) := hq1
      clear hq1 hq2 hq3 hq4 HSo
      go_wp2_with fail
      refine HC.mono ?_
      rintro e w3 ⟨v', c, rfl, hc1, hc2, hc3, hc4⟩
      have HC1 : Hid (URow w3 w.heap.size v' c) := hc1
      have HC3 : Hid (WhoOf l a k tt c) := ⟨hc2, fun x => (hc3 x).trans HQ.out.mem_iff⟩
      have HC4 : Hid (Below w.heap.size w w3) := HB2.out.trans hc4
      clear hc1 hc2 hc3 hc4 HC
      go_wp2
      go_ret
      exact ⟨_, c, rfl, HC1.out, HC3.out, HC4.out⟩
    obtain ⟨s, hs⟩ : ∃ s, l[t]? = some s := ⟨_, List.getElem?_eq_getElem hlt⟩
    obtain rfl : ad = some ⟨B, O, none⟩ := by
      rcases h4 with h4 | h4
      · exact h4
      · subst h4; simp at hlt
    have HT : Hid (subsAt (l.take (t + 1)) a k tt = subsAt (l.take t) a k tt ++ if hit s a k tt = true then [s.sub] else []) := subsAt_take hs a k tt
    have HLen : Hid ((subsAt (l.take t) a k tt).length ≤ 1000) := by
      show _ ≤ _
      unfold subsAt
      rw [List.length_map]
      refine Nat.le_trans (List.length_filter_le _ _) ?_
      rw [List.length_take]; omega
    have HE : Hid (hit s a k tt = (s.here a k && decide (s.frm ≤ tt) && decide (tt ≤ endS s))) := hit_end HTT.out
    obtain ⟨c0, c1, c2, c3, c4, c5⟩ := spAt_later (H5.out t s hs) hbel
    have hltI : (t : Int) < (l.length : Int) := by omega
    have HEn := fun W' => end_any s W'
    clear hs hlt
    obtain ⟨W, hW⟩ : ∃ W, W = wr.alloc (.cells #[.int .u32 s.sub, .int .u32 s.addr, .int .i64 s.block, .int .i64 s.frm, .int .i64 s.til, .bool s.opn] 59) := ⟨_, rfl⟩
    have hB1 : Below wr.heap.size wr W := by rw [hW]; exact below_alloc _ _
    have hK0 : SpAt W wr.heap.size 0 s := by
      rw [hW]
      exact ⟨by simp, by simp, by simp, by simp, by simp, by simp⟩
    have HW : Hid (W = wr.alloc (.cells #[.int .u32 s.sub, .int .u32 s.addr, .int .i64 s.block, .int .i64 s.frm, .int .i64 s.til, .bool s.opn] 59)) := hW
    have HRW : Hid (URow W w.heap.size r (subsAt (l.take t) a k tt)) := ownsRow_later hrow hB1
    have HBW : Hid (Below w.heap.size w W) := hbel.trans (hB1.mono hbel.size)
    have KC : Hid (∀ wx, Below W.heap.size W wx → SpAt wx wr.heap.size 0 s) := fun wx hx => spAt_later hK0 hx
    obtain ⟨s0, s1, s2, s3, s4, s5⟩ := s
    obtain ⟨d0, d1, d2, d3, d4, d5⟩ := hK0
    simp only [Nat.zero_add] at c0 c1 c2 c3 c4 c5 d0 d1 d2 d3 d4 d5
    clear hW hrow hbel hB1
    generalize hE : endS ⟨s0, s1, s2, s3, s4, s5⟩ = E at *
    clear hE
    have no : hit ⟨s0, s1, s2, s3, s4, s5⟩ a k tt = false → subsAt (l.take (t + 1)) a k tt = subsAt (l.take t) a k tt := fun hh => by rw [HT.out, hh]; simp
    have NO : Hid (hit ⟨s0, s1, s2, s3, s4, s5⟩ a k tt = false → subsAt (l.take (t + 1)) a k tt = subsAt (l.take t) a k tt) := no
    clear no
    by_cases h1 : s1 = a
    case neg =>
      have HH : Hid (hit ⟨s0, s1, s2, s3, s4, s5⟩ a k tt = false) := by show _ = _; rw [HE.out]; simp [Sp.here, h1]
      have h1' : (s1 == a) = false := by simp [h1]
      go_wp2
      rw [← HW.out]
      go_roundg (l.length - (t + 1))
      case rel => exact ⟨t + 1, _, by omega, rfl, by go_num, by rw [NO.out HH.out]; exact HRW.out, HBW.out⟩
      case measure => omega
    subst h1
    by_cases h2' : s2 = k
    case neg =>
      have HH : Hid (hit ⟨s0, s1, s2, s3, s4, s5⟩ s1 k tt = false) := by show _ = _; rw [HE.out]; simp [Sp.here, h2']
      have h2'' : (s2 == k) = false := by simp [h2']
      go_wp2
      rw [← HW.out]
      go_roundg (l.length - (t + 1))
      case rel => exact ⟨t + 1, _, by omega, rfl, by go_num, by rw [NO.out HH.out]; exact HRW.out, HBW.out⟩
      case measure => omega
    subst h2'
    by_cases h3' : s3 ≤ tt
    case neg =>
      have HH : Hid (hit ⟨s0, s1, s2, s3, s4, s5⟩ s1 s2 tt = false) := by show _ = _; rw [HE.out]; simp [h3']
      have h3'' : tt < s3 := by omega
      go_wp2
      rw [← HW.out]
      go_roundg (l.length - (t + 1))
      case rel => exact ⟨t + 1, _, by omega, rfl, by go_num, by rw [NO.out HH.out]; exact HRW.out, HBW.out⟩
      case measure => omega
    by_cases h4' : tt ≤ E
    case neg =>
      have HH : Hid (hit ⟨s0, s1, s2, s3, s4, s5⟩ s1 s2 tt = false) := by show _ = _; rw [HE.out]; simp [h4']
      have h4'' : E < tt := by omega
      go_wp2_with (go_at_call 91; rw [← HW.out]; refine (HEn _).mono ?_; rintro e w1 ⟨rfl, hB2⟩; have HB2 : Hid (Below W.heap.size W w1) := hB2; clear hB2)
      go_roundg (l.length - (t + 1))
      case rel => exact ⟨t + 1, _, by omega, rfl, by go_num, by rw [NO.out HH.out]; exact ownsRow_later HRW.out HB2.out, HBW.out.trans (HB2.out.mono HBW.out.size)⟩
      case measure => omega
    have HH : Hid (hit ⟨s0, s1, s2, s3, s4, s5⟩ s1 s2 tt = true) := by show _ = _; rw [HE.out]; simp [Sp.here, h3', h4']
    obtain ⟨ra, rc, rfl, hr1, hr2, hr3⟩ := ownsRow_shape HRW.out
    generalize hm : (subsAt (l.take t) s1 s2 tt).length = m at *
    go_wp2_with (first
      | (go_at_call 91; rw [← HW.out]; refine (HEn _).mono ?_; rintro e w1 ⟨rfl, hB2⟩; have HB2 : Hid (Below W.heap.size W w1) := hB2; clear hB2; obtain ⟨e0, e1, e2, e3, e4, e5⟩ := KC.out w1 HB2.out; obtain ⟨v', w5, hrun5, hR5, hB5⟩ := append_u w1 w.heap.size (.slice ra m rc) (subsAt (l.take t) s1 s2 tt) s0 (ownsRow_later HRW.out HB2.out) (Nat.le_trans HBW.out.size HB2.out.size) (by have := HLen.out; omega); have HR5 : Hid (URow w5 w.heap.size v' (subsAt (l.take t) s1 s2 tt ++ [s0])) := hR5; have HB5 : Hid (Below w.heap.size w w5) := (HBW.out.trans (HB2.out.mono HBW.out.size)).trans hB5; clear hR5 hB5)
      | (at_builtin; refine append_here _ _ _ rfl ?_; refine wpl_append_run rfl _ _ _ rfl _ _ rfl rfl hrun5 ?_))
    go_roundg (l.length - (t + 1))
    case rel => exact ⟨t + 1, v', by omega, rfl, by go_num, by rw [HT.out, HH.out]; exact HR5.out, HB5.out⟩
    case measure => omega

end Go.Proofs.YtafkkehcacdodaaGreat
