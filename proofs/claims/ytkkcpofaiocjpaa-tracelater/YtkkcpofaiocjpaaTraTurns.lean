/- Grants and releases of one block that take turns: their spans. Rows of entries; what a slice of subscribers shows. -/
import Derived.Test.YtkkcpofaiocjpaaTraApart
import Derived.Test.YtkkcpofaiocjpaaTraAwake
set_option maxRecDepth 100000
namespace Go.Proofs.Ytkkcpofaiocjpaa
open Go.ChangeShapes Go.WideShapes Go.ChangeAt Go.RowKit

/-- Closed spans of one block, one behind the other. -/
structure Turns (L : List En) (T : Int) (k : Nat) : Prop where
  len : (spans L).length = k
  ents : L.length = 2 * k
  ok : ∀ e ∈ L, e.Ok
  shut : ∀ s ∈ spans L, s.opn = false
  chain : (spans L).Pairwise (fun x y => x.til < y.frm)
  last : ∀ s ∈ spans L, s.til ≤ T
  t0 : 0 ≤ T
  t1 : T ≤ 1000 * k

theorem turns_nil : Turns [] 0 0 := ⟨rfl, rfl, fun e h => (by cases h), fun s h => (by cases h), List.Pairwise.nil, fun s h => (by cases h), by decide, by decide⟩

theorem openI_shut {l : List Sp} (h : ∀ s ∈ l, s.opn = false) (a k : Int) : openI l a k = none :=
  List.findIdx?_eq_none_iff.2 fun s hs => by simp [h s hs]

theorem Turns.step {L : List En} {T : Int} {k : Nat} (h : Turns L T k) (hk : k ≤ 1000) {s g r : Int} (hs0 : 0 ≤ s) (hs1 : s < 4294967296) (hg0 : 0 ≤ g) (hg1 : g < 256) (hr0 : 0 ≤ r) (hr1 : r < 256) :
    Turns (L ++ [⟨2, T + 1 + g, s, 1, 2⟩] ++ [⟨3, T + 1 + g + r, 0, 1, 2⟩]) (T + 1 + g + r) (k + 1) := by
  have ht0 := h.t0
  have ht1 := h.t1
  have e1 : spans (L ++ [⟨2, T + 1 + g, s, 1, 2⟩]) = spans L ++ [⟨s, 1, 2, T + 1 + g, 0, true⟩] := by
    rw [spans_snoc]
    unfold stepS
    rw [if_pos rfl, openI_shut h.shut]; rfl
  have e2 : openI (spans L ++ [⟨s, 1, 2, T + 1 + g, 0, true⟩]) 1 2 = some (spans L).length := by
    rw [openI_iff (by rw [← e1]; exact uniq_spans _)]
    exact ⟨⟨s, 1, 2, T + 1 + g, 0, true⟩, by simp, rfl, rfl, rfl⟩
  have e3 : spans (L ++ [⟨2, T + 1 + g, s, 1, 2⟩] ++ [⟨3, T + 1 + g + r, 0, 1, 2⟩]) = spans L ++ [⟨s, 1, 2, T + 1 + g, T + 1 + g + r, false⟩] := by
    rw [spans_snoc, e1]
    unfold stepS
    rw [if_neg (show ¬ (3 : Int) = 2 by decide), if_pos rfl]
    simp only
    rw [e2, shutI_set (s := ⟨s, 1, 2, T + 1 + g, 0, true⟩) (by simp)]
    rw [List.set_append_right _ _ (Nat.le_refl _), Nat.sub_self]
    simp only [List.set_cons_zero, shutS]
    rw [show max (T + 1 + g) (T + 1 + g + r) = T + 1 + g + r by omega]
  refine ⟨by rw [e3]; simp [h.len], by simp [h.ents]; omega, ?_, ?_, ?_, ?_, by omega, by omega⟩
  · intro e he
    simp only [List.append_assoc, List.mem_append, List.mem_singleton] at he
    rcases he with he | rfl | rfl
    · exact h.ok e he
    · exact ⟨by simp, by simp, by simp only; omega, by simp only; omega, hs0, hs1, by simp, by simp, by simp, by simp⟩
    · exact ⟨by simp, by simp, by simp only; omega, by simp only; omega, by simp, by simp, by simp, by simp, by simp, by simp⟩
  · rw [e3]
    intro x hx
    rcases List.mem_append.1 hx with hx | hx
    · exact h.shut x hx
    · rw [List.mem_singleton.1 hx]
  · rw [e3, List.pairwise_append]
    refine ⟨h.chain, by simp, fun x hx y hy => ?_⟩
    rw [List.mem_singleton.1 hy]
    have := h.last x hx
    simp only
    omega
  · rw [e3]
    intro x hx
    rcases List.mem_append.1 hx with hx | hx
    · have := h.last x hx; omega
    · rw [List.mem_singleton.1 hx]; simp

theorem Turns.apart {L : List En} {T : Int} {k : Nat} (h : Turns L T k) : apartB (spans L) = true := by
  refine apartB_true ?_
  refine List.Pairwise.imp_of_mem ?_ h.chain
  intro x y hx hy hxy
  have h1 := h.shut x hx
  unfold clash meetB
  rw [h1]
  have : decide (x.til ≥ y.frm) = false := by simp; omega
  simp [this]

/-! ### Rows of entries -/
abbrev EnRow (w : World) (base : Nat) (v : Value) (l : List En) : Prop := w.ownsRow base 41 5 v l.length (l.flatMap enL)

theorem enL_length (e : En) : (enL e).length = 5 := rfl

theorem infoEn : (Try.prog.info? 41).map (fun i => (i.zero, i.size, i.bytes)) = some (some (.agg #[.int .i64 0, .int .i64 0, .int .u32 0, .int .u32 0, .int .i64 0]), 5, 32) := by kernel_rfl

theorem append_en (W : World) (base : Nat) (v : Value) (l : List En) (e : En) (hv : EnRow W base v l) (hbase : base ≤ W.heap.size) (hlen : l.length ≤ 1000000) :
    ∃ v' w', (Builtin.append_ #[25, 25] 25 #[v, .slice (some ⟨W.heap.size, 0, none⟩) 1 1]).run Try.prog (W.alloc (.cells #[.int .i64 e.kind, .int .i64 e.time, .int .u32 e.sub, .int .u32 e.addr, .int .i64 e.block] 41)) = .ok v' w' ∧
      EnRow w' base v' (l ++ [e]) ∧ Below base W w' := by
  obtain ⟨i0, hi, hz0, hz1, hz2⟩ := info_parts infoEn
  have hown2 := World.ownsRow.alloc hv (.cells #[.int .i64 e.kind, .int .i64 e.time, .int .u32 e.sub, .int .u32 e.addr, .int .i64 e.block] 41)
  obtain ⟨v', w', hr, ho, hg, -⟩ := run_append_own (P := Try.prog) (W.alloc (.cells #[.int .i64 e.kind, .int .i64 e.time, .int .u32 e.sub, .int .u32 e.addr, .int .i64 e.block] 41)) base 25 25 41 i0 (.agg #[.int .i64 0, .int .i64 0, .int .u32 0, .int .u32 0, .int .i64 0]) 5 32 Try.underlying25 hi hz0 hz1 hz2 rfl (by decide) v l.length (l.flatMap enL) hown2
    ⟨W.heap.size, 0, none⟩ 1 1 (enL e) rfl (by
      intro j u hj
      rw [add_at, Nat.zero_add, (blk_new W _ _).cell]
      exact hj) (by
      intro u hu
      unfold enL at hu
      simp at hu
      rcases hu with rfl | rfl | rfl | rfl | rfl <;> rfl) (by unfold maxLen; omega) (by omega) (by simp; omega)
  refine ⟨v', w', hr, ?_, ((Below.refl _ _).alloc hbase _).grown hg (by simp; omega) (fun k hk => (hv.lt k hk).1)⟩
  show w'.ownsRow base _ 5 v' (l ++ [e]).length ((l ++ [e]).flatMap enL)
  rw [List.flatMap_append, List.length_append]
  simpa using ho

theorem enRow_ens {w : World} {base : Nat} {v : Value} {l : List En} (h : EnRow w base v l) : ∃ B, Ens w v B 0 l := by
  rcases h.2 with ⟨hv, h0⟩ | ⟨g, cap, cur, hv, h1, h2, h3, h4, h5, h6⟩
  · have : l = [] := List.eq_nil_of_length_eq_zero h0
    subst this
    exact ⟨0, none, 0, hv, by simp, by decide, .inr rfl, fun i s hs => by simp at hs⟩
  · refine ⟨g, _, cap, hv, h3, h4, .inl rfl, fun i s hs => ?_⟩
    rw [hv] at h
    have hi := (List.getElem?_eq_some_iff.1 hs).1
    have hc : ∀ j, j < 5 → w.cell? ⟨g, 0 + i * 5 + j, none⟩ = (enL s)[j]? := fun j hj => by
      rw [Nat.zero_add, ownsRow_cell h (i * 5 + j) (by omega), flat_get enL_length hs hj]
    exact ⟨hc 0 (by omega), hc 1 (by omega), hc 2 (by omega), hc 3 (by omega), hc 4 (by omega)⟩

/-! ### What a slice of subscribers shows -/
def IsUs (w : World) (v : Value) : Prop := ∃ B O l, Us w v B O l ∧ ∀ x ∈ l, 0 ≤ x ∧ x < 4294967296

section
variable {H : Type} {enc : TypeId × Value → H} {w : World} {base b0 : Nat} {held : Bool} {r : Reach} {v : Value} {d : DataW H} {ps : List MemPlace}

theorem u32_ofT {n : Nat} {cs : List Value} {x : DataW H × List MemPlace} (hf : DataW.trod enc Try.prog w base (fun _ => true) held n 29 cs = some x) : ∃ q : Int, cs = [.int .u32 q] ∧ 0 ≤ q ∧ q < 4294967296 := by
  obtain ⟨z, e, _, hw⟩ := DataW.trod_int Try.underlying29 hf
  exact ⟨z, e, u32_bdT hw⟩

theorem viewUs (hv : Value.okWide Try.prog w r b0 27 v) (h : DataW.Trod enc Try.prog w base (fun _ => true) held 27 v d ps) (_ : ∀ n ∈ d.weights Try.prog 27, n ≤ reachBytes) : IsUs w v := by
  obtain ⟨B, O, l, a, cap, h1, h2, h3, h4, h5, h6⟩ := row_view (f := fun x : Int => [.int .u32 x]) (ok := fun x => 0 ≤ x ∧ x < 4294967296) (k := 1) (fun _ => rfl) (by decide) Try.underlying27 cellsU_t (fun hf => u32_ofT hf) hv h
  refine ⟨B, O, l, ⟨a, cap, h1, h2, h3, h4, fun i hi => ?_⟩, h5⟩
  have := h6 i l[i] (List.getElem?_eq_getElem hi) 0 _ rfl
  simpa [List.getD, List.getElem?_eq_getElem hi] using this

end

end Go.Proofs.Ytkkcpofaiocjpaa
