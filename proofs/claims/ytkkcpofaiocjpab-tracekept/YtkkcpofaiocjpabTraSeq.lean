/- What an index's iterator tells, collected. -/
import Derived.Test.YtkkcpofaiocjpabTraUnder
import Derived.Test.YtkkcpofaiocjpabTraWho
import Derived.Maps.AppendAt
set_option maxRecDepth 100000
namespace Go.Proofs.Ytkkcpofaiocjpab
open Go.RowKit Go.Shelf
attribute [local go_sem] Oper.semAt_some

/-- One subscriber behind a row of the call's own: where the new row lies. -/
theorem append_u_at (W : World) (base : Nat) (v : Value) (l : List Int) (x : Int) (hv : URow W base v l) (hbase : base ≤ W.heap.size) (hlen : l.length ≤ 1000000) :
    ∃ v' w', (Builtin.append_ #[27, 27] 27 #[v, .slice (some ⟨W.heap.size, 0, none⟩) 1 1]).run Try.prog (W.alloc (.cells #[.int .u32 x] 23)) = .ok v' w' ∧ URow w' base v' (l ++ [x]) ∧ (W.alloc (.cells #[.int .u32 x] 23)).grownBy w' v.ownBlock ∧
      (v'.ownBlock = v.ownBlock ∨ v'.ownBlock = some (W.heap.size + 1)) := by
  obtain ⟨i0, hi, hz0, hz1, hz2⟩ := info_parts infoU
  have hown2 := World.ownsRow.alloc hv (.cells #[.int .u32 x] 23)
  obtain ⟨v', w', hr, ho, hg, -, hat⟩ := run_append_own_at (P := Try.prog) (W.alloc (.cells #[.int .u32 x] 23)) base 27 27 23 i0 (.int .u32 0) 1 4 Try.underlying27 hi hz0 hz1 hz2 rfl (by decide) v l.length (l.map (Value.int .u32)) hown2
    ⟨W.heap.size, 0, none⟩ 1 1 [.int .u32 x] rfl (by
      intro j u hj
      rw [add_at, Nat.zero_add, (blk_new W _ _).cell]
      exact hj) (by intro u hu; simp at hu; subst hu; rfl) (by unfold maxLen; omega) (by omega) (by simp; omega)
  rw [World.size_alloc] at hat
  refine ⟨v', w', hr, ?_, hg, hat⟩
  show w'.ownsRow base _ 1 v' (l ++ [x]).length ((l ++ [x]).map _)
  rw [List.map_append, List.length_append]
  simpa using ho

/-- An append whose run is known, inside a fence. -/
theorem wplIn_append_run {F : Fence} {n : Nat} {P : Program} {w : World} {ops : Array Oper} {rest : List Oper} {o : Oper} {a : Act} {Q : Exit → Act → World → Prop} (hg : o.guard = none) (s x : Operand) (t : TypeId)
    (hop : o.op = Op.call { callee := Callee.builtin Builtin.append, args := #[s, x], argTypes := #[t, t] }) (V X : Value) (hs : a.eval s = V) (hx : a.eval x = X) {v' : Value} {w' : World}
    (hrun : (Builtin.append_ #[t, t] o.type #[V, X]).run P w = .ok v' w') (hK : wpListIn F n P ops Q rest (a.put o.dst v') w') : wpListIn F n P ops Q (o :: rest) a w := by
  refine wpListIn_plain hg fun K hK' => ?_
  unfold Oper.wpIn
  refine ⟨?_, ?_⟩
  · simp [Oper.about, hop, resolve, Target.leads, Sem.run_pure]
  · rw [Oper.semAt_plain F _ _ (by rw [hop]; intro c hc'; cases hc')]
    simp [execOp, hop, resolve, invoke, builtin, hs, hx, hrun, Result.andThen]
    exact hK' _ _ hK

/-- Between two rounds: k subscribers have come. -/
def SqI (w : World) (H : List Int) (k : Nat) (p : Mine) (W : World) : Prop :=
  ∃ v, W.cell? ⟨w.heap.size, 0, none⟩ = some v ∧ W.frozen? ⟨w.heap.size, 0, none⟩ = false ∧ URow W (w.heap.size + 3) v (H.take k) ∧ Below w.heap.size w W ∧ w.heap.size + 3 ≤ W.heap.size ∧
    ∀ b o, (b, o) ∈ p → W.heap[b]? = some o ∧ w.heap.size + 3 ≤ b ∧ v.ownBlock ≠ some b

theorem frozen_same {w w' : World} {a : Addr} (h : w'.heap[a.block]? = w.heap[a.block]?) : w'.frozen? a = w.frozen? a := by
  unfold World.frozen?
  rw [h]

theorem SqI.later {w : World} {H : List Int} {k : Nat} {p : Mine} {W W' : World} (h : SqI w H k p W) (hb : Below W.heap.size W W') : SqI w H k p W' := by
  obtain ⟨v, h1, h2, h3, h4, h5, h6⟩ := h
  have hs := hb.size
  have hbx : W'.heap[w.heap.size]? = W.heap[w.heap.size]? := hb.block _ (by omega)
  refine ⟨v, cell_later hb h1, (frozen_same (a := ⟨w.heap.size, 0, none⟩) hbx).trans h2, ownsRow_later h3 hb, h4.trans (hb.mono h4.size), by omega, fun b o hm => ?_⟩
  obtain ⟨q1, q2, q3⟩ := h6 b o hm
  exact ⟨(hb.block b (Array.getElem?_eq_some_iff.1 q1).1).trans q1, q2, q3⟩

theorem SqI.alloc {w : World} {H : List Int} {k : Nat} {p : Mine} {W : World} (h : SqI w H k p W) (vs : Array Value) (T : TypeId) : SqI w H k ((W.heap.size, .cells vs T) :: p) (W.alloc (.cells vs T)) := by
  obtain ⟨v, h1, h2, h3, h4, h5, h6⟩ := h.later (below_alloc W (.cells vs T))
  obtain ⟨v0, g1, g2, g3, g4, g5, g6⟩ := h
  have hv : v = v0 := by
    have := cell_later (below_alloc W (.cells vs T)) g1
    rw [h1] at this
    exact Option.some.inj this
  subst hv
  refine ⟨v, h1, h2, h3, h4, h5, fun b o hm => ?_⟩
  rcases List.mem_cons.1 hm with e | hm
  · cases e
    exact ⟨World.alloc_heap_new W _, g5, fun e => by have := (ownsRow_lt g3 e).2; omega⟩
  · exact h6 b o hm

theorem SqI.drop {w : World} {H : List Int} {k : Nat} {b : Nat} {o : Obj} {p : Mine} {W : World} (h : SqI w H k ((b, o) :: p) W) : SqI w H k p W ∧ W.heap[b]? = some o := by
  obtain ⟨v, h1, h2, h3, h4, h5, h6⟩ := h
  exact ⟨⟨v, h1, h2, h3, h4, h5, fun b' o' hm => h6 b' o' (List.mem_cons_of_mem _ hm)⟩, (h6 b o (List.mem_cons_self ..)).1⟩

theorem SqI.put {w : World} {H : List Int} {k : Nat} {p : Mine} {W : World} (h : SqI w H k p W) (L : Nat) (hL0 : w.heap.size < L) (hL : L < w.heap.size + 3) (x : Obj) : SqI w H k p (W.putObj L x) := by
  obtain ⟨v, h1, h2, h3, h4, h5, h6⟩ := h
  have hs : (W.putObj L x).heap.size = W.heap.size := by simp [World.putObj]
  have ho : ∀ k, k ≠ L → (W.putObj L x).heap[k]? = W.heap[k]? := fun k hk => World.putObj_heap_other (by omega)
  refine ⟨v, (cell_same_block (a := ⟨w.heap.size, 0, none⟩) (ho _ (by show w.heap.size ≠ L; omega))).trans h1, (frozen_same (a := ⟨w.heap.size, 0, none⟩) (ho _ (by show w.heap.size ≠ L; omega))).trans h2, ownsRow_same h3 (fun g hg => ho g (by have := (ownsRow_lt h3 hg).1; omega)), ⟨h4.os, h4.tape, h4.output, by rw [hs]; exact h4.size, fun j hj => (ho j (by omega)).trans (h4.block j hj)⟩, by omega, fun b o hm => ?_⟩
  obtain ⟨q1, q2, q3⟩ := h6 b o hm
  exact ⟨(ho b (by omega)).trans q1, q2, q3⟩

/-- A round: one subscriber more. -/
theorem SqI.step {w : World} {H : List Int} {k : Nat} {p : Mine} {W : World} (h : SqI w H k p W) (hH : H.length ≤ 1000) {x : Int} (hx : H[k]? = some x) :
    ∃ v v' w', (∃ a n c, v' = .slice a n c) ∧ W.cell? ⟨w.heap.size, 0, none⟩ = some v ∧ (Builtin.append_ #[27, 27] 27 #[v, .slice (some ⟨W.heap.size, 0, none⟩) 1 1]).run Try.prog (W.alloc (.cells #[.int .u32 x] 23)) = .ok v' w' ∧
      w'.cell? ⟨w.heap.size, 0, none⟩ = some v ∧ w'.frozen? ⟨w.heap.size, 0, none⟩ = false ∧ SqI w H (k + 1) p (w'.setCell ⟨w.heap.size, 0, none⟩ v') ∧ (w'.setCell ⟨w.heap.size, 0, none⟩ v').heap[w.heap.size + 1]? = W.heap[w.heap.size + 1]? ∧ (w'.setCell ⟨w.heap.size, 0, none⟩ v').heap[w.heap.size + 2]? = W.heap[w.heap.size + 2]? := by
  obtain ⟨v, h1, h2, h3, h4, h5, h6⟩ := h
  obtain ⟨v', w', e1, e2, e3, e4⟩ := append_u_at W (w.heap.size + 3) v (H.take k) x h3 h5 (by rw [List.length_take]; omega)
  have hb1 := below_alloc W (.cells #[.int .u32 x] 23)
  have hsz := e3.size
  rw [World.size_alloc] at hsz
  have hblk : ∀ j, j < W.heap.size → v.ownBlock ≠ some j → w'.heap[j]? = W.heap[j]? := fun j hj hn => (e3.block j (by rw [World.size_alloc]; omega) (fun e => hn e.symm)).trans (hb1.block j hj)
  have hnv : ∀ j, j < w.heap.size + 3 → v.ownBlock ≠ some j := fun j hj e => by have := (ownsRow_lt h3 e).1; omega
  have hset : ∀ j, j ≠ w.heap.size → (w'.setCell ⟨w.heap.size, 0, none⟩ v').heap[j]? = w'.heap[j]? := fun j hj => heap_setCell_other w' ⟨w.heap.size, 0, none⟩ j v' hj
  have hc : w'.cell? ⟨w.heap.size, 0, none⟩ = some v := (cell_same_block (a := ⟨w.heap.size, 0, none⟩) (hblk _ (by show w.heap.size < _; omega) (hnv _ (by show w.heap.size < _; omega)))).trans h1
  have hf : w'.frozen? ⟨w.heap.size, 0, none⟩ = false := (frozen_same (a := ⟨w.heap.size, 0, none⟩) (hblk _ (by show w.heap.size < _; omega) (hnv _ (by show w.heap.size < _; omega)))).trans h2
  have ht : H.take (k + 1) = H.take k ++ [x] := by rw [List.take_add_one, hx]; rfl
  have hss : (w'.setCell ⟨w.heap.size, 0, none⟩ v').heap.size = w'.heap.size := by simp [World.setCell]
  obtain ⟨sa, sc, hsv, -⟩ := ownsRow_shape e2
  refine ⟨v, v', w', ⟨sa, _, sc, hsv⟩, h1, e1, hc, hf, ⟨v', World.cell?_setCell_same _ _ _ hc, (World.frozen?_setCell ..).trans hf, ?_, ?_, by rw [hss]; omega, fun b o hm => ?_⟩, ?_, ?_⟩
  · rw [ht]
    exact ownsRow_same e2 (fun g hg => hset g (by have := (ownsRow_lt e2 hg).1; omega))
  · refine ⟨e3.os.trans h4.os, e3.tape.trans h4.tape, e3.output.trans h4.output, by rw [hss]; have := h4.size; omega, fun j hj => ?_⟩
    rw [hset j (by omega), hblk j (by omega) (hnv j (by omega))]
    exact h4.block j hj
  · obtain ⟨q1, q2, q3⟩ := h6 b o hm
    have hbl : b < W.heap.size := (Array.getElem?_eq_some_iff.1 q1).1
    refine ⟨?_, q2, fun e => ?_⟩
    · rw [hset b (by omega), hblk b hbl q3]; exact q1
    · rcases e4 with e4 | e4
      · rw [e4] at e; exact q3 e
      · rw [e4] at e
        have := Option.some.inj e
        omega
  · rw [hset _ (by omega), hblk _ (by omega) (hnv _ (by omega))]
  · rw [hset _ (by omega), hblk _ (by omega) (hnv _ (by omega))]

end Go.Proofs.Ytkkcpofaiocjpab
