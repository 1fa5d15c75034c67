/- A whole frame loaded and stored at once. -/
import Derived.Test.YtdejjokgchbgnaaFrameLay
import Derived.Deep.MidRow
set_option maxRecDepth 100000
namespace Go.Proofs.Ytdejjokgchbgnaa
open Go.RowKit

theorem infoF : (Try.prog.info? 37).map (·.size) = some 22 := by kernel_rfl

theorem FC.there {w : World} {n : Nat} {C : Array Value} (h : FC w n C) (hC : C.size = 22) : w.there n 0 22 := fun j hj => by
  rw [Nat.zero_add]
  exact ⟨by rw [h.c j _ (Array.getElem?_eq_getElem (by omega))]; rfl, h.f j⟩

/-- The store of a whole frame, as one step of the walk. -/
theorem store_fr {ops : Array Oper} {rest : List Oper} {op : Oper} {a : Act} {w : World} {Q : Exit → Act → World → Prop} (hgd : op.guard = none) (x y : Operand) (ho : op.op = .store 37 x y)
    (n : Nat) (C : Array Value) (hx : a.eval x = .pointer (some ⟨n, 0, none⟩)) (hy : a.eval y = .agg C) (ht : w.there n 0 22) (hC : C.size = 22) (h1 : C.all (·.oneCell') = true)
    (h : wpList Try.prog ops Q rest (a.put op.dst undef) (w.setCells n 0 C.toList)) : wpList Try.prog ops Q (op :: rest) a w :=
  wpList_store_mid hgd 37 x y ho n 0 C hx hy (by rw [hC]; exact ht) (by rw [hC]; exact infoF) h1 h

theorem setCells_below {w' : World} (n : Nat) (vs : List Value) : ∀ (k : Nat) (w : World) (base : Nat), base ≤ n → Below base w' w → Below base w' (w.setCells n k vs) := by
  induction vs with
  | nil => intro k w base _ h; exact h
  | cons v vs ih => intro k w base hb h; rw [World.setCells]; exact ih (k + 1) _ base hb (h.setCell hb _)

theorem setCells_owns (n base : Nat) (v : Value) (l : List Int) (hn : n < base) (vs : List Value) : ∀ (k : Nat) (w : World), Owns w base v l → Owns (w.setCells n k vs) base v l := by
  induction vs with
  | nil => intro k w h; exact h
  | cons x vs ih => intro k w h; rw [World.setCells]; exact ih (k + 1) _ (h.store hn _)

theorem oneFr (p : Dg) (ao ab : Option Addr) (no nb co cb : Nat) (r : Rs) : (frC p (.slice ao no co) (.slice ab nb cb) r).all (·.oneCell') = true := by
  simp [Value.oneCell']

theorem oneZ : (zeroFC).all (·.oneCell') = true := by
  simp [Value.oneCell']

theorem load_fr {W : World} {n : Nat} (L : List Value) (hr : W.rangeAt n 0 L) (hL : L.length = 22) : (loadVar 37 ⟨n, 0, none⟩).run Try.prog W = .ok (.agg L.toArray) W :=
  run_loadVar_mid W n 0 37 L _ hr Try.underlying37 rfl (by rw [hL]; exact infoF)

theorem range_set {w : World} {n : Nat} (L : List Value) (hL : L.length = 22) (h : w.there n 0 22) : (w.setCells n 0 L).rangeAt n 0 L := World.rangeAt_setCells_same w n 0 L (by rw [hL]; exact h)

theorem results_fr1 {fn : Func} {t : Tmp} (h : fn.results = #[.cell t 37]) (tmps : Array Value) (W : World) (n : Nat) (L : List Value) (ht : tmps.getD t undef = .pointer (some ⟨n, 0, none⟩)) (hr : W.rangeAt n 0 L) (hL : L.length = 22) :
    (results fn tmps).run Try.prog W = .ok (.agg L.toArray) W := by
  have := load_fr L hr hL
  have ht' : tmps[t]?.getD undef = .pointer (some ⟨n, 0, none⟩) := by simpa using ht
  simp [results, h, ht', asAddr, this]

theorem results_fr2 {fn : Func} {t u : Tmp} (h : fn.results = #[.cell t 37, .tmp u]) (tmps : Array Value) (W : World) (n : Nat) (L : List Value) (ht : tmps.getD t undef = .pointer (some ⟨n, 0, none⟩)) (hr : W.rangeAt n 0 L) (hL : L.length = 22) :
    (results fn tmps).run Try.prog W = .ok (.tuple #[.agg L.toArray, tmps.getD u undef]) W := by
  have := load_fr L hr hL
  have ht' : tmps[t]?.getD undef = .pointer (some ⟨n, 0, none⟩) := by simpa using ht
  simp [results, h, ht', asAddr, this]

/-- The making of a frame's variable, as one step of the walk. -/
theorem alloc_fr {ops : Array Oper} {rest : List Oper} {op : Oper} {a : Act} {w : World} {Q : Exit → Act → World → Prop} (hgd : op.guard = none) (ho : op.op = .alloc 37)
    (h : wpList Try.prog ops Q rest (a.put op.dst (.pointer (some ⟨w.heap.size, 0, none⟩))) (w.alloc (.cells zeroFC 37))) : wpList Try.prog ops Q (op :: rest) a w :=
  wpList_plain hgd fun _ hK => by
    have hk := hK _ _ h
    unfold Oper.wp execOp
    simp only [ho]
    simp [go_sem]
    exact hk

/-- The load of a whole frame, as one step of the walk. -/
theorem load_step {ops : Array Oper} {rest : List Oper} {op : Oper} {a : Act} {w : World} {Q : Exit → Act → World → Prop} (hgd : op.guard = none) (x : Operand) (ho : op.op = .load 37 x)
    (n : Nat) (hx : a.eval x = .pointer (some ⟨n, 0, none⟩)) (L : List Value) (hr : w.rangeAt n 0 L) (hL : L.length = 22)
    (h : wpList Try.prog ops Q rest (a.put op.dst (.agg L.toArray)) w) : wpList Try.prog ops Q (op :: rest) a w :=
  wpList_load_mid hgd 37 x ho n 0 hx L _ hr Try.underlying37 rfl (by rw [hL]; exact infoF) h

theorem FC.range {w : World} {n : Nat} {C : Array Value} (h : FC w n C) : w.rangeAt n 0 C.toList := fun j v hv => by
  rw [Nat.zero_add]
  exact h.c j v (by simpa using hv)

theorem FC.set {w : World} {n : Nat} {C : Array Value} (h : FC w n C) (i : Nat) (hi : i < C.size) (v : Value) : FC (w.setCell ⟨n, i, none⟩ v) n (C.set i v hi) := by
  refine ⟨fun j u hj => ?_, fun j => ?_⟩
  · have hi' := h.c i _ (Array.getElem?_eq_getElem hi)
    by_cases e : i = j
    · subst e
      simp at hj
      subst hj
      simp [go_sem, hi']
    · rw [Array.getElem?_set_ne hi e] at hj
      have hj' := h.c j u hj
      simp [go_sem, hj']
  · have := h.f j
    simp [go_sem, this]

theorem FC.far {w : World} {n m i : Nat} {C : Array Value} {v : Value} (h : FC w n C) (hn : ¬ m = n) : FC (w.setCell ⟨m, i, none⟩ v) n C := by
  refine ⟨fun j u hj => ?_, fun j => ?_⟩
  · rw [World.cell?_setCell_far w ⟨m, i, none⟩ ⟨n, j, none⟩ v hn]; exact h.c j u hj
  · have := h.f j
    simp [go_sem, this]

theorem FC.laid {w : World} {n : Nat} {C : Array Value} (h : FC w n C) (hC : C.size = 22) (D : Array Value) (hD : D.size = 22) : FC (w.setCells n 0 D.toList) n D := by
  have hr := range_set D.toList (by simpa using hD) (h.there hC)
  refine ⟨fun i v hv => ?_, fun i => ?_⟩
  · have := hr i v (by simpa using hv)
    rwa [Nat.zero_add] at this
  · rw [World.frozen?_setCells]; exact h.f i
end Go.Proofs.Ytdejjokgchbgnaa
