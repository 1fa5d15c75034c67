/- A whole frame in cells: laid into a block, read out of it. -/
import Derived.Test.YtdejjokgchbgnaaFrameQuote2
import Derived.Test.YtdejjokgchbgnaaParse
import Derived.Test.YtdejjokgchbgnaaUdpParse
import Derived.Test.YtdejjokgchbgnaaTcpParse2
set_option maxRecDepth 100000
namespace Go.Proofs.Ytdejjokgchbgnaa
open Go.RowKit

/-- Values laid into the cells of block n, from k on. -/
def layN (w : World) (n : Nat) : Nat → List Value → World
  | _, [] => w
  | k, v :: vs => layN (w.setCell ⟨n, k, none⟩ v) n (k + 1) vs

theorem layN_below {w' : World} (n : Nat) (vs : List Value) : ∀ (k : Nat) (w : World) (base : Nat), base ≤ n → Below base w' w → Below base w' (layN w n k vs) := by
  induction vs with
  | nil => intro k w base _ h; exact h
  | cons v vs ih => intro k w base hb h; exact ih (k + 1) _ base hb (h.setCell hb _)

theorem layN_owns (n base : Nat) (v : Value) (l : List Int) (hn : n < base) (vs : List Value) : ∀ (k : Nat) (w : World), Owns w base v l → Owns (layN w n k vs) base v l := by
  induction vs with
  | nil => intro k w h; exact h
  | cons x vs ih => intro k w h; exact ih (k + 1) _ (h.store hn _)

theorem layN_old (n : Nat) (vs : List Value) : ∀ (k j : Nat) (w : World), j < k → (layN w n k vs).cell? ⟨n, j, none⟩ = w.cell? ⟨n, j, none⟩ := by
  induction vs with
  | nil => intro k j w _; rfl
  | cons x vs ih =>
    intro k j w h
    show (layN (w.setCell ⟨n, k, none⟩ x) n (k + 1) vs).cell? ⟨n, j, none⟩ = _
    rw [ih (k + 1) j _ (by omega)]
    have hne : ¬ k = j := by omega
    simp [go_sem]
    try omega

theorem layN_cell (n : Nat) (vs : List Value) : ∀ (k i : Nat) (w : World) (u v : Value), vs[i]? = some v → w.cell? ⟨n, k + i, none⟩ = some u → (layN w n k vs).cell? ⟨n, k + i, none⟩ = some v := by
  induction vs with
  | nil => intro k i w u v h; simp at h
  | cons x vs ih =>
    intro k i w u v h hu
    show (layN (w.setCell ⟨n, k, none⟩ x) n (k + 1) vs).cell? ⟨n, k + i, none⟩ = _
    cases i with
    | zero =>
      simp at h
      subst h
      rw [Nat.add_zero] at hu
      show (layN (w.setCell ⟨n, k, none⟩ x) n (k + 1) vs).cell? ⟨n, k, none⟩ = some x
      rw [layN_old n vs (k + 1) k _ (by omega)]
      simp [go_sem, hu]
    | succ i =>
      have e : k + (i + 1) = k + 1 + i := by omega
      rw [e] at hu ⊢
      have hne : ¬ k = k + 1 + i := by omega
      exact ih (k + 1) i _ u v (by simpa using h) (by simp [go_sem, hu])

@[reducible] def frC (p : Dg) (vo vb : Value) (r : Rs) : Array Value :=
  #[.int .i64 p.tos, .int .i64 p.id, .bool p.df, .bool p.mf, .int .i64 p.off, .int .i64 p.ttl, .int .i64 p.proto, .int .u32 p.src, .int .u32 p.dst, vo, vb, .int .i64 r.kind, .int .u32 p.src, .int .i64 r.fp, .int .u32 p.dst, .int .i64 r.tp, .int .i64 r.flags, .int .i64 r.inner.proto, .int .u32 r.inner.sa, .int .i64 r.inner.sp, .int .u32 r.inner.da, .int .i64 r.inner.dp]

@[reducible] def frL (p : Dg) (vo vb : Value) (r : Rs) : List Value :=
  [.int .i64 p.tos, .int .i64 p.id, .bool p.df, .bool p.mf, .int .i64 p.off, .int .i64 p.ttl, .int .i64 p.proto, .int .u32 p.src, .int .u32 p.dst, vo, vb, .int .i64 r.kind, .int .u32 p.src, .int .i64 r.fp, .int .u32 p.dst, .int .i64 r.tp, .int .i64 r.flags, .int .i64 r.inner.proto, .int .u32 r.inner.sa, .int .i64 r.inner.sp, .int .u32 r.inner.da, .int .i64 r.inner.dp]

@[reducible] def frV (p : Dg) (vo vb : Value) (r : Rs) : Value :=
  .agg #[.int .i64 p.tos, .int .i64 p.id, .bool p.df, .bool p.mf, .int .i64 p.off, .int .i64 p.ttl, .int .i64 p.proto, .int .u32 p.src, .int .u32 p.dst, vo, vb, .int .i64 r.kind, .int .u32 p.src, .int .i64 r.fp, .int .u32 p.dst, .int .i64 r.tp, .int .i64 r.flags, .int .i64 r.inner.proto, .int .u32 r.inner.sa, .int .i64 r.inner.sp, .int .u32 r.inner.da, .int .i64 r.inner.dp]

@[reducible] def zeroFC : Array Value :=
  #[.int .i64 0, .int .i64 0, .bool false, .bool false, .int .i64 0, .int .i64 0, .int .i64 0, .int .u32 0, .int .u32 0, .slice none 0 0, .slice none 0 0, .int .i64 0, .int .u32 0, .int .i64 0, .int .u32 0, .int .i64 0, .int .i64 0, .int .i64 0, .int .u32 0, .int .i64 0, .int .u32 0, .int .i64 0]

/-- The empty frame. -/
@[reducible] def zeroFV : Value := .agg zeroFC

/-- The cells of a frame that a world has in block n, all of them to be written. -/
structure FC (w : World) (n : Nat) (C : Array Value) : Prop where
  c : ∀ i v, C[i]? = some v → w.cell? ⟨n, i, none⟩ = some v
  f : ∀ i, w.frozen? ⟨n, i, none⟩ = false

theorem fc_new {w w' : World} {C : Array Value} {t : TypeId} {n : Nat} (hn : n = w.heap.size) (hb : Below (w.alloc (.cells C t)).heap.size (w.alloc (.cells C t)) w') : FC w' n C := by
  subst hn
  refine ⟨fun i v hv => box_cell hb i v hv, fun i => ?_⟩
  rw [hb.frozen (by simp), World.frozen?_alloc_mark w C t 0 0 i]; simp

theorem FC.later {w w' : World} {n : Nat} {C : Array Value} (h : FC w n C) (hn : n < w.heap.size) (hb : Below w.heap.size w w') : FC w' n C :=
  ⟨fun i v hv => cell_later hb (h.c i v hv), fun i => by rw [hb.frozen hn]; exact h.f i⟩

theorem FC.drewN {w : World} {n k : Nat} {C : Array Value} (h : FC w n C) : FC (w.drewN k) n C := ⟨h.c, h.f⟩

theorem fr_laid {w : World} {n : Nat} {C : Array Value} (h : FC w n C) (hC : C.size = 22) (p : Dg) (vo vb : Value) (r : Rs) (i : Nat) (v : Value) (hv : (frL p vo vb r)[i]? = some v) : (layN w n 0 (frL p vo vb r)).cell? ⟨n, i, none⟩ = some v := by
  have hi : i < 22 := by
    rcases Nat.lt_or_ge i 22 with k | k
    · exact k
    · rw [List.getElem?_eq_none (by show 22 ≤ i; exact k)] at hv; cases hv
  have := layN_cell n (frL p vo vb r) 0 i w (C[i]'(by omega)) v hv (by rw [Nat.zero_add]; exact h.c i _ (Array.getElem?_eq_getElem _))
  rwa [Nat.zero_add] at this
end Go.Proofs.Ytdejjokgchbgnaa
