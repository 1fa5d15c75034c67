/- The contract of Build. -/
import Derived.Test.YtdejjokgchbgnaaUdpSmall
set_option maxRecDepth 100000
namespace Go.Proofs.Ytdejjokgchbgnaa
open Go.RowKit
attribute [local go_sem ↓] Go.wp_at_zero Go.wp_at_succ

/-- A datagram as a value. -/
@[reducible] def udV (u : Ud) (vd : Value) : Value := .agg #[.int .i64 u.src, .int .i64 u.dst, .bool u.bare, vd]

@[reducible] def udC (u : Ud) (vd : Value) : Array Value := #[.int .i64 u.src, .int .i64 u.dst, .bool u.bare, vd]

theorem pts3 {w : World} {v1 v2 v3 : Value} {l1 l2 l3 : List Int} (t : TypeId) (h1 : Bts w v1 l1) (h2 : Bts w v2 l2) (h3 : Bts w v3 l3) : Pts (w.alloc (.cells #[v1, v2, v3] t)) w.heap.size 0 [l1, l2, l3] := by
  have b := below_alloc w (.cells #[v1, v2, v3] t)
  intro i hi
  have : i = 0 ∨ i = 1 ∨ i = 2 := by simp at hi; omega
  rcases this with rfl | rfl | rfl
  · exact ⟨v1, by rw [World.cell?_alloc_mark w #[v1, v2, v3] t (0, 0)]; rfl, h1.later b⟩
  · exact ⟨v2, by rw [World.cell?_alloc_mark w #[v1, v2, v3] t (0, 0)]; rfl, h2.later b⟩
  · exact ⟨v3, by rw [World.cell?_alloc_mark w #[v1, v2, v3] t (0, 0)]; rfl, h3.later b⟩

theorem pts2 {w : World} {v1 v2 : Value} {l1 l2 : List Int} (t : TypeId) (h1 : Bts w v1 l1) (h2 : Bts w v2 l2) : Pts (w.alloc (.cells #[v1, v2] t)) w.heap.size 0 [l1, l2] := by
  have b := below_alloc w (.cells #[v1, v2] t)
  intro i hi
  have : i = 0 ∨ i = 1 := by simp at hi; omega
  rcases this with rfl | rfl
  · exact ⟨v1, by rw [World.cell?_alloc_mark w #[v1, v2] t (0, 0)]; rfl, h1.later b⟩
  · exact ⟨v2, by rw [World.cell?_alloc_mark w #[v1, v2] t (0, 0)]; rfl, h2.later b⟩

theorem Bts.bytes {w : World} {v : Value} {l : List Int} (h : Bts w v l) : isBytes l := by
  obtain ⟨a, cap, b, off, h1, h2, h3, h4, h5, h6⟩ := h; exact h4

theorem sum2 (w : World) (N : Nat) (v1 v2 : Value) (l1 l2 : List Int) (t : TypeId) (hN : N = w.heap.size) (h1 : Bts w v1 l1) (h2 : Bts w v2 l2) (hbig : l1.length + l2.length ≤ 1099511627776) :
    Calls Try.prog 57 #[.slice (some ⟨N, 0, none⟩) 2 2] (w.alloc (.cells #[v1, v2] t)) fun e w' => e = .returned (.int .i64 (fold16 (ws (l1 ++ l2)))) ∧ w' = w.alloc (.cells #[v1, v2] t) := by
  subst hN
  have := sum_any (some ⟨w.heap.size, 0, none⟩) w.heap.size 0 2 [l1, l2] (w.alloc (.cells #[v1, v2] t)) (by simp) (by decide) (.inl rfl) (pts2 t h1 h2) (by simpa using hbig) (by simpa using isBytes_append h1.bytes h2.bytes)
  simpa using this

theorem uhead_bts {w : World} {G : Nat} {u : Ud} {c : Int} {L : List Int} (h : Sees w G 0 L) (e : L = headU u c) : Bts w (.slice (some ⟨G, 0, none⟩) 8 8) (headU u c) := by
  subst e
  exact ⟨_, 8, G, 0, rfl, by rw [headU_length]; exact Nat.le_refl _, by decide, headU_bytes u c, .inl rfl, h⟩
