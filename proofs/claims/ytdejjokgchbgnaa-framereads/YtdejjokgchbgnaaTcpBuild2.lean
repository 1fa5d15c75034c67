/- The contract of Build. -/
import Derived.Test.YtdejjokgchbgnaaTcpBuild
set_option maxRecDepth 100000
namespace Go.Proofs.Ytdejjokgchbgnaa
open Go.RowKit
attribute [local go_sem ↓] Go.wp_at_zero Go.wp_at_succ

theorem boxesP {w w' : World} {p : Pc} {vo vd : Value} {t : TypeId} (hb : Below (w.alloc (.cells (pcC p vo vd) t)).heap.size (w.alloc (.cells (pcC p vo vd) t)) w') :
    w'.cell? ⟨w.heap.size, 0, none⟩ = some (.int .i64 p.src) ∧ w'.cell? ⟨w.heap.size, 1, none⟩ = some (.int .i64 p.dst) ∧ w'.cell? ⟨w.heap.size, 2, none⟩ = some (.int .u32 p.seq) ∧ w'.cell? ⟨w.heap.size, 3, none⟩ = some (.int .u32 p.ack) ∧ w'.cell? ⟨w.heap.size, 4, none⟩ = some (.int .i64 p.flags) ∧
      w'.cell? ⟨w.heap.size, 5, none⟩ = some (.int .i64 p.window) ∧ w'.cell? ⟨w.heap.size, 6, none⟩ = some (.int .i64 p.urgent) ∧ w'.cell? ⟨w.heap.size, 7, none⟩ = some vo ∧ w'.cell? ⟨w.heap.size, 8, none⟩ = some vd :=
  ⟨box_cell hb 0 _ rfl, box_cell hb 1 _ rfl, box_cell hb 2 _ rfl, box_cell hb 3 _ rfl, box_cell hb 4 _ rfl, box_cell hb 5 _ rfl, box_cell hb 6 _ rfl, box_cell hb 7 _ rfl, box_cell hb 8 _ rfl⟩

theorem thead_bts {w : World} {G : Nat} {p : Pc} {c : Int} {n : Nat} (h : Sees w G 0 (headT p c)) (hn : n = 20 + p.opts.length) (hl : p.opts.length ≤ 40) (hb : isBytes p.opts) : Bts w (.slice (some ⟨G, 0, none⟩) n n) (headT p c) := by
  subst hn
  exact ⟨_, 20 + p.opts.length, G, 0, by rw [headT_length], by rw [headT_length]; exact Nat.le_refl _, by unfold maxLen; omega, headT_bytes p c hb, .inl rfl, h⟩
