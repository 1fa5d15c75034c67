/- The contract of Build. -/
import Derived.Test.YtdejjokgchbgnaaRow
import Derived.Test.YtdejjokgchbgnaaHeader
import Derived.Test.YtdejjokgchbgnaaExamine
import Derived.Test.YtdejjokgchbgnaaCatch
set_option maxRecDepth 100000
namespace Go.Proofs.Ytdejjokgchbgnaa
open Go.RowKit
attribute [local go_sem ↓] Go.wp_at_zero Go.wp_at_succ

/-- The cells of a datagram that was boxed. -/
theorem boxes {w w' : World} {p : Dg} {vo vb : Value} {t : TypeId} (hb : Below (w.alloc (.cells (ipC p vo vb) t)).heap.size (w.alloc (.cells (ipC p vo vb) t)) w') :
    w'.cell? ⟨w.heap.size, 0, none⟩ = some (.int .i64 p.tos) ∧ w'.cell? ⟨w.heap.size, 1, none⟩ = some (.int .i64 p.id) ∧ w'.cell? ⟨w.heap.size, 2, none⟩ = some (.bool p.df) ∧ w'.cell? ⟨w.heap.size, 3, none⟩ = some (.bool p.mf) ∧
    w'.cell? ⟨w.heap.size, 4, none⟩ = some (.int .i64 p.off) ∧ w'.cell? ⟨w.heap.size, 5, none⟩ = some (.int .i64 p.ttl) ∧ w'.cell? ⟨w.heap.size, 6, none⟩ = some (.int .i64 p.proto) ∧ w'.cell? ⟨w.heap.size, 7, none⟩ = some (.int .u32 p.src) ∧
    w'.cell? ⟨w.heap.size, 8, none⟩ = some (.int .u32 p.dst) ∧ w'.cell? ⟨w.heap.size, 9, none⟩ = some vo ∧ w'.cell? ⟨w.heap.size, 10, none⟩ = some vb :=
  ⟨box_cell hb 0 _ rfl, box_cell hb 1 _ rfl, box_cell hb 2 _ rfl, box_cell hb 3 _ rfl, box_cell hb 4 _ rfl, box_cell hb 5 _ rfl, box_cell hb 6 _ rfl, box_cell hb 7 _ rfl, box_cell hb 8 _ rfl, box_cell hb 9 _ rfl, box_cell hb 10 _ rfl⟩

theorem head_bts {w : World} {G : Nat} {p : Dg} {c : Int} (h : Sees w G 0 (headB p c)) (hb : isBytes p.opts) (hl : p.opts.length ≤ 2028) : Bts w (.slice (some ⟨G, 0, none⟩) (20 + p.opts.length) (20 + p.opts.length)) (headB p c) :=
  ⟨_, 20 + p.opts.length, G, 0, by rw [head_length], by rw [head_length]; exact Nat.le_refl _, by unfold maxLen; omega, head_bytes p c hb, .inl rfl, h⟩

theorem res_later {w1 w' : World} {n : Nat} {a b : Value} (h : w1.cell? ⟨n + 1, 0, none⟩ = some a ∧ w1.frozen? ⟨n + 1, 0, none⟩ = false ∧ w1.cell? ⟨n + 1 + 1, 0, none⟩ = some b ∧ w1.frozen? ⟨n + 1 + 1, 0, none⟩ = false)
    (hsz : n + 1 + 1 + 1 ≤ w1.heap.size) (hb : Below w1.heap.size w1 w') : w'.cell? ⟨n + 1, 0, none⟩ = some a ∧ w'.frozen? ⟨n + 1, 0, none⟩ = false ∧ w'.cell? ⟨n + 1 + 1, 0, none⟩ = some b ∧ w'.frozen? ⟨n + 1 + 1, 0, none⟩ = false :=
  ⟨cell_later hb h.1, by rw [hb.frozen (by show n + 1 < _; omega)]; exact h.2.1, cell_later hb h.2.2.1, by rw [hb.frozen (by show n + 1 + 1 < _; omega)]; exact h.2.2.2⟩
