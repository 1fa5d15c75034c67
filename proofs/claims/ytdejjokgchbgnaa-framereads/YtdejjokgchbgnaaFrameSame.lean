/- The contract of Same in the document's own answer for chapter 6. -/
import Derived.Test.YtdejjokgchbgnaaFrameReadAll
import Derived.Test.YtdejjokgchbgnaaIpAwake
set_option maxRecDepth 100000
namespace Go.Proofs.Ytdejjokgchbgnaa
open Go.RowKit

set_option maxHeartbeats 4000000 in
theorem rsame_one (p : Dg) (r : Rs) (a1 a2 a3 a4 : Option Addr) (n1 n2 n3 n4 k1 k2 k3 k4 : Nat) (w : World) (h1 : Bts w (.slice a1 n1 k1) p.opts) (h2 : Bts w (.slice a2 n2 k2) p.body) (h3 : Bts w (.slice a3 n3 k3) p.opts) (h4 : Bts w (.slice a4 n4 k4) p.body) :
    Calls Try.prog 14 #[frV p (.slice a1 n1 k1) (.slice a2 n2 k2) r, frV p (.slice a3 n3 k3) (.slice a4 n4 k4) r] w fun e w' => e = .returned (.bool true) ∧ Below w.heap.size w w' := by
  have hb1 := below_alloc w (.cells (frC p (.slice a1 n1 k1) (.slice a2 n2 k2) r) 37)
  have hb2 := below_alloc (w.alloc (.cells (frC p (.slice a1 n1 k1) (.slice a2 n2 k2) r) 37)) (.cells (frC p (.slice a3 n3 k3) (.slice a4 n4 k4) r) 37)
  have hb := below_trans hb1 hb2
  have hs := ipsame_one p _ _ _ _ _ (h1.later hb) (h2.later hb) (h3.later hb) (h4.later hb)
  clear h1 h2 h3 h4
  go_enter Try.func14, Try.ntmps14
  go_wp2_with fail
  refine hs.mono ?_
  rintro e w3 ⟨rfl, hb3⟩
  have A := fc_new (n := w.heap.size) rfl (below_trans hb2 hb3)
  have B := fc_new (n := w.heap.size + 1) (by simp) hb3
  have x0 : w3.cell? ⟨w.heap.size, 0, none⟩ = some (.int .i64 p.tos) := A.c 0 _ rfl
  have x1 : w3.cell? ⟨w.heap.size, 1, none⟩ = some (.int .i64 p.id) := A.c 1 _ rfl
  have x2 : w3.cell? ⟨w.heap.size, 2, none⟩ = some (.bool p.df) := A.c 2 _ rfl
  have x3 : w3.cell? ⟨w.heap.size, 3, none⟩ = some (.bool p.mf) := A.c 3 _ rfl
  have x4 : w3.cell? ⟨w.heap.size, 4, none⟩ = some (.int .i64 p.off) := A.c 4 _ rfl
  have x5 : w3.cell? ⟨w.heap.size, 5, none⟩ = some (.int .i64 p.ttl) := A.c 5 _ rfl
  have x6 : w3.cell? ⟨w.heap.size, 6, none⟩ = some (.int .i64 p.proto) := A.c 6 _ rfl
  have x7 : w3.cell? ⟨w.heap.size, 7, none⟩ = some (.int .u32 p.src) := A.c 7 _ rfl
  have x8 : w3.cell? ⟨w.heap.size, 8, none⟩ = some (.int .u32 p.dst) := A.c 8 _ rfl
  have x9 : w3.cell? ⟨w.heap.size, 9, none⟩ = some (.slice a1 n1 k1) := A.c 9 _ rfl
  have x10 : w3.cell? ⟨w.heap.size, 10, none⟩ = some (.slice a2 n2 k2) := A.c 10 _ rfl
  have x11 : w3.cell? ⟨w.heap.size, 11, none⟩ = some (.int .i64 r.kind) := A.c 11 _ rfl
  have x12 : w3.cell? ⟨w.heap.size, 12, none⟩ = some (.int .u32 p.src) := A.c 12 _ rfl
  have x13 : w3.cell? ⟨w.heap.size, 13, none⟩ = some (.int .i64 r.fp) := A.c 13 _ rfl
  have x14 : w3.cell? ⟨w.heap.size, 14, none⟩ = some (.int .u32 p.dst) := A.c 14 _ rfl
  have x15 : w3.cell? ⟨w.heap.size, 15, none⟩ = some (.int .i64 r.tp) := A.c 15 _ rfl
  have x16 : w3.cell? ⟨w.heap.size, 16, none⟩ = some (.int .i64 r.flags) := A.c 16 _ rfl
  have x17 : w3.cell? ⟨w.heap.size, 17, none⟩ = some (.int .i64 r.inner.proto) := A.c 17 _ rfl
  have x18 : w3.cell? ⟨w.heap.size, 18, none⟩ = some (.int .u32 r.inner.sa) := A.c 18 _ rfl
  have x19 : w3.cell? ⟨w.heap.size, 19, none⟩ = some (.int .i64 r.inner.sp) := A.c 19 _ rfl
  have x20 : w3.cell? ⟨w.heap.size, 20, none⟩ = some (.int .u32 r.inner.da) := A.c 20 _ rfl
  have x21 : w3.cell? ⟨w.heap.size, 21, none⟩ = some (.int .i64 r.inner.dp) := A.c 21 _ rfl
  have y0 : w3.cell? ⟨w.heap.size + 1, 0, none⟩ = some (.int .i64 p.tos) := B.c 0 _ rfl
  have y1 : w3.cell? ⟨w.heap.size + 1, 1, none⟩ = some (.int .i64 p.id) := B.c 1 _ rfl
  have y2 : w3.cell? ⟨w.heap.size + 1, 2, none⟩ = some (.bool p.df) := B.c 2 _ rfl
  have y3 : w3.cell? ⟨w.heap.size + 1, 3, none⟩ = some (.bool p.mf) := B.c 3 _ rfl
  have y4 : w3.cell? ⟨w.heap.size + 1, 4, none⟩ = some (.int .i64 p.off) := B.c 4 _ rfl
  have y5 : w3.cell? ⟨w.heap.size + 1, 5, none⟩ = some (.int .i64 p.ttl) := B.c 5 _ rfl
  have y6 : w3.cell? ⟨w.heap.size + 1, 6, none⟩ = some (.int .i64 p.proto) := B.c 6 _ rfl
  have y7 : w3.cell? ⟨w.heap.size + 1, 7, none⟩ = some (.int .u32 p.src) := B.c 7 _ rfl
  have y8 : w3.cell? ⟨w.heap.size + 1, 8, none⟩ = some (.int .u32 p.dst) := B.c 8 _ rfl
  have y9 : w3.cell? ⟨w.heap.size + 1, 9, none⟩ = some (.slice a3 n3 k3) := B.c 9 _ rfl
  have y10 : w3.cell? ⟨w.heap.size + 1, 10, none⟩ = some (.slice a4 n4 k4) := B.c 10 _ rfl
  have y11 : w3.cell? ⟨w.heap.size + 1, 11, none⟩ = some (.int .i64 r.kind) := B.c 11 _ rfl
  have y12 : w3.cell? ⟨w.heap.size + 1, 12, none⟩ = some (.int .u32 p.src) := B.c 12 _ rfl
  have y13 : w3.cell? ⟨w.heap.size + 1, 13, none⟩ = some (.int .i64 r.fp) := B.c 13 _ rfl
  have y14 : w3.cell? ⟨w.heap.size + 1, 14, none⟩ = some (.int .u32 p.dst) := B.c 14 _ rfl
  have y15 : w3.cell? ⟨w.heap.size + 1, 15, none⟩ = some (.int .i64 r.tp) := B.c 15 _ rfl
  have y16 : w3.cell? ⟨w.heap.size + 1, 16, none⟩ = some (.int .i64 r.flags) := B.c 16 _ rfl
  have y17 : w3.cell? ⟨w.heap.size + 1, 17, none⟩ = some (.int .i64 r.inner.proto) := B.c 17 _ rfl
  have y18 : w3.cell? ⟨w.heap.size + 1, 18, none⟩ = some (.int .u32 r.inner.sa) := B.c 18 _ rfl
  have y19 : w3.cell? ⟨w.heap.size + 1, 19, none⟩ = some (.int .i64 r.inner.sp) := B.c 19 _ rfl
  have y20 : w3.cell? ⟨w.heap.size + 1, 20, none⟩ = some (.int .u32 r.inner.da) := B.c 20 _ rfl
  have y21 : w3.cell? ⟨w.heap.size + 1, 21, none⟩ = some (.int .i64 r.inner.dp) := B.c 21 _ rfl
  have bel := below_trans hb hb3
  clear A B hb hb1 hb2 hb3 hs
  go_wp2
  go_ret
  exact ⟨rfl, bel⟩
end Go.Proofs.Ytdejjokgchbgnaa
