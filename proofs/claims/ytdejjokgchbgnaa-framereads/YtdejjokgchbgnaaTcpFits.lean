/- The contract of fits. -/
import Derived.Test.YtdejjokgchbgnaaTcpSmall
set_option maxRecDepth 100000
namespace Go.Proofs.Ytdejjokgchbgnaa
open Go.RowKit

/-- A segment as a value. -/
@[reducible] def pcV (p : Pc) (vo vd : Value) : Value := .agg #[.int .i64 p.src, .int .i64 p.dst, .int .u32 p.seq, .int .u32 p.ack, .int .i64 p.flags, .int .i64 p.window, .int .i64 p.urgent, vo, vd]

@[reducible] def pcC (p : Pc) (vo vd : Value) : Array Value := #[.int .i64 p.src, .int .i64 p.dst, .int .u32 p.seq, .int .u32 p.ack, .int .i64 p.flags, .int .i64 p.window, .int .i64 p.urgent, vo, vd]

def argB (p : Pc) : Bool := decide (TArg p)

theorem fits_two (w : World) (f : Int) (C : Array Value) (t : TypeId) : Below w.heap.size w ((w.alloc (.cells C t)).alloc (.cells #[.int .i64 f] 3)) :=
  below_trans (below_alloc _ _) (below_alloc _ _)

theorem flag_cell (w : World) (f : Int) : (w.alloc (.cells #[.int .i64 f] 3)).cell? ⟨w.heap.size, 0, none⟩ = some (.int .i64 f) := by
  rw [World.cell?_alloc_mark w #[.int .i64 f] 3 (0, 0) 0]; rfl
