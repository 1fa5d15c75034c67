/- The contracts of limit, totalOf, lay, flag and examine. -/
import Derived.Test.YtdejjokgchbgnaaPut
import Derived.Test.YtdejjokgchbgnaaRefuse
import Derived.Test.YtdejjokgchbgnaaIpMath
set_option maxRecDepth 100000
namespace Go.Proofs.Ytdejjokgchbgnaa
open Go.RowKit

/-- A datagram as a value. -/
@[reducible] def ipV (p : Dg) (vo vb : Value) : Value :=
  .agg #[.int .i64 p.tos, .int .i64 p.id, .bool p.df, .bool p.mf, .int .i64 p.off, .int .i64 p.ttl, .int .i64 p.proto, .int .u32 p.src, .int .u32 p.dst, vo, vb]

@[reducible] def ipC (p : Dg) (vo vb : Value) : Array Value :=
  #[.int .i64 p.tos, .int .i64 p.id, .bool p.df, .bool p.mf, .int .i64 p.off, .int .i64 p.ttl, .int .i64 p.proto, .int .u32 p.src, .int .u32 p.dst, vo, vb]
