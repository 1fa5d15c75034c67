/- What the statements do beside the calls: append of more bytes, a datagram laid in a variable. -/
import Derived.Test.YtdejjokgchbgnaaRow
import Derived.Test.YtdejjokgchbgnaaIpAwake
import Derived.Test.YtdejjokgchbgnaaParse
import Derived.Test.YtdejjokgchbgnaaIpMath2
set_option maxRecDepth 100000
namespace Go.Proofs.Ytdejjokgchbgnaa
open Go.RowKit

theorem parse_ok' (b off len cap : Nat) (l : List Int) (p : Dg) (w : World) (hA : At w b off len cap l) (g : Good l) (hp : dgOf l = p) :
    Calls Try.prog 26 #[.slice (some ⟨b, off, none⟩) len cap] w fun e w' =>
      ∃ a1 k1 a2 k2, e = .returned (.tuple #[ipV p (.slice a1 p.opts.length k1) (.slice a2 p.body.length k2), .int .i64 0]) ∧ Bts w' (.slice a1 p.opts.length k1) p.opts ∧ Bts w' (.slice a2 p.body.length k2) p.body ∧ Below w.heap.size w w' := by
  subst hp; exact parse_ok b off len cap l w hA g
end Go.Proofs.Ytdejjokgchbgnaa
