/-
  No cell of these rows narrows 'for every input' (looked for: loops, veiled, ifaces, maps, wideKeys, modest, calm, conditions, laid).
  DERIVED. THE GIVEN ROWS OF THIS SEAT. 5 by the template 'for every input the law returns true; each argument reads behind the call as it read before'; 0 by the template 'total and deterministic' (their statements: YtdejjokgchbgnaaTotals.lean).
  GIVEN WITH THE SEED: the statements are not yours to turn. If you find one false, say at which input.
  Laid BY PROGRAM, IN A SANDBOX (cutbox-rows.mjs): the forced cells as the released guide's own fill.sh prints them over the translation 1f38876f650a9d4f… (all of the seat's roots in one cut). By AI agents, Wed Nov 11 2026. No macro, syntax, notation, axiom, sorry.
-/
import Derived.Test.YtdejjokgchbgnaaChecked
import GoSem.Claim
import GoSem.ClaimJoined
import GoSem.ClaimMapViews
import Derived.JoinedTies
import Derived.KernelRfl
namespace Go.Proofs.Ytdejjokgchbgnaa
/- THE CELL 'sum', in the pinned program and in every row, IS THE sha256 OF THE DUMP (.gsa) THAT YtdejjokgchbgnaaProg.lean LOADS. Nothing in Lean hashes anything: it is a label: what it is worth is what the hold of that sum in a sandbox is worth. -/
noncomputable def Try.pinned : Pinned := { name := "ytdejjokgchbgnaa", sum := "1f38876f650a9d4fdc9c788a3c4a0780ce9cb1bc1ca78c5732052b807ee2aad1", checked := Try.checked }
namespace Rows
def none {H : Type} : Left H := { results := [], args := [] }

/-- 'bailiwicklaw6.FrameKnown': WHATEVER THE INPUT: true; the input reads as it did. -/
def frameKnownSpec : ChangeSpec := { name := "frameKnown", fn := fun _ => fun
  | [] => { results := [.lit (.bool true)], args := [] }
  | _ => none }
def frameKnownRow : OpenClaim := { program := "ytdejjokgchbgnaa", sum := "1f38876f650a9d4fdc9c788a3c4a0780ce9cb1bc1ca78c5732052b807ee2aad1", func := "bailiwick/bailiwicklaw6.FrameKnown", spec := "frameKnown", unfollowed := true, recurses := true, apart := false }
def FrameKnownSaid : Prop := frameKnownRow.holds Try.pinned (OpenSpec.ofChange frameKnownSpec)

/-- ITS FALSE NEIGHBOUR: 'it returns false'. Refute it at one input. -/
def frameKnownWrong : ChangeSpec := { name := "frameKnown", fn := fun _ => fun
  | [] => { results := [.lit (.bool false)], args := [] }
  | _ => none }
def FrameKnownWrongFalsely : Prop := frameKnownRow.holds Try.pinned (OpenSpec.ofChange frameKnownWrong)

/-- 'bailiwicklaw6.FrameReads': WHATEVER THE INPUT: true; the input reads as it did. -/
def frameReadsSpec : ChangeSpec := { name := "frameReads", fn := fun _ => fun
  | [d] => { results := [.lit (.bool true)], args := [d] }
  | _ => none }
def frameReadsRow : OpenClaim := { program := "ytdejjokgchbgnaa", sum := "1f38876f650a9d4fdc9c788a3c4a0780ce9cb1bc1ca78c5732052b807ee2aad1", func := "bailiwick/bailiwicklaw6.FrameReads", spec := "frameReads", unfollowed := true, recurses := true, apart := false }
def FrameReadsSaid : Prop := frameReadsRow.holds Try.pinned (OpenSpec.ofChange frameReadsSpec)

/-- ITS FALSE NEIGHBOUR: 'it returns false'. Refute it at one input. -/
def frameReadsWrong : ChangeSpec := { name := "frameReads", fn := fun _ => fun
  | [d] => { results := [.lit (.bool false)], args := [d] }
  | _ => none }
def FrameReadsWrongFalsely : Prop := frameReadsRow.holds Try.pinned (OpenSpec.ofChange frameReadsWrong)

/-- 'bailiwicklaw6.FrameQuotes': WHATEVER THE INPUT: true; the input reads as it did. -/
def frameQuotesSpec : ChangeSpec := { name := "frameQuotes", fn := fun _ => fun
  | [d] => { results := [.lit (.bool true)], args := [d] }
  | _ => none }
def frameQuotesRow : OpenClaim := { program := "ytdejjokgchbgnaa", sum := "1f38876f650a9d4fdc9c788a3c4a0780ce9cb1bc1ca78c5732052b807ee2aad1", func := "bailiwick/bailiwicklaw6.FrameQuotes", spec := "frameQuotes", unfollowed := true, recurses := true, apart := false }
def FrameQuotesSaid : Prop := frameQuotesRow.holds Try.pinned (OpenSpec.ofChange frameQuotesSpec)

/-- ITS FALSE NEIGHBOUR: 'it returns false'. Refute it at one input. -/
def frameQuotesWrong : ChangeSpec := { name := "frameQuotes", fn := fun _ => fun
  | [d] => { results := [.lit (.bool false)], args := [d] }
  | _ => none }
def FrameQuotesWrongFalsely : Prop := frameQuotesRow.holds Try.pinned (OpenSpec.ofChange frameQuotesWrong)

/-- 'bailiwicklaw6.FrameShort': WHATEVER THE INPUT: true; the input reads as it did. -/
def frameShortSpec : ChangeSpec := { name := "frameShort", fn := fun _ => fun
  | [d1, d2] => { results := [.lit (.bool true)], args := [d1, d2] }
  | _ => none }
def frameShortRow : OpenClaim := { program := "ytdejjokgchbgnaa", sum := "1f38876f650a9d4fdc9c788a3c4a0780ce9cb1bc1ca78c5732052b807ee2aad1", func := "bailiwick/bailiwicklaw6.FrameShort", spec := "frameShort", unfollowed := true, recurses := true, apart := false }
def FrameShortSaid : Prop := frameShortRow.holds Try.pinned (OpenSpec.ofChange frameShortSpec)

/-- ITS FALSE NEIGHBOUR: 'it returns false'. Refute it at one input. -/
def frameShortWrong : ChangeSpec := { name := "frameShort", fn := fun _ => fun
  | [d1, d2] => { results := [.lit (.bool false)], args := [d1, d2] }
  | _ => none }
def FrameShortWrongFalsely : Prop := frameShortRow.holds Try.pinned (OpenSpec.ofChange frameShortWrong)

/-- 'bailiwicklaw6.FrameProtos': WHATEVER THE INPUT: true; the input reads as it did. -/
def frameProtosSpec : ChangeSpec := { name := "frameProtos", fn := fun _ => fun
  | [d] => { results := [.lit (.bool true)], args := [d] }
  | _ => none }
def frameProtosRow : OpenClaim := { program := "ytdejjokgchbgnaa", sum := "1f38876f650a9d4fdc9c788a3c4a0780ce9cb1bc1ca78c5732052b807ee2aad1", func := "bailiwick/bailiwicklaw6.FrameProtos", spec := "frameProtos", unfollowed := true, recurses := true, apart := false }
def FrameProtosSaid : Prop := frameProtosRow.holds Try.pinned (OpenSpec.ofChange frameProtosSpec)

/-- ITS FALSE NEIGHBOUR: 'it returns false'. Refute it at one input. -/
def frameProtosWrong : ChangeSpec := { name := "frameProtos", fn := fun _ => fun
  | [d] => { results := [.lit (.bool false)], args := [d] }
  | _ => none }
def FrameProtosWrongFalsely : Prop := frameProtosRow.holds Try.pinned (OpenSpec.ofChange frameProtosWrong)

/- THE SECOND FORM. 'bulk': how many values and letters a reading holds, each counted each time it is reached (what is shared counts as often as it is met; a slice's spare places count too). A statement '..UptoSaid' is the law's where the arguments, and the package variables that the reading takes, are together of bulk at most 1048576: NARROWER than '..Said'. Prove '..Said' where nothing that the law and all that it calls make is longer than what came in: it says more and counts as full. Else prove '..UptoSaid'. A law counts once. -/
mutual
def uptoBulk {H : Type} : DataW H → Nat
  | .lit (.string bytes) => bytes.length + 1
  | .lit _ => 1
  | .nil => 1
  | .ptr d => uptoBulk d + 1
  | .slice elems spare => uptoBulkAll elems + uptoBulkAll spare + 1
  | .agg parts => uptoBulkAll parts + 1
  | .iface _ d => uptoBulk d + 1
  | .map entries => uptoBulkEntries entries + 1
  | .held _ => 1
def uptoBulkAll {H : Type} : List (DataW H) → Nat
  | [] => 0
  | d :: r => uptoBulk d + uptoBulkAll r
def uptoBulkEntries {H : Type} : List (Lit × DataW H) → Nat
  | [] => 0
  | x :: r => uptoBulkEntry x + uptoBulkEntries r
def uptoBulkEntry {H : Type} : Lit × DataW H → Nat
  | (.string bytes, d) => bytes.length + uptoBulk d + 1
  | (_, d) => uptoBulk d + 1
 end
def uptoSmall : (H : Type) → List (DataW H) → Bool := fun _ ds => decide (uptoBulkAll ds ≤ 1048576)
def OpenSpec.upto (s : _root_.Go.ChangeSpec) : _root_.Go.OpenSpec := { _root_.Go.OpenSpec.ofChange s with cond := some uptoSmall }

/-- 'bailiwicklaw6.FrameKnown', WHERE WHAT IT READS IS OF BULK AT MOST 1048576: true; the input reads as it did. -/
def frameKnownUptoRow : OpenClaim := { program := "ytdejjokgchbgnaa", sum := "1f38876f650a9d4fdc9c788a3c4a0780ce9cb1bc1ca78c5732052b807ee2aad1", func := "bailiwick/bailiwicklaw6.FrameKnown", spec := "frameKnown", unfollowed := true, recurses := true, apart := false, narrowed := true }
def FrameKnownUptoSaid : Prop := frameKnownUptoRow.holds Try.pinned (OpenSpec.upto frameKnownSpec)

/-- 'bailiwicklaw6.FrameReads', WHERE WHAT IT READS IS OF BULK AT MOST 1048576: true; the input reads as it did. -/
def frameReadsUptoRow : OpenClaim := { program := "ytdejjokgchbgnaa", sum := "1f38876f650a9d4fdc9c788a3c4a0780ce9cb1bc1ca78c5732052b807ee2aad1", func := "bailiwick/bailiwicklaw6.FrameReads", spec := "frameReads", unfollowed := true, recurses := true, apart := false, narrowed := true }
def FrameReadsUptoSaid : Prop := frameReadsUptoRow.holds Try.pinned (OpenSpec.upto frameReadsSpec)

/-- 'bailiwicklaw6.FrameQuotes', WHERE WHAT IT READS IS OF BULK AT MOST 1048576: true; the input reads as it did. -/
def frameQuotesUptoRow : OpenClaim := { program := "ytdejjokgchbgnaa", sum := "1f38876f650a9d4fdc9c788a3c4a0780ce9cb1bc1ca78c5732052b807ee2aad1", func := "bailiwick/bailiwicklaw6.FrameQuotes", spec := "frameQuotes", unfollowed := true, recurses := true, apart := false, narrowed := true }
def FrameQuotesUptoSaid : Prop := frameQuotesUptoRow.holds Try.pinned (OpenSpec.upto frameQuotesSpec)

/-- 'bailiwicklaw6.FrameShort', WHERE WHAT IT READS IS OF BULK AT MOST 1048576: true; the input reads as it did. -/
def frameShortUptoRow : OpenClaim := { program := "ytdejjokgchbgnaa", sum := "1f38876f650a9d4fdc9c788a3c4a0780ce9cb1bc1ca78c5732052b807ee2aad1", func := "bailiwick/bailiwicklaw6.FrameShort", spec := "frameShort", unfollowed := true, recurses := true, apart := false, narrowed := true }
def FrameShortUptoSaid : Prop := frameShortUptoRow.holds Try.pinned (OpenSpec.upto frameShortSpec)

/-- 'bailiwicklaw6.FrameProtos', WHERE WHAT IT READS IS OF BULK AT MOST 1048576: true; the input reads as it did. -/
def frameProtosUptoRow : OpenClaim := { program := "ytdejjokgchbgnaa", sum := "1f38876f650a9d4fdc9c788a3c4a0780ce9cb1bc1ca78c5732052b807ee2aad1", func := "bailiwick/bailiwicklaw6.FrameProtos", spec := "frameProtos", unfollowed := true, recurses := true, apart := false, narrowed := true }
def FrameProtosUptoSaid : Prop := frameProtosUptoRow.holds Try.pinned (OpenSpec.upto frameProtosSpec)

end Rows
end Go.Proofs.Ytdejjokgchbgnaa
