/-
  No cell of these rows narrows 'for every input' (looked for: loops, veiled, ifaces, maps, wideKeys, modest, calm, conditions, laid).
  DERIVED. THE GIVEN ROWS OF THIS SEAT. 5 by the template 'for every input the law returns true; each argument reads behind the call as it read before'; 0 by the template 'total and deterministic' (their statements: YtejknbkleinjbaaTotals.lean).
  GIVEN WITH THE SEED: the statements are not yours to turn. If you find one false, say at which input.
  Laid BY PROGRAM, IN A SANDBOX (cutbox-rows.mjs): the forced cells as the released guide's own fill.sh prints them over the translation d358d3640b9f45b4… (all of the seat's roots in one cut). By AI agents, Wed Nov 11 2026. No macro, syntax, notation, axiom, sorry.
-/
import Derived.Test.YtejknbkleinjbaaChecked
import GoSem.Claim
import GoSem.ClaimJoined
import GoSem.ClaimMapViews
import Derived.JoinedTies
import Derived.KernelRfl
namespace Go.Proofs.Ytejknbkleinjbaa
/- THE CELL 'sum', in the pinned program and in every row, IS THE sha256 OF THE DUMP (.gsa) THAT YtejknbkleinjbaaProg.lean LOADS. Nothing in Lean hashes anything: it is a label: what it is worth is what the hold of that sum in a sandbox is worth. -/
noncomputable def Try.pinned : Pinned := { name := "ytejknbkleinjbaa", sum := "d358d3640b9f45b4da62362ec42c8189377a980755a22af625e0091e0ffe24e1", checked := Try.checked }
namespace Rows
def none {H : Type} : Left H := { results := [], args := [] }

/-- 'bailiwicklaw5.IcmpKnown': WHATEVER THE INPUT: true; the input reads as it did. -/
def icmpKnownSpec : ChangeSpec := { name := "icmpKnown", fn := fun _ => fun
  | [] => { results := [.lit (.bool true)], args := [] }
  | _ => none }
def icmpKnownRow : OpenClaim := { program := "ytejknbkleinjbaa", sum := "d358d3640b9f45b4da62362ec42c8189377a980755a22af625e0091e0ffe24e1", func := "bailiwick/bailiwicklaw5.IcmpKnown", spec := "icmpKnown", inPlace := ["internal/bytealg.MakeNoZero"], apart := false }
def IcmpKnownSaid : Prop := icmpKnownRow.holds Try.pinned (OpenSpec.ofChange icmpKnownSpec)

/-- ITS FALSE NEIGHBOUR: 'it returns false'. Refute it at one input. -/
def icmpKnownWrong : ChangeSpec := { name := "icmpKnown", fn := fun _ => fun
  | [] => { results := [.lit (.bool false)], args := [] }
  | _ => none }
def IcmpKnownWrongFalsely : Prop := icmpKnownRow.holds Try.pinned (OpenSpec.ofChange icmpKnownWrong)

/-- 'bailiwicklaw5.IcmpParses': WHATEVER THE INPUT: true; the input reads as it did. -/
def icmpParsesSpec : ChangeSpec := { name := "icmpParses", fn := fun _ => fun
  | [d] => { results := [.lit (.bool true)], args := [d] }
  | _ => none }
def icmpParsesRow : OpenClaim := { program := "ytejknbkleinjbaa", sum := "d358d3640b9f45b4da62362ec42c8189377a980755a22af625e0091e0ffe24e1", func := "bailiwick/bailiwicklaw5.IcmpParses", spec := "icmpParses", inPlace := ["internal/bytealg.MakeNoZero"], apart := false }
def IcmpParsesSaid : Prop := icmpParsesRow.holds Try.pinned (OpenSpec.ofChange icmpParsesSpec)

/-- ITS FALSE NEIGHBOUR: 'it returns false'. Refute it at one input. -/
def icmpParsesWrong : ChangeSpec := { name := "icmpParses", fn := fun _ => fun
  | [d] => { results := [.lit (.bool false)], args := [d] }
  | _ => none }
def IcmpParsesWrongFalsely : Prop := icmpParsesRow.holds Try.pinned (OpenSpec.ofChange icmpParsesWrong)

/-- 'bailiwicklaw5.IcmpBuilds': WHATEVER THE INPUT: true; the input reads as it did. -/
def icmpBuildsSpec : ChangeSpec := { name := "icmpBuilds", fn := fun _ => fun
  | [d] => { results := [.lit (.bool true)], args := [d] }
  | _ => none }
def icmpBuildsRow : OpenClaim := { program := "ytejknbkleinjbaa", sum := "d358d3640b9f45b4da62362ec42c8189377a980755a22af625e0091e0ffe24e1", func := "bailiwick/bailiwicklaw5.IcmpBuilds", spec := "icmpBuilds", inPlace := ["internal/bytealg.MakeNoZero"], apart := false }
def IcmpBuildsSaid : Prop := icmpBuildsRow.holds Try.pinned (OpenSpec.ofChange icmpBuildsSpec)

/-- ITS FALSE NEIGHBOUR: 'it returns false'. Refute it at one input. -/
def icmpBuildsWrong : ChangeSpec := { name := "icmpBuilds", fn := fun _ => fun
  | [d] => { results := [.lit (.bool false)], args := [d] }
  | _ => none }
def IcmpBuildsWrongFalsely : Prop := icmpBuildsRow.holds Try.pinned (OpenSpec.ofChange icmpBuildsWrong)

/-- 'bailiwicklaw5.IcmpBack': WHATEVER THE INPUT: true; the input reads as it did. -/
def icmpBackSpec : ChangeSpec := { name := "icmpBack", fn := fun _ => fun
  | [d1, d2] => { results := [.lit (.bool true)], args := [d1, d2] }
  | _ => none }
def icmpBackRow : OpenClaim := { program := "ytejknbkleinjbaa", sum := "d358d3640b9f45b4da62362ec42c8189377a980755a22af625e0091e0ffe24e1", func := "bailiwick/bailiwicklaw5.IcmpBack", spec := "icmpBack", inPlace := ["internal/bytealg.MakeNoZero"], apart := false }
def IcmpBackSaid : Prop := icmpBackRow.holds Try.pinned (OpenSpec.ofChange icmpBackSpec)

/-- ITS FALSE NEIGHBOUR: 'it returns false'. Refute it at one input. -/
def icmpBackWrong : ChangeSpec := { name := "icmpBack", fn := fun _ => fun
  | [d1, d2] => { results := [.lit (.bool false)], args := [d1, d2] }
  | _ => none }
def IcmpBackWrongFalsely : Prop := icmpBackRow.holds Try.pinned (OpenSpec.ofChange icmpBackWrong)

/-- 'bailiwicklaw5.IcmpKinds': WHATEVER THE INPUT: true; the input reads as it did. -/
def icmpKindsSpec : ChangeSpec := { name := "icmpKinds", fn := fun _ => fun
  | [d1, d2, d3] => { results := [.lit (.bool true)], args := [d1, d2, d3] }
  | _ => none }
def icmpKindsRow : OpenClaim := { program := "ytejknbkleinjbaa", sum := "d358d3640b9f45b4da62362ec42c8189377a980755a22af625e0091e0ffe24e1", func := "bailiwick/bailiwicklaw5.IcmpKinds", spec := "icmpKinds", inPlace := ["internal/bytealg.MakeNoZero"], apart := false }
def IcmpKindsSaid : Prop := icmpKindsRow.holds Try.pinned (OpenSpec.ofChange icmpKindsSpec)

/-- ITS FALSE NEIGHBOUR: 'it returns false'. Refute it at one input. -/
def icmpKindsWrong : ChangeSpec := { name := "icmpKinds", fn := fun _ => fun
  | [d1, d2, d3] => { results := [.lit (.bool false)], args := [d1, d2, d3] }
  | _ => none }
def IcmpKindsWrongFalsely : Prop := icmpKindsRow.holds Try.pinned (OpenSpec.ofChange icmpKindsWrong)

/- THE SECOND FORM. 'bulk': how many values and letters a reading holds, each counted each time it is reached (what is shared counts as often as it is met; a slice's spare places count too). A statement '..UptoSaid' is the law's where the arguments, and the package variables that the reading takes, are together of bulk at most 1048576: NARROWER than '..Said'. Prove '..Said' where nothing that the law and all that it calls make is longer than what came in: it says more and counts as full. Else prove '..UptoSaid'. A law counts once. -/
mutual
def uptoBulk {H : Type} : DataW H → Nat
  | .lit (.string bytes) => bytes.length + 1
  | .lit _ => 1
  | .nil => 1
  | .ptr d => uptoBulk d + 1
  | .slice elems spare => uptoBulkAll elems + uptoBulkAll spare + 1
  | .agg parts => uptoBulkAll parts + 1
  | .iface _ d => uptoBulk d + 1
  | .map entries => uptoBulkEntries entries + 1
  | .held _ => 1
def uptoBulkAll {H : Type} : List (DataW H) → Nat
  | [] => 0
  | d :: r => uptoBulk d + uptoBulkAll r
def uptoBulkEntries {H : Type} : List (Lit × DataW H) → Nat
  | [] => 0
  | x :: r => uptoBulkEntry x + uptoBulkEntries r
def uptoBulkEntry {H : Type} : Lit × DataW H → Nat
  | (.string bytes, d) => bytes.length + uptoBulk d + 1
  | (_, d) => uptoBulk d + 1
 end
def uptoSmall : (H : Type) → List (DataW H) → Bool := fun _ ds => decide (uptoBulkAll ds ≤ 1048576)
def OpenSpec.upto (s : _root_.Go.ChangeSpec) : _root_.Go.OpenSpec := { _root_.Go.OpenSpec.ofChange s with cond := some uptoSmall }

/-- 'bailiwicklaw5.IcmpKnown', WHERE WHAT IT READS IS OF BULK AT MOST 1048576: true; the input reads as it did. -/
def icmpKnownUptoRow : OpenClaim := { program := "ytejknbkleinjbaa", sum := "d358d3640b9f45b4da62362ec42c8189377a980755a22af625e0091e0ffe24e1", func := "bailiwick/bailiwicklaw5.IcmpKnown", spec := "icmpKnown", inPlace := ["internal/bytealg.MakeNoZero"], apart := false, narrowed := true }
def IcmpKnownUptoSaid : Prop := icmpKnownUptoRow.holds Try.pinned (OpenSpec.upto icmpKnownSpec)

/-- 'bailiwicklaw5.IcmpParses', WHERE WHAT IT READS IS OF BULK AT MOST 1048576: true; the input reads as it did. -/
def icmpParsesUptoRow : OpenClaim := { program := "ytejknbkleinjbaa", sum := "d358d3640b9f45b4da62362ec42c8189377a980755a22af625e0091e0ffe24e1", func := "bailiwick/bailiwicklaw5.IcmpParses", spec := "icmpParses", inPlace := ["internal/bytealg.MakeNoZero"], apart := false, narrowed := true }
def IcmpParsesUptoSaid : Prop := icmpParsesUptoRow.holds Try.pinned (OpenSpec.upto icmpParsesSpec)

/-- 'bailiwicklaw5.IcmpBuilds', WHERE WHAT IT READS IS OF BULK AT MOST 1048576: true; the input reads as it did. -/
def icmpBuildsUptoRow : OpenClaim := { program := "ytejknbkleinjbaa", sum := "d358d3640b9f45b4da62362ec42c8189377a980755a22af625e0091e0ffe24e1", func := "bailiwick/bailiwicklaw5.IcmpBuilds", spec := "icmpBuilds", inPlace := ["internal/bytealg.MakeNoZero"], apart := false, narrowed := true }
def IcmpBuildsUptoSaid : Prop := icmpBuildsUptoRow.holds Try.pinned (OpenSpec.upto icmpBuildsSpec)

/-- 'bailiwicklaw5.IcmpBack', WHERE WHAT IT READS IS OF BULK AT MOST 1048576: true; the input reads as it did. -/
def icmpBackUptoRow : OpenClaim := { program := "ytejknbkleinjbaa", sum := "d358d3640b9f45b4da62362ec42c8189377a980755a22af625e0091e0ffe24e1", func := "bailiwick/bailiwicklaw5.IcmpBack", spec := "icmpBack", inPlace := ["internal/bytealg.MakeNoZero"], apart := false, narrowed := true }
def IcmpBackUptoSaid : Prop := icmpBackUptoRow.holds Try.pinned (OpenSpec.upto icmpBackSpec)

/-- 'bailiwicklaw5.IcmpKinds', WHERE WHAT IT READS IS OF BULK AT MOST 1048576: true; the input reads as it did. -/
def icmpKindsUptoRow : OpenClaim := { program := "ytejknbkleinjbaa", sum := "d358d3640b9f45b4da62362ec42c8189377a980755a22af625e0091e0ffe24e1", func := "bailiwick/bailiwicklaw5.IcmpKinds", spec := "icmpKinds", inPlace := ["internal/bytealg.MakeNoZero"], apart := false, narrowed := true }
def IcmpKindsUptoSaid : Prop := icmpKindsUptoRow.holds Try.pinned (OpenSpec.upto icmpKindsSpec)

end Rows
end Go.Proofs.Ytejknbkleinjbaa
