/-
  No cell of these rows narrows 'for every input' (looked for: loops, veiled, ifaces, maps, wideKeys, modest, calm, conditions, laid).
  DERIVED. THE GIVEN ROWS OF THIS SEAT. 5 by the template 'for every input the law returns true; each argument reads behind the call as it read before'; 0 by the template 'total and deterministic' (their statements: YtgeeoggbijimoaaTotals.lean).
  GIVEN WITH THE SEED: the statements are not yours to turn. If you find one false, say at which input.
  Laid BY PROGRAM, IN A SANDBOX (cutbox-rows.mjs): the forced cells as the released guide's own fill.sh prints them over the translation 6fddae43be26e35d… (all of the seat's roots in one cut). By AI agents, Wed Nov 11 2026. No macro, syntax, notation, axiom, sorry.
-/
import Derived.Test.YtgeeoggbijimoaaChecked
import GoSem.Claim
import GoSem.ClaimJoined
import GoSem.ClaimMapViews
import Derived.JoinedTies
import Derived.KernelRfl
namespace Go.Proofs.Ytgeeoggbijimoaa
/- THE CELL 'sum', in the pinned program and in every row, IS THE sha256 OF THE DUMP (.gsa) THAT YtgeeoggbijimoaaProg.lean LOADS. Nothing in Lean hashes anything: it is a label: what it is worth is what the hold of that sum in a sandbox is worth. -/
noncomputable def Try.pinned : Pinned := { name := "ytgeeoggbijimoaa", sum := "6fddae43be26e35d5839612933d8a8d782b95968fb5b31a065bc721d1c92d18f", checked := Try.checked }
namespace Rows
def none {H : Type} : Left H := { results := [], args := [] }

/-- 'bailiwicklaw4.TcpKnown': WHATEVER THE INPUT: true; the input reads as it did. -/
def tcpKnownSpec : ChangeSpec := { name := "tcpKnown", fn := fun _ => fun
  | [] => { results := [.lit (.bool true)], args := [] }
  | _ => none }
def tcpKnownRow : OpenClaim := { program := "ytgeeoggbijimoaa", sum := "6fddae43be26e35d5839612933d8a8d782b95968fb5b31a065bc721d1c92d18f", func := "bailiwick/bailiwicklaw4.TcpKnown", spec := "tcpKnown", inPlace := ["internal/bytealg.MakeNoZero"], unfollowed := true, recurses := true, apart := false }
def TcpKnownSaid : Prop := tcpKnownRow.holds Try.pinned (OpenSpec.ofChange tcpKnownSpec)

/-- ITS FALSE NEIGHBOUR: 'it returns false'. Refute it at one input. -/
def tcpKnownWrong : ChangeSpec := { name := "tcpKnown", fn := fun _ => fun
  | [] => { results := [.lit (.bool false)], args := [] }
  | _ => none }
def TcpKnownWrongFalsely : Prop := tcpKnownRow.holds Try.pinned (OpenSpec.ofChange tcpKnownWrong)

/-- 'bailiwicklaw4.TcpParses': WHATEVER THE INPUT: true; the input reads as it did. -/
def tcpParsesSpec : ChangeSpec := { name := "tcpParses", fn := fun _ => fun
  | [d1, d2, d3] => { results := [.lit (.bool true)], args := [d1, d2, d3] }
  | _ => none }
def tcpParsesRow : OpenClaim := { program := "ytgeeoggbijimoaa", sum := "6fddae43be26e35d5839612933d8a8d782b95968fb5b31a065bc721d1c92d18f", func := "bailiwick/bailiwicklaw4.TcpParses", spec := "tcpParses", inPlace := ["internal/bytealg.MakeNoZero"], unfollowed := true, recurses := true, apart := false }
def TcpParsesSaid : Prop := tcpParsesRow.holds Try.pinned (OpenSpec.ofChange tcpParsesSpec)

/-- ITS FALSE NEIGHBOUR: 'it returns false'. Refute it at one input. -/
def tcpParsesWrong : ChangeSpec := { name := "tcpParses", fn := fun _ => fun
  | [d1, d2, d3] => { results := [.lit (.bool false)], args := [d1, d2, d3] }
  | _ => none }
def TcpParsesWrongFalsely : Prop := tcpParsesRow.holds Try.pinned (OpenSpec.ofChange tcpParsesWrong)

/-- 'bailiwicklaw4.TcpBuilds': WHATEVER THE INPUT: true; the input reads as it did. -/
def tcpBuildsSpec : ChangeSpec := { name := "tcpBuilds", fn := fun _ => fun
  | [d] => { results := [.lit (.bool true)], args := [d] }
  | _ => none }
def tcpBuildsRow : OpenClaim := { program := "ytgeeoggbijimoaa", sum := "6fddae43be26e35d5839612933d8a8d782b95968fb5b31a065bc721d1c92d18f", func := "bailiwick/bailiwicklaw4.TcpBuilds", spec := "tcpBuilds", inPlace := ["internal/bytealg.MakeNoZero"], unfollowed := true, recurses := true, apart := false }
def TcpBuildsSaid : Prop := tcpBuildsRow.holds Try.pinned (OpenSpec.ofChange tcpBuildsSpec)

/-- ITS FALSE NEIGHBOUR: 'it returns false'. Refute it at one input. -/
def tcpBuildsWrong : ChangeSpec := { name := "tcpBuilds", fn := fun _ => fun
  | [d] => { results := [.lit (.bool false)], args := [d] }
  | _ => none }
def TcpBuildsWrongFalsely : Prop := tcpBuildsRow.holds Try.pinned (OpenSpec.ofChange tcpBuildsWrong)

/-- 'bailiwicklaw4.TcpBack': WHATEVER THE INPUT: true; the input reads as it did. -/
def tcpBackSpec : ChangeSpec := { name := "tcpBack", fn := fun _ => fun
  | [d] => { results := [.lit (.bool true)], args := [d] }
  | _ => none }
def tcpBackRow : OpenClaim := { program := "ytgeeoggbijimoaa", sum := "6fddae43be26e35d5839612933d8a8d782b95968fb5b31a065bc721d1c92d18f", func := "bailiwick/bailiwicklaw4.TcpBack", spec := "tcpBack", inPlace := ["internal/bytealg.MakeNoZero"], unfollowed := true, recurses := true, apart := false }
def TcpBackSaid : Prop := tcpBackRow.holds Try.pinned (OpenSpec.ofChange tcpBackSpec)

/-- ITS FALSE NEIGHBOUR: 'it returns false'. Refute it at one input. -/
def tcpBackWrong : ChangeSpec := { name := "tcpBack", fn := fun _ => fun
  | [d] => { results := [.lit (.bool false)], args := [d] }
  | _ => none }
def TcpBackWrongFalsely : Prop := tcpBackRow.holds Try.pinned (OpenSpec.ofChange tcpBackWrong)

/-- 'bailiwicklaw4.TcpTurned': WHATEVER THE INPUT: true; the input reads as it did. -/
def tcpTurnedSpec : ChangeSpec := { name := "tcpTurned", fn := fun _ => fun
  | [d1, d2] => { results := [.lit (.bool true)], args := [d1, d2] }
  | _ => none }
def tcpTurnedRow : OpenClaim := { program := "ytgeeoggbijimoaa", sum := "6fddae43be26e35d5839612933d8a8d782b95968fb5b31a065bc721d1c92d18f", func := "bailiwick/bailiwicklaw4.TcpTurned", spec := "tcpTurned", inPlace := ["internal/bytealg.MakeNoZero"], unfollowed := true, recurses := true, apart := false }
def TcpTurnedSaid : Prop := tcpTurnedRow.holds Try.pinned (OpenSpec.ofChange tcpTurnedSpec)

/-- ITS FALSE NEIGHBOUR: 'it returns false'. Refute it at one input. -/
def tcpTurnedWrong : ChangeSpec := { name := "tcpTurned", fn := fun _ => fun
  | [d1, d2] => { results := [.lit (.bool false)], args := [d1, d2] }
  | _ => none }
def TcpTurnedWrongFalsely : Prop := tcpTurnedRow.holds Try.pinned (OpenSpec.ofChange tcpTurnedWrong)

/- THE SECOND FORM. 'bulk': how many values and letters a reading holds, each counted each time it is reached (what is shared counts as often as it is met; a slice's spare places count too). A statement '..UptoSaid' is the law's where the arguments, and the package variables that the reading takes, are together of bulk at most 1048576: NARROWER than '..Said'. Prove '..Said' where nothing that the law and all that it calls make is longer than what came in: it says more and counts as full. Else prove '..UptoSaid'. A law counts once. -/
mutual
def uptoBulk {H : Type} : DataW H → Nat
  | .lit (.string bytes) => bytes.length + 1
  | .lit _ => 1
  | .nil => 1
  | .ptr d => uptoBulk d + 1
  | .slice elems spare => uptoBulkAll elems + uptoBulkAll spare + 1
  | .agg parts => uptoBulkAll parts + 1
  | .iface _ d => uptoBulk d + 1
  | .map entries => uptoBulkEntries entries + 1
  | .held _ => 1
def uptoBulkAll {H : Type} : List (DataW H) → Nat
  | [] => 0
  | d :: r => uptoBulk d + uptoBulkAll r
def uptoBulkEntries {H : Type} : List (Lit × DataW H) → Nat
  | [] => 0
  | x :: r => uptoBulkEntry x + uptoBulkEntries r
def uptoBulkEntry {H : Type} : Lit × DataW H → Nat
  | (.string bytes, d) => bytes.length + uptoBulk d + 1
  | (_, d) => uptoBulk d + 1
 end
def uptoSmall : (H : Type) → List (DataW H) → Bool := fun _ ds => decide (uptoBulkAll ds ≤ 1048576)
def OpenSpec.upto (s : _root_.Go.ChangeSpec) : _root_.Go.OpenSpec := { _root_.Go.OpenSpec.ofChange s with cond := some uptoSmall }

/-- 'bailiwicklaw4.TcpKnown', WHERE WHAT IT READS IS OF BULK AT MOST 1048576: true; the input reads as it did. -/
def tcpKnownUptoRow : OpenClaim := { program := "ytgeeoggbijimoaa", sum := "6fddae43be26e35d5839612933d8a8d782b95968fb5b31a065bc721d1c92d18f", func := "bailiwick/bailiwicklaw4.TcpKnown", spec := "tcpKnown", inPlace := ["internal/bytealg.MakeNoZero"], unfollowed := true, recurses := true, apart := false, narrowed := true }
def TcpKnownUptoSaid : Prop := tcpKnownUptoRow.holds Try.pinned (OpenSpec.upto tcpKnownSpec)

/-- 'bailiwicklaw4.TcpParses', WHERE WHAT IT READS IS OF BULK AT MOST 1048576: true; the input reads as it did. -/
def tcpParsesUptoRow : OpenClaim := { program := "ytgeeoggbijimoaa", sum := "6fddae43be26e35d5839612933d8a8d782b95968fb5b31a065bc721d1c92d18f", func := "bailiwick/bailiwicklaw4.TcpParses", spec := "tcpParses", inPlace := ["internal/bytealg.MakeNoZero"], unfollowed := true, recurses := true, apart := false, narrowed := true }
def TcpParsesUptoSaid : Prop := tcpParsesUptoRow.holds Try.pinned (OpenSpec.upto tcpParsesSpec)

/-- 'bailiwicklaw4.TcpBuilds', WHERE WHAT IT READS IS OF BULK AT MOST 1048576: true; the input reads as it did. -/
def tcpBuildsUptoRow : OpenClaim := { program := "ytgeeoggbijimoaa", sum := "6fddae43be26e35d5839612933d8a8d782b95968fb5b31a065bc721d1c92d18f", func := "bailiwick/bailiwicklaw4.TcpBuilds", spec := "tcpBuilds", inPlace := ["internal/bytealg.MakeNoZero"], unfollowed := true, recurses := true, apart := false, narrowed := true }
def TcpBuildsUptoSaid : Prop := tcpBuildsUptoRow.holds Try.pinned (OpenSpec.upto tcpBuildsSpec)

/-- 'bailiwicklaw4.TcpBack', WHERE WHAT IT READS IS OF BULK AT MOST 1048576: true; the input reads as it did. -/
def tcpBackUptoRow : OpenClaim := { program := "ytgeeoggbijimoaa", sum := "6fddae43be26e35d5839612933d8a8d782b95968fb5b31a065bc721d1c92d18f", func := "bailiwick/bailiwicklaw4.TcpBack", spec := "tcpBack", inPlace := ["internal/bytealg.MakeNoZero"], unfollowed := true, recurses := true, apart := false, narrowed := true }
def TcpBackUptoSaid : Prop := tcpBackUptoRow.holds Try.pinned (OpenSpec.upto tcpBackSpec)

/-- 'bailiwicklaw4.TcpTurned', WHERE WHAT IT READS IS OF BULK AT MOST 1048576: true; the input reads as it did. -/
def tcpTurnedUptoRow : OpenClaim := { program := "ytgeeoggbijimoaa", sum := "6fddae43be26e35d5839612933d8a8d782b95968fb5b31a065bc721d1c92d18f", func := "bailiwick/bailiwicklaw4.TcpTurned", spec := "tcpTurned", inPlace := ["internal/bytealg.MakeNoZero"], unfollowed := true, recurses := true, apart := false, narrowed := true }
def TcpTurnedUptoSaid : Prop := tcpTurnedUptoRow.holds Try.pinned (OpenSpec.upto tcpTurnedSpec)

end Rows
end Go.Proofs.Ytgeeoggbijimoaa
