/-
  No cell of these rows narrows 'for every input' (looked for: loops, veiled, ifaces, maps, wideKeys, modest, calm, conditions, laid).
  DERIVED. THE GIVEN ROWS OF THIS SEAT. 6 by the template 'for every input the law returns true; each argument reads behind the call as it read before'; 0 by the template 'total and deterministic' (their statements: YtijoahehgfpomaaTotals.lean).
  GIVEN WITH THE SEED: the statements are not yours to turn. If you find one false, say at which input.
  Laid BY PROGRAM, IN A SANDBOX (cutbox-rows.mjs): the forced cells as the released guide's own fill.sh prints them over the translation a17db70af077faef… (all of the seat's roots in one cut). By AI agents, Wed Nov 11 2026. No macro, syntax, notation, axiom, sorry.
-/
import Derived.Test.YtijoahehgfpomaaChecked
import GoSem.Claim
import GoSem.ClaimJoined
import GoSem.ClaimMapViews
import Derived.JoinedTies
import Derived.KernelRfl
namespace Go.Proofs.Ytijoahehgfpomaa
/- THE CELL 'sum', in the pinned program and in every row, IS THE sha256 OF THE DUMP (.gsa) THAT YtijoahehgfpomaaProg.lean LOADS. Nothing in Lean hashes anything: it is a label: what it is worth is what the hold of that sum in a sandbox is worth. -/
noncomputable def Try.pinned : Pinned := { name := "ytijoahehgfpomaa", sum := "a17db70af077faef0077c88dace62d7031057f34ff9f014c3a5d3f9bf0ba137b", checked := Try.checked }
namespace Rows
def none {H : Type} : Left H := { results := [], args := [] }

/-- 'bailiwicklaw3.UdpKnown': WHATEVER THE INPUT: true; the input reads as it did. -/
def udpKnownSpec : ChangeSpec := { name := "udpKnown", fn := fun _ => fun
  | [] => { results := [.lit (.bool true)], args := [] }
  | _ => none }
def udpKnownRow : OpenClaim := { program := "ytijoahehgfpomaa", sum := "a17db70af077faef0077c88dace62d7031057f34ff9f014c3a5d3f9bf0ba137b", func := "bailiwick/bailiwicklaw3.UdpKnown", spec := "udpKnown", inPlace := ["internal/bytealg.MakeNoZero"], unfollowed := true, recurses := true, apart := false }
def UdpKnownSaid : Prop := udpKnownRow.holds Try.pinned (OpenSpec.ofChange udpKnownSpec)

/-- ITS FALSE NEIGHBOUR: 'it returns false'. Refute it at one input. -/
def udpKnownWrong : ChangeSpec := { name := "udpKnown", fn := fun _ => fun
  | [] => { results := [.lit (.bool false)], args := [] }
  | _ => none }
def UdpKnownWrongFalsely : Prop := udpKnownRow.holds Try.pinned (OpenSpec.ofChange udpKnownWrong)

/-- 'bailiwicklaw3.UdpParses': WHATEVER THE INPUT: true; the input reads as it did. -/
def udpParsesSpec : ChangeSpec := { name := "udpParses", fn := fun _ => fun
  | [d1, d2, d3] => { results := [.lit (.bool true)], args := [d1, d2, d3] }
  | _ => none }
def udpParsesRow : OpenClaim := { program := "ytijoahehgfpomaa", sum := "a17db70af077faef0077c88dace62d7031057f34ff9f014c3a5d3f9bf0ba137b", func := "bailiwick/bailiwicklaw3.UdpParses", spec := "udpParses", inPlace := ["internal/bytealg.MakeNoZero"], unfollowed := true, recurses := true, apart := false }
def UdpParsesSaid : Prop := udpParsesRow.holds Try.pinned (OpenSpec.ofChange udpParsesSpec)

/-- ITS FALSE NEIGHBOUR: 'it returns false'. Refute it at one input. -/
def udpParsesWrong : ChangeSpec := { name := "udpParses", fn := fun _ => fun
  | [d1, d2, d3] => { results := [.lit (.bool false)], args := [d1, d2, d3] }
  | _ => none }
def UdpParsesWrongFalsely : Prop := udpParsesRow.holds Try.pinned (OpenSpec.ofChange udpParsesWrong)

/-- 'bailiwicklaw3.UdpBuilds': WHATEVER THE INPUT: true; the input reads as it did. -/
def udpBuildsSpec : ChangeSpec := { name := "udpBuilds", fn := fun _ => fun
  | [d] => { results := [.lit (.bool true)], args := [d] }
  | _ => none }
def udpBuildsRow : OpenClaim := { program := "ytijoahehgfpomaa", sum := "a17db70af077faef0077c88dace62d7031057f34ff9f014c3a5d3f9bf0ba137b", func := "bailiwick/bailiwicklaw3.UdpBuilds", spec := "udpBuilds", inPlace := ["internal/bytealg.MakeNoZero"], apart := false }
def UdpBuildsSaid : Prop := udpBuildsRow.holds Try.pinned (OpenSpec.ofChange udpBuildsSpec)

/-- ITS FALSE NEIGHBOUR: 'it returns false'. Refute it at one input. -/
def udpBuildsWrong : ChangeSpec := { name := "udpBuilds", fn := fun _ => fun
  | [d] => { results := [.lit (.bool false)], args := [d] }
  | _ => none }
def UdpBuildsWrongFalsely : Prop := udpBuildsRow.holds Try.pinned (OpenSpec.ofChange udpBuildsWrong)

/-- 'bailiwicklaw3.UdpBack': WHATEVER THE INPUT: true; the input reads as it did. -/
def udpBackSpec : ChangeSpec := { name := "udpBack", fn := fun _ => fun
  | [d1, d2, d3] => { results := [.lit (.bool true)], args := [d1, d2, d3] }
  | _ => none }
def udpBackRow : OpenClaim := { program := "ytijoahehgfpomaa", sum := "a17db70af077faef0077c88dace62d7031057f34ff9f014c3a5d3f9bf0ba137b", func := "bailiwick/bailiwicklaw3.UdpBack", spec := "udpBack", inPlace := ["internal/bytealg.MakeNoZero"], unfollowed := true, recurses := true, apart := false }
def UdpBackSaid : Prop := udpBackRow.holds Try.pinned (OpenSpec.ofChange udpBackSpec)

/-- ITS FALSE NEIGHBOUR: 'it returns false'. Refute it at one input. -/
def udpBackWrong : ChangeSpec := { name := "udpBack", fn := fun _ => fun
  | [d1, d2, d3] => { results := [.lit (.bool false)], args := [d1, d2, d3] }
  | _ => none }
def UdpBackWrongFalsely : Prop := udpBackRow.holds Try.pinned (OpenSpec.ofChange udpBackWrong)

/-- 'bailiwicklaw3.UdpPseudo': WHATEVER THE INPUT: true; the input reads as it did. -/
def udpPseudoSpec : ChangeSpec := { name := "udpPseudo", fn := fun _ => fun
  | [d1, d2, d3] => { results := [.lit (.bool true)], args := [d1, d2, d3] }
  | _ => none }
def udpPseudoRow : OpenClaim := { program := "ytijoahehgfpomaa", sum := "a17db70af077faef0077c88dace62d7031057f34ff9f014c3a5d3f9bf0ba137b", func := "bailiwick/bailiwicklaw3.UdpPseudo", spec := "udpPseudo", inPlace := ["internal/bytealg.MakeNoZero"], apart := false }
def UdpPseudoSaid : Prop := udpPseudoRow.holds Try.pinned (OpenSpec.ofChange udpPseudoSpec)

/-- ITS FALSE NEIGHBOUR: 'it returns false'. Refute it at one input. -/
def udpPseudoWrong : ChangeSpec := { name := "udpPseudo", fn := fun _ => fun
  | [d1, d2, d3] => { results := [.lit (.bool false)], args := [d1, d2, d3] }
  | _ => none }
def UdpPseudoWrongFalsely : Prop := udpPseudoRow.holds Try.pinned (OpenSpec.ofChange udpPseudoWrong)

/-- 'bailiwicklaw3.UdpBare': WHATEVER THE INPUT: true; the input reads as it did. -/
def udpBareSpec : ChangeSpec := { name := "udpBare", fn := fun _ => fun
  | [d] => { results := [.lit (.bool true)], args := [d] }
  | _ => none }
def udpBareRow : OpenClaim := { program := "ytijoahehgfpomaa", sum := "a17db70af077faef0077c88dace62d7031057f34ff9f014c3a5d3f9bf0ba137b", func := "bailiwick/bailiwicklaw3.UdpBare", spec := "udpBare", inPlace := ["internal/bytealg.MakeNoZero"], apart := false }
def UdpBareSaid : Prop := udpBareRow.holds Try.pinned (OpenSpec.ofChange udpBareSpec)

/-- ITS FALSE NEIGHBOUR: 'it returns false'. Refute it at one input. -/
def udpBareWrong : ChangeSpec := { name := "udpBare", fn := fun _ => fun
  | [d] => { results := [.lit (.bool false)], args := [d] }
  | _ => none }
def UdpBareWrongFalsely : Prop := udpBareRow.holds Try.pinned (OpenSpec.ofChange udpBareWrong)

/- THE SECOND FORM. 'bulk': how many values and letters a reading holds, each counted each time it is reached (what is shared counts as often as it is met; a slice's spare places count too). A statement '..UptoSaid' is the law's where the arguments, and the package variables that the reading takes, are together of bulk at most 1048576: NARROWER than '..Said'. Prove '..Said' where nothing that the law and all that it calls make is longer than what came in: it says more and counts as full. Else prove '..UptoSaid'. A law counts once. -/
mutual
def uptoBulk {H : Type} : DataW H → Nat
  | .lit (.string bytes) => bytes.length + 1
  | .lit _ => 1
  | .nil => 1
  | .ptr d => uptoBulk d + 1
  | .slice elems spare => uptoBulkAll elems + uptoBulkAll spare + 1
  | .agg parts => uptoBulkAll parts + 1
  | .iface _ d => uptoBulk d + 1
  | .map entries => uptoBulkEntries entries + 1
  | .held _ => 1
def uptoBulkAll {H : Type} : List (DataW H) → Nat
  | [] => 0
  | d :: r => uptoBulk d + uptoBulkAll r
def uptoBulkEntries {H : Type} : List (Lit × DataW H) → Nat
  | [] => 0
  | x :: r => uptoBulkEntry x + uptoBulkEntries r
def uptoBulkEntry {H : Type} : Lit × DataW H → Nat
  | (.string bytes, d) => bytes.length + uptoBulk d + 1
  | (_, d) => uptoBulk d + 1
 end
def uptoSmall : (H : Type) → List (DataW H) → Bool := fun _ ds => decide (uptoBulkAll ds ≤ 1048576)
def OpenSpec.upto (s : _root_.Go.ChangeSpec) : _root_.Go.OpenSpec := { _root_.Go.OpenSpec.ofChange s with cond := some uptoSmall }

/-- 'bailiwicklaw3.UdpKnown', WHERE WHAT IT READS IS OF BULK AT MOST 1048576: true; the input reads as it did. -/
def udpKnownUptoRow : OpenClaim := { program := "ytijoahehgfpomaa", sum := "a17db70af077faef0077c88dace62d7031057f34ff9f014c3a5d3f9bf0ba137b", func := "bailiwick/bailiwicklaw3.UdpKnown", spec := "udpKnown", inPlace := ["internal/bytealg.MakeNoZero"], unfollowed := true, recurses := true, apart := false, narrowed := true }
def UdpKnownUptoSaid : Prop := udpKnownUptoRow.holds Try.pinned (OpenSpec.upto udpKnownSpec)

/-- 'bailiwicklaw3.UdpParses', WHERE WHAT IT READS IS OF BULK AT MOST 1048576: true; the input reads as it did. -/
def udpParsesUptoRow : OpenClaim := { program := "ytijoahehgfpomaa", sum := "a17db70af077faef0077c88dace62d7031057f34ff9f014c3a5d3f9bf0ba137b", func := "bailiwick/bailiwicklaw3.UdpParses", spec := "udpParses", inPlace := ["internal/bytealg.MakeNoZero"], unfollowed := true, recurses := true, apart := false, narrowed := true }
def UdpParsesUptoSaid : Prop := udpParsesUptoRow.holds Try.pinned (OpenSpec.upto udpParsesSpec)

/-- 'bailiwicklaw3.UdpBuilds', WHERE WHAT IT READS IS OF BULK AT MOST 1048576: true; the input reads as it did. -/
def udpBuildsUptoRow : OpenClaim := { program := "ytijoahehgfpomaa", sum := "a17db70af077faef0077c88dace62d7031057f34ff9f014c3a5d3f9bf0ba137b", func := "bailiwick/bailiwicklaw3.UdpBuilds", spec := "udpBuilds", inPlace := ["internal/bytealg.MakeNoZero"], apart := false, narrowed := true }
def UdpBuildsUptoSaid : Prop := udpBuildsUptoRow.holds Try.pinned (OpenSpec.upto udpBuildsSpec)

/-- 'bailiwicklaw3.UdpBack', WHERE WHAT IT READS IS OF BULK AT MOST 1048576: true; the input reads as it did. -/
def udpBackUptoRow : OpenClaim := { program := "ytijoahehgfpomaa", sum := "a17db70af077faef0077c88dace62d7031057f34ff9f014c3a5d3f9bf0ba137b", func := "bailiwick/bailiwicklaw3.UdpBack", spec := "udpBack", inPlace := ["internal/bytealg.MakeNoZero"], unfollowed := true, recurses := true, apart := false, narrowed := true }
def UdpBackUptoSaid : Prop := udpBackUptoRow.holds Try.pinned (OpenSpec.upto udpBackSpec)

/-- 'bailiwicklaw3.UdpPseudo', WHERE WHAT IT READS IS OF BULK AT MOST 1048576: true; the input reads as it did. -/
def udpPseudoUptoRow : OpenClaim := { program := "ytijoahehgfpomaa", sum := "a17db70af077faef0077c88dace62d7031057f34ff9f014c3a5d3f9bf0ba137b", func := "bailiwick/bailiwicklaw3.UdpPseudo", spec := "udpPseudo", inPlace := ["internal/bytealg.MakeNoZero"], apart := false, narrowed := true }
def UdpPseudoUptoSaid : Prop := udpPseudoUptoRow.holds Try.pinned (OpenSpec.upto udpPseudoSpec)

/-- 'bailiwicklaw3.UdpBare', WHERE WHAT IT READS IS OF BULK AT MOST 1048576: true; the input reads as it did. -/
def udpBareUptoRow : OpenClaim := { program := "ytijoahehgfpomaa", sum := "a17db70af077faef0077c88dace62d7031057f34ff9f014c3a5d3f9bf0ba137b", func := "bailiwick/bailiwicklaw3.UdpBare", spec := "udpBare", inPlace := ["internal/bytealg.MakeNoZero"], apart := false, narrowed := true }
def UdpBareUptoSaid : Prop := udpBareUptoRow.holds Try.pinned (OpenSpec.upto udpBareSpec)

end Rows
end Go.Proofs.Ytijoahehgfpomaa
