/-
  No cell of these rows narrows 'for every input' (looked for: loops, veiled, ifaces, maps, wideKeys, modest, calm, conditions, laid).
  DERIVED. THE GIVEN ROWS OF THIS SEAT. 6 by the template 'for every input the law returns true; each argument reads behind the call as it read before'; 0 by the template 'total and deterministic' (their statements: YtcbhfdhnggdgbaaTotals.lean).
  GIVEN WITH THE SEED: the statements are not yours to turn. If you find one false, say at which input.
  Laid BY PROGRAM, IN A SANDBOX (cutbox-rows.mjs): the forced cells as the released guide's own fill.sh prints them over the translation 11afaa11397e9aec… (all of the seat's roots in one cut). By AI agents, Wed Nov 11 2026. No macro, syntax, notation, axiom, sorry.
-/
import Derived.Test.YtcbhfdhnggdgbaaChecked
import GoSem.Claim
import GoSem.ClaimJoined
import GoSem.ClaimMapViews
import Derived.JoinedTies
import Derived.KernelRfl
namespace Go.Proofs.Ytcbhfdhnggdgbaa
/- THE CELL 'sum', in the pinned program and in every row, IS THE sha256 OF THE DUMP (.gsa) THAT YtcbhfdhnggdgbaaProg.lean LOADS. Nothing in Lean hashes anything: it is a label: what it is worth is what the hold of that sum in a sandbox is worth. -/
noncomputable def Try.pinned : Pinned := { name := "ytcbhfdhnggdgbaa", sum := "11afaa11397e9aec957aa3775ccb4eb0319711aafeb5c323e5f8f393d875493c", checked := Try.checked }
namespace Rows
def none {H : Type} : Left H := { results := [], args := [] }

/-- 'bailiwicklaw1.OctetKnown': WHATEVER THE INPUT: true; the input reads as it did. -/
def octetKnownSpec : ChangeSpec := { name := "octetKnown", fn := fun _ => fun
  | [] => { results := [.lit (.bool true)], args := [] }
  | _ => none }
def octetKnownRow : OpenClaim := { program := "ytcbhfdhnggdgbaa", sum := "11afaa11397e9aec957aa3775ccb4eb0319711aafeb5c323e5f8f393d875493c", func := "bailiwick/bailiwicklaw1.OctetKnown", spec := "octetKnown", unfollowed := true, recurses := true, apart := false }
def OctetKnownSaid : Prop := octetKnownRow.holds Try.pinned (OpenSpec.ofChange octetKnownSpec)

/-- ITS FALSE NEIGHBOUR: 'it returns false'. Refute it at one input. -/
def octetKnownWrong : ChangeSpec := { name := "octetKnown", fn := fun _ => fun
  | [] => { results := [.lit (.bool false)], args := [] }
  | _ => none }
def OctetKnownWrongFalsely : Prop := octetKnownRow.holds Try.pinned (OpenSpec.ofChange octetKnownWrong)

/-- 'bailiwicklaw1.OctetGets': WHATEVER THE INPUT: true; the input reads as it did. -/
def octetGetsSpec : ChangeSpec := { name := "octetGets", fn := fun _ => fun
  | [d] => { results := [.lit (.bool true)], args := [d] }
  | _ => none }
def octetGetsRow : OpenClaim := { program := "ytcbhfdhnggdgbaa", sum := "11afaa11397e9aec957aa3775ccb4eb0319711aafeb5c323e5f8f393d875493c", func := "bailiwick/bailiwicklaw1.OctetGets", spec := "octetGets", apart := false }
def OctetGetsSaid : Prop := octetGetsRow.holds Try.pinned (OpenSpec.ofChange octetGetsSpec)

/-- ITS FALSE NEIGHBOUR: 'it returns false'. Refute it at one input. -/
def octetGetsWrong : ChangeSpec := { name := "octetGets", fn := fun _ => fun
  | [d] => { results := [.lit (.bool false)], args := [d] }
  | _ => none }
def OctetGetsWrongFalsely : Prop := octetGetsRow.holds Try.pinned (OpenSpec.ofChange octetGetsWrong)

/-- 'bailiwicklaw1.OctetPuts': WHATEVER THE INPUT: true; the input reads as it did. -/
def octetPutsSpec : ChangeSpec := { name := "octetPuts", fn := fun _ => fun
  | [d] => { results := [.lit (.bool true)], args := [d] }
  | _ => none }
def octetPutsRow : OpenClaim := { program := "ytcbhfdhnggdgbaa", sum := "11afaa11397e9aec957aa3775ccb4eb0319711aafeb5c323e5f8f393d875493c", func := "bailiwick/bailiwicklaw1.OctetPuts", spec := "octetPuts", apart := false }
def OctetPutsSaid : Prop := octetPutsRow.holds Try.pinned (OpenSpec.ofChange octetPutsSpec)

/-- ITS FALSE NEIGHBOUR: 'it returns false'. Refute it at one input. -/
def octetPutsWrong : ChangeSpec := { name := "octetPuts", fn := fun _ => fun
  | [d] => { results := [.lit (.bool false)], args := [d] }
  | _ => none }
def OctetPutsWrongFalsely : Prop := octetPutsRow.holds Try.pinned (OpenSpec.ofChange octetPutsWrong)

/-- 'bailiwicklaw1.OctetSums': WHATEVER THE INPUT: true; the input reads as it did. -/
def octetSumsSpec : ChangeSpec := { name := "octetSums", fn := fun _ => fun
  | [d] => { results := [.lit (.bool true)], args := [d] }
  | _ => none }
def octetSumsRow : OpenClaim := { program := "ytcbhfdhnggdgbaa", sum := "11afaa11397e9aec957aa3775ccb4eb0319711aafeb5c323e5f8f393d875493c", func := "bailiwick/bailiwicklaw1.OctetSums", spec := "octetSums", apart := false }
def OctetSumsSaid : Prop := octetSumsRow.holds Try.pinned (OpenSpec.ofChange octetSumsSpec)

/-- ITS FALSE NEIGHBOUR: 'it returns false'. Refute it at one input. -/
def octetSumsWrong : ChangeSpec := { name := "octetSums", fn := fun _ => fun
  | [d] => { results := [.lit (.bool false)], args := [d] }
  | _ => none }
def OctetSumsWrongFalsely : Prop := octetSumsRow.holds Try.pinned (OpenSpec.ofChange octetSumsWrong)

/-- 'bailiwicklaw1.OctetPlus': WHATEVER THE INPUT: true; the input reads as it did. -/
def octetPlusSpec : ChangeSpec := { name := "octetPlus", fn := fun _ => fun
  | [d1, d2, d3] => { results := [.lit (.bool true)], args := [d1, d2, d3] }
  | _ => none }
def octetPlusRow : OpenClaim := { program := "ytcbhfdhnggdgbaa", sum := "11afaa11397e9aec957aa3775ccb4eb0319711aafeb5c323e5f8f393d875493c", func := "bailiwick/bailiwicklaw1.OctetPlus", spec := "octetPlus", apart := false }
def OctetPlusSaid : Prop := octetPlusRow.holds Try.pinned (OpenSpec.ofChange octetPlusSpec)

/-- ITS FALSE NEIGHBOUR: 'it returns false'. Refute it at one input. -/
def octetPlusWrong : ChangeSpec := { name := "octetPlus", fn := fun _ => fun
  | [d1, d2, d3] => { results := [.lit (.bool false)], args := [d1, d2, d3] }
  | _ => none }
def OctetPlusWrongFalsely : Prop := octetPlusRow.holds Try.pinned (OpenSpec.ofChange octetPlusWrong)

/-- 'bailiwicklaw1.OctetUpdates': WHATEVER THE INPUT: true; the input reads as it did. -/
def octetUpdatesSpec : ChangeSpec := { name := "octetUpdates", fn := fun _ => fun
  | [d1, d2, d3] => { results := [.lit (.bool true)], args := [d1, d2, d3] }
  | _ => none }
def octetUpdatesRow : OpenClaim := { program := "ytcbhfdhnggdgbaa", sum := "11afaa11397e9aec957aa3775ccb4eb0319711aafeb5c323e5f8f393d875493c", func := "bailiwick/bailiwicklaw1.OctetUpdates", spec := "octetUpdates", apart := false }
def OctetUpdatesSaid : Prop := octetUpdatesRow.holds Try.pinned (OpenSpec.ofChange octetUpdatesSpec)

/-- ITS FALSE NEIGHBOUR: 'it returns false'. Refute it at one input. -/
def octetUpdatesWrong : ChangeSpec := { name := "octetUpdates", fn := fun _ => fun
  | [d1, d2, d3] => { results := [.lit (.bool false)], args := [d1, d2, d3] }
  | _ => none }
def OctetUpdatesWrongFalsely : Prop := octetUpdatesRow.holds Try.pinned (OpenSpec.ofChange octetUpdatesWrong)

/- THE SECOND FORM. 'bulk': how many values and letters a reading holds, each counted each time it is reached (what is shared counts as often as it is met; a slice's spare places count too). A statement '..UptoSaid' is the law's where the arguments, and the package variables that the reading takes, are together of bulk at most 1048576: NARROWER than '..Said'. Prove '..Said' where nothing that the law and all that it calls make is longer than what came in: it says more and counts as full. Else prove '..UptoSaid'. A law counts once. -/
mutual
def uptoBulk {H : Type} : DataW H → Nat
  | .lit (.string bytes) => bytes.length + 1
  | .lit _ => 1
  | .nil => 1
  | .ptr d => uptoBulk d + 1
  | .slice elems spare => uptoBulkAll elems + uptoBulkAll spare + 1
  | .agg parts => uptoBulkAll parts + 1
  | .iface _ d => uptoBulk d + 1
  | .map entries => uptoBulkEntries entries + 1
  | .held _ => 1
def uptoBulkAll {H : Type} : List (DataW H) → Nat
  | [] => 0
  | d :: r => uptoBulk d + uptoBulkAll r
def uptoBulkEntries {H : Type} : List (Lit × DataW H) → Nat
  | [] => 0
  | x :: r => uptoBulkEntry x + uptoBulkEntries r
def uptoBulkEntry {H : Type} : Lit × DataW H → Nat
  | (.string bytes, d) => bytes.length + uptoBulk d + 1
  | (_, d) => uptoBulk d + 1
 end
def uptoSmall : (H : Type) → List (DataW H) → Bool := fun _ ds => decide (uptoBulkAll ds ≤ 1048576)
def OpenSpec.upto (s : _root_.Go.ChangeSpec) : _root_.Go.OpenSpec := { _root_.Go.OpenSpec.ofChange s with cond := some uptoSmall }

/-- 'bailiwicklaw1.OctetKnown', WHERE WHAT IT READS IS OF BULK AT MOST 1048576: true; the input reads as it did. -/
def octetKnownUptoRow : OpenClaim := { program := "ytcbhfdhnggdgbaa", sum := "11afaa11397e9aec957aa3775ccb4eb0319711aafeb5c323e5f8f393d875493c", func := "bailiwick/bailiwicklaw1.OctetKnown", spec := "octetKnown", unfollowed := true, recurses := true, apart := false, narrowed := true }
def OctetKnownUptoSaid : Prop := octetKnownUptoRow.holds Try.pinned (OpenSpec.upto octetKnownSpec)

/-- 'bailiwicklaw1.OctetGets', WHERE WHAT IT READS IS OF BULK AT MOST 1048576: true; the input reads as it did. -/
def octetGetsUptoRow : OpenClaim := { program := "ytcbhfdhnggdgbaa", sum := "11afaa11397e9aec957aa3775ccb4eb0319711aafeb5c323e5f8f393d875493c", func := "bailiwick/bailiwicklaw1.OctetGets", spec := "octetGets", apart := false, narrowed := true }
def OctetGetsUptoSaid : Prop := octetGetsUptoRow.holds Try.pinned (OpenSpec.upto octetGetsSpec)

/-- 'bailiwicklaw1.OctetPuts', WHERE WHAT IT READS IS OF BULK AT MOST 1048576: true; the input reads as it did. -/
def octetPutsUptoRow : OpenClaim := { program := "ytcbhfdhnggdgbaa", sum := "11afaa11397e9aec957aa3775ccb4eb0319711aafeb5c323e5f8f393d875493c", func := "bailiwick/bailiwicklaw1.OctetPuts", spec := "octetPuts", apart := false, narrowed := true }
def OctetPutsUptoSaid : Prop := octetPutsUptoRow.holds Try.pinned (OpenSpec.upto octetPutsSpec)

/-- 'bailiwicklaw1.OctetSums', WHERE WHAT IT READS IS OF BULK AT MOST 1048576: true; the input reads as it did. -/
def octetSumsUptoRow : OpenClaim := { program := "ytcbhfdhnggdgbaa", sum := "11afaa11397e9aec957aa3775ccb4eb0319711aafeb5c323e5f8f393d875493c", func := "bailiwick/bailiwicklaw1.OctetSums", spec := "octetSums", apart := false, narrowed := true }
def OctetSumsUptoSaid : Prop := octetSumsUptoRow.holds Try.pinned (OpenSpec.upto octetSumsSpec)

/-- 'bailiwicklaw1.OctetPlus', WHERE WHAT IT READS IS OF BULK AT MOST 1048576: true; the input reads as it did. -/
def octetPlusUptoRow : OpenClaim := { program := "ytcbhfdhnggdgbaa", sum := "11afaa11397e9aec957aa3775ccb4eb0319711aafeb5c323e5f8f393d875493c", func := "bailiwick/bailiwicklaw1.OctetPlus", spec := "octetPlus", apart := false, narrowed := true }
def OctetPlusUptoSaid : Prop := octetPlusUptoRow.holds Try.pinned (OpenSpec.upto octetPlusSpec)

/-- 'bailiwicklaw1.OctetUpdates', WHERE WHAT IT READS IS OF BULK AT MOST 1048576: true; the input reads as it did. -/
def octetUpdatesUptoRow : OpenClaim := { program := "ytcbhfdhnggdgbaa", sum := "11afaa11397e9aec957aa3775ccb4eb0319711aafeb5c323e5f8f393d875493c", func := "bailiwick/bailiwicklaw1.OctetUpdates", spec := "octetUpdates", apart := false, narrowed := true }
def OctetUpdatesUptoSaid : Prop := octetUpdatesUptoRow.holds Try.pinned (OpenSpec.upto octetUpdatesSpec)

end Rows
end Go.Proofs.Ytcbhfdhnggdgbaa
