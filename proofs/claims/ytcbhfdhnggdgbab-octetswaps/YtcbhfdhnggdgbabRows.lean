/-
  No cell of these rows narrows 'for every input' (looked for: loops, veiled, ifaces, maps, wideKeys, modest, calm, conditions, laid).
  DERIVED. THE GIVEN ROWS OF THIS SEAT. 2 by the template 'for every input the law returns true; each argument reads behind the call as it read before'; 0 by the template 'total and deterministic' (their statements: YtcbhfdhnggdgbabTotals.lean).
  GIVEN WITH THE SEED: the statements are not yours to turn. If you find one false, say at which input.
  Laid BY PROGRAM, IN A SANDBOX (cutbox-rows.mjs): the forced cells as the released guide's own fill.sh prints them over the translation 783a40acd8cac5a7… (all of the seat's roots in one cut). By AI agents, Wed Nov 11 2026. No macro, syntax, notation, axiom, sorry.
-/
import Derived.Test.YtcbhfdhnggdgbabChecked
import GoSem.Claim
import GoSem.ClaimJoined
import GoSem.ClaimMapViews
import Derived.JoinedTies
import Derived.KernelRfl
namespace Go.Proofs.Ytcbhfdhnggdgbab
/- THE CELL 'sum', in the pinned program and in every row, IS THE sha256 OF THE DUMP (.gsa) THAT YtcbhfdhnggdgbabProg.lean LOADS. Nothing in Lean hashes anything: it is a label: what it is worth is what the hold of that sum in a sandbox is worth. -/
noncomputable def Try.pinned : Pinned := { name := "ytcbhfdhnggdgbab", sum := "783a40acd8cac5a75cdcb606e81d4861ece2d1eaf5a3bbeecf6cf0955318d162", checked := Try.checked }
namespace Rows
def none {H : Type} : Left H := { results := [], args := [] }

/-- 'bailiwicklaw1.OctetSwaps': WHATEVER THE INPUT: true; the input reads as it did. -/
def octetSwapsSpec : ChangeSpec := { name := "octetSwaps", fn := fun _ => fun
  | [d1, d2, d3] => { results := [.lit (.bool true)], args := [d1, d2, d3] }
  | _ => none }
def octetSwapsRow : OpenClaim := { program := "ytcbhfdhnggdgbab", sum := "783a40acd8cac5a75cdcb606e81d4861ece2d1eaf5a3bbeecf6cf0955318d162", func := "bailiwick/bailiwicklaw1.OctetSwaps", spec := "octetSwaps", apart := false }
def OctetSwapsSaid : Prop := octetSwapsRow.holds Try.pinned (OpenSpec.ofChange octetSwapsSpec)

/-- ITS FALSE NEIGHBOUR: 'it returns false'. Refute it at one input. -/
def octetSwapsWrong : ChangeSpec := { name := "octetSwaps", fn := fun _ => fun
  | [d1, d2, d3] => { results := [.lit (.bool false)], args := [d1, d2, d3] }
  | _ => none }
def OctetSwapsWrongFalsely : Prop := octetSwapsRow.holds Try.pinned (OpenSpec.ofChange octetSwapsWrong)

/-- 'bailiwicklaw1.OctetCrcs': WHATEVER THE INPUT: true; the input reads as it did. -/
def octetCrcsSpec : ChangeSpec := { name := "octetCrcs", fn := fun _ => fun
  | [d1, d2] => { results := [.lit (.bool true)], args := [d1, d2] }
  | _ => none }
def octetCrcsRow : OpenClaim := { program := "ytcbhfdhnggdgbab", sum := "783a40acd8cac5a75cdcb606e81d4861ece2d1eaf5a3bbeecf6cf0955318d162", func := "bailiwick/bailiwicklaw1.OctetCrcs", spec := "octetCrcs", unfollowed := true, recurses := true, apart := false }
def OctetCrcsSaid : Prop := octetCrcsRow.holds Try.pinned (OpenSpec.ofChange octetCrcsSpec)

/-- ITS FALSE NEIGHBOUR: 'it returns false'. Refute it at one input. -/
def octetCrcsWrong : ChangeSpec := { name := "octetCrcs", fn := fun _ => fun
  | [d1, d2] => { results := [.lit (.bool false)], args := [d1, d2] }
  | _ => none }
def OctetCrcsWrongFalsely : Prop := octetCrcsRow.holds Try.pinned (OpenSpec.ofChange octetCrcsWrong)

/- THE SECOND FORM. 'bulk': how many values and letters a reading holds, each counted each time it is reached (what is shared counts as often as it is met; a slice's spare places count too). A statement '..UptoSaid' is the law's where the arguments, and the package variables that the reading takes, are together of bulk at most 1048576: NARROWER than '..Said'. Prove '..Said' where nothing that the law and all that it calls make is longer than what came in: it says more and counts as full. Else prove '..UptoSaid'. A law counts once. -/
mutual
def uptoBulk {H : Type} : DataW H → Nat
  | .lit (.string bytes) => bytes.length + 1
  | .lit _ => 1
  | .nil => 1
  | .ptr d => uptoBulk d + 1
  | .slice elems spare => uptoBulkAll elems + uptoBulkAll spare + 1
  | .agg parts => uptoBulkAll parts + 1
  | .iface _ d => uptoBulk d + 1
  | .map entries => uptoBulkEntries entries + 1
  | .held _ => 1
def uptoBulkAll {H : Type} : List (DataW H) → Nat
  | [] => 0
  | d :: r => uptoBulk d + uptoBulkAll r
def uptoBulkEntries {H : Type} : List (Lit × DataW H) → Nat
  | [] => 0
  | x :: r => uptoBulkEntry x + uptoBulkEntries r
def uptoBulkEntry {H : Type} : Lit × DataW H → Nat
  | (.string bytes, d) => bytes.length + uptoBulk d + 1
  | (_, d) => uptoBulk d + 1
 end
def uptoSmall : (H : Type) → List (DataW H) → Bool := fun _ ds => decide (uptoBulkAll ds ≤ 1048576)
def OpenSpec.upto (s : _root_.Go.ChangeSpec) : _root_.Go.OpenSpec := { _root_.Go.OpenSpec.ofChange s with cond := some uptoSmall }

/-- 'bailiwicklaw1.OctetSwaps', WHERE WHAT IT READS IS OF BULK AT MOST 1048576: true; the input reads as it did. -/
def octetSwapsUptoRow : OpenClaim := { program := "ytcbhfdhnggdgbab", sum := "783a40acd8cac5a75cdcb606e81d4861ece2d1eaf5a3bbeecf6cf0955318d162", func := "bailiwick/bailiwicklaw1.OctetSwaps", spec := "octetSwaps", apart := false, narrowed := true }
def OctetSwapsUptoSaid : Prop := octetSwapsUptoRow.holds Try.pinned (OpenSpec.upto octetSwapsSpec)

/-- 'bailiwicklaw1.OctetCrcs', WHERE WHAT IT READS IS OF BULK AT MOST 1048576: true; the input reads as it did. -/
def octetCrcsUptoRow : OpenClaim := { program := "ytcbhfdhnggdgbab", sum := "783a40acd8cac5a75cdcb606e81d4861ece2d1eaf5a3bbeecf6cf0955318d162", func := "bailiwick/bailiwicklaw1.OctetCrcs", spec := "octetCrcs", unfollowed := true, recurses := true, apart := false, narrowed := true }
def OctetCrcsUptoSaid : Prop := octetCrcsUptoRow.holds Try.pinned (OpenSpec.upto octetCrcsSpec)

end Rows
end Go.Proofs.Ytcbhfdhnggdgbab
