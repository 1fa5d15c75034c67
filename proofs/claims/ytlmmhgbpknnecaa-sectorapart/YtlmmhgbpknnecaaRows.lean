/-
  No cell of these rows narrows 'for every input' (looked for: loops, veiled, ifaces, maps, wideKeys, modest, calm, conditions, laid).
  DERIVED. THE GIVEN ROWS OF THIS SEAT. 6 by the template 'for every input the law returns true; each argument reads behind the call as it read before'; 0 by the template 'total and deterministic' (their statements: YtlmmhgbpknnecaaTotals.lean).
  GIVEN WITH THE SEED: the statements are not yours to turn. If you find one false, say at which input.
  Laid BY PROGRAM, IN A SANDBOX (cutbox-rows.mjs): the forced cells as the released guide's own fill.sh prints them over the translation d94bba7e51440dcf… (all of the seat's roots in one cut). By AI agents, Wed Nov 11 2026. No macro, syntax, notation, axiom, sorry.
-/
import Derived.Test.YtlmmhgbpknnecaaChecked
import GoSem.Claim
import GoSem.ClaimJoined
import GoSem.ClaimMapViews
import Derived.JoinedTies
import Derived.KernelRfl
namespace Go.Proofs.Ytlmmhgbpknnecaa
/- THE CELL 'sum', in the pinned program and in every row, IS THE sha256 OF THE DUMP (.gsa) THAT YtlmmhgbpknnecaaProg.lean LOADS. Nothing in Lean hashes anything: it is a label: what it is worth is what the hold of that sum in a sandbox is worth. -/
noncomputable def Try.pinned : Pinned := { name := "ytlmmhgbpknnecaa", sum := "d94bba7e51440dcf87119abbb36d9cb288fce9c91f3d181760a7b7d017247c51", checked := Try.checked }
namespace Rows
def none {H : Type} : Left H := { results := [], args := [] }

/-- 'bailiwicklaw7.SectorKnown': WHATEVER THE INPUT: true; the input reads as it did. -/
def sectorKnownSpec : ChangeSpec := { name := "sectorKnown", fn := fun _ => fun
  | [] => { results := [.lit (.bool true)], args := [] }
  | _ => none }
def sectorKnownRow : OpenClaim := { program := "ytlmmhgbpknnecaa", sum := "d94bba7e51440dcf87119abbb36d9cb288fce9c91f3d181760a7b7d017247c51", func := "bailiwick/bailiwicklaw7.SectorKnown", spec := "sectorKnown", unfollowed := true, recurses := true, apart := false }
def SectorKnownSaid : Prop := sectorKnownRow.holds Try.pinned (OpenSpec.ofChange sectorKnownSpec)

/-- ITS FALSE NEIGHBOUR: 'it returns false'. Refute it at one input. -/
def sectorKnownWrong : ChangeSpec := { name := "sectorKnown", fn := fun _ => fun
  | [] => { results := [.lit (.bool false)], args := [] }
  | _ => none }
def SectorKnownWrongFalsely : Prop := sectorKnownRow.holds Try.pinned (OpenSpec.ofChange sectorKnownWrong)

/-- 'bailiwicklaw7.SectorPlays': WHATEVER THE INPUT: true; the input reads as it did. -/
def sectorPlaysSpec : ChangeSpec := { name := "sectorPlays", fn := fun _ => fun
  | [d1, d2] => { results := [.lit (.bool true)], args := [d1, d2] }
  | _ => none }
def sectorPlaysRow : OpenClaim := { program := "ytlmmhgbpknnecaa", sum := "d94bba7e51440dcf87119abbb36d9cb288fce9c91f3d181760a7b7d017247c51", func := "bailiwick/bailiwicklaw7.SectorPlays", spec := "sectorPlays", unfollowed := true, recurses := true, apart := false }
def SectorPlaysSaid : Prop := sectorPlaysRow.holds Try.pinned (OpenSpec.ofChange sectorPlaysSpec)

/-- ITS FALSE NEIGHBOUR: 'it returns false'. Refute it at one input. -/
def sectorPlaysWrong : ChangeSpec := { name := "sectorPlays", fn := fun _ => fun
  | [d1, d2] => { results := [.lit (.bool false)], args := [d1, d2] }
  | _ => none }
def SectorPlaysWrongFalsely : Prop := sectorPlaysRow.holds Try.pinned (OpenSpec.ofChange sectorPlaysWrong)

/-- 'bailiwicklaw7.SectorSynced': WHATEVER THE INPUT: true; the input reads as it did. -/
def sectorSyncedSpec : ChangeSpec := { name := "sectorSynced", fn := fun _ => fun
  | [d1, d2] => { results := [.lit (.bool true)], args := [d1, d2] }
  | _ => none }
def sectorSyncedRow : OpenClaim := { program := "ytlmmhgbpknnecaa", sum := "d94bba7e51440dcf87119abbb36d9cb288fce9c91f3d181760a7b7d017247c51", func := "bailiwick/bailiwicklaw7.SectorSynced", spec := "sectorSynced", unfollowed := true, recurses := true, apart := false }
def SectorSyncedSaid : Prop := sectorSyncedRow.holds Try.pinned (OpenSpec.ofChange sectorSyncedSpec)

/-- ITS FALSE NEIGHBOUR: 'it returns false'. Refute it at one input. -/
def sectorSyncedWrong : ChangeSpec := { name := "sectorSynced", fn := fun _ => fun
  | [d1, d2] => { results := [.lit (.bool false)], args := [d1, d2] }
  | _ => none }
def SectorSyncedWrongFalsely : Prop := sectorSyncedRow.holds Try.pinned (OpenSpec.ofChange sectorSyncedWrong)

/-- 'bailiwicklaw7.SectorTorn': WHATEVER THE INPUT: true; the input reads as it did. -/
def sectorTornSpec : ChangeSpec := { name := "sectorTorn", fn := fun _ => fun
  | [d1, d2, d3] => { results := [.lit (.bool true)], args := [d1, d2, d3] }
  | _ => none }
def sectorTornRow : OpenClaim := { program := "ytlmmhgbpknnecaa", sum := "d94bba7e51440dcf87119abbb36d9cb288fce9c91f3d181760a7b7d017247c51", func := "bailiwick/bailiwicklaw7.SectorTorn", spec := "sectorTorn", unfollowed := true, recurses := true, apart := false }
def SectorTornSaid : Prop := sectorTornRow.holds Try.pinned (OpenSpec.ofChange sectorTornSpec)

/-- ITS FALSE NEIGHBOUR: 'it returns false'. Refute it at one input. -/
def sectorTornWrong : ChangeSpec := { name := "sectorTorn", fn := fun _ => fun
  | [d1, d2, d3] => { results := [.lit (.bool false)], args := [d1, d2, d3] }
  | _ => none }
def SectorTornWrongFalsely : Prop := sectorTornRow.holds Try.pinned (OpenSpec.ofChange sectorTornWrong)

/-- 'bailiwicklaw7.SectorApart': WHATEVER THE INPUT: true; the input reads as it did. -/
def sectorApartSpec : ChangeSpec := { name := "sectorApart", fn := fun _ => fun
  | [d1, d2] => { results := [.lit (.bool true)], args := [d1, d2] }
  | _ => none }
def sectorApartRow : OpenClaim := { program := "ytlmmhgbpknnecaa", sum := "d94bba7e51440dcf87119abbb36d9cb288fce9c91f3d181760a7b7d017247c51", func := "bailiwick/bailiwicklaw7.SectorApart", spec := "sectorApart", unfollowed := true, recurses := true, apart := false }
def SectorApartSaid : Prop := sectorApartRow.holds Try.pinned (OpenSpec.ofChange sectorApartSpec)

/-- ITS FALSE NEIGHBOUR: 'it returns false'. Refute it at one input. -/
def sectorApartWrong : ChangeSpec := { name := "sectorApart", fn := fun _ => fun
  | [d1, d2] => { results := [.lit (.bool false)], args := [d1, d2] }
  | _ => none }
def SectorApartWrongFalsely : Prop := sectorApartRow.holds Try.pinned (OpenSpec.ofChange sectorApartWrong)

/-- 'bailiwicklaw7.SectorKeeps': WHATEVER THE INPUT: true; the input reads as it did. -/
def sectorKeepsSpec : ChangeSpec := { name := "sectorKeeps", fn := fun _ => fun
  | [d1, d2] => { results := [.lit (.bool true)], args := [d1, d2] }
  | _ => none }
def sectorKeepsRow : OpenClaim := { program := "ytlmmhgbpknnecaa", sum := "d94bba7e51440dcf87119abbb36d9cb288fce9c91f3d181760a7b7d017247c51", func := "bailiwick/bailiwicklaw7.SectorKeeps", spec := "sectorKeeps", unfollowed := true, recurses := true, apart := false }
def SectorKeepsSaid : Prop := sectorKeepsRow.holds Try.pinned (OpenSpec.ofChange sectorKeepsSpec)

/-- ITS FALSE NEIGHBOUR: 'it returns false'. Refute it at one input. -/
def sectorKeepsWrong : ChangeSpec := { name := "sectorKeeps", fn := fun _ => fun
  | [d1, d2] => { results := [.lit (.bool false)], args := [d1, d2] }
  | _ => none }
def SectorKeepsWrongFalsely : Prop := sectorKeepsRow.holds Try.pinned (OpenSpec.ofChange sectorKeepsWrong)

/- THE SECOND FORM. 'bulk': how many values and letters a reading holds, each counted each time it is reached (what is shared counts as often as it is met; a slice's spare places count too). A statement '..UptoSaid' is the law's where the arguments, and the package variables that the reading takes, are together of bulk at most 1048576: NARROWER than '..Said'. Prove '..Said' where nothing that the law and all that it calls make is longer than what came in: it says more and counts as full. Else prove '..UptoSaid'. A law counts once. -/
mutual
def uptoBulk {H : Type} : DataW H → Nat
  | .lit (.string bytes) => bytes.length + 1
  | .lit _ => 1
  | .nil => 1
  | .ptr d => uptoBulk d + 1
  | .slice elems spare => uptoBulkAll elems + uptoBulkAll spare + 1
  | .agg parts => uptoBulkAll parts + 1
  | .iface _ d => uptoBulk d + 1
  | .map entries => uptoBulkEntries entries + 1
  | .held _ => 1
def uptoBulkAll {H : Type} : List (DataW H) → Nat
  | [] => 0
  | d :: r => uptoBulk d + uptoBulkAll r
def uptoBulkEntries {H : Type} : List (Lit × DataW H) → Nat
  | [] => 0
  | x :: r => uptoBulkEntry x + uptoBulkEntries r
def uptoBulkEntry {H : Type} : Lit × DataW H → Nat
  | (.string bytes, d) => bytes.length + uptoBulk d + 1
  | (_, d) => uptoBulk d + 1
 end
def uptoSmall : (H : Type) → List (DataW H) → Bool := fun _ ds => decide (uptoBulkAll ds ≤ 1048576)
def OpenSpec.upto (s : _root_.Go.ChangeSpec) : _root_.Go.OpenSpec := { _root_.Go.OpenSpec.ofChange s with cond := some uptoSmall }

/-- 'bailiwicklaw7.SectorKnown', WHERE WHAT IT READS IS OF BULK AT MOST 1048576: true; the input reads as it did. -/
def sectorKnownUptoRow : OpenClaim := { program := "ytlmmhgbpknnecaa", sum := "d94bba7e51440dcf87119abbb36d9cb288fce9c91f3d181760a7b7d017247c51", func := "bailiwick/bailiwicklaw7.SectorKnown", spec := "sectorKnown", unfollowed := true, recurses := true, apart := false, narrowed := true }
def SectorKnownUptoSaid : Prop := sectorKnownUptoRow.holds Try.pinned (OpenSpec.upto sectorKnownSpec)

/-- 'bailiwicklaw7.SectorPlays', WHERE WHAT IT READS IS OF BULK AT MOST 1048576: true; the input reads as it did. -/
def sectorPlaysUptoRow : OpenClaim := { program := "ytlmmhgbpknnecaa", sum := "d94bba7e51440dcf87119abbb36d9cb288fce9c91f3d181760a7b7d017247c51", func := "bailiwick/bailiwicklaw7.SectorPlays", spec := "sectorPlays", unfollowed := true, recurses := true, apart := false, narrowed := true }
def SectorPlaysUptoSaid : Prop := sectorPlaysUptoRow.holds Try.pinned (OpenSpec.upto sectorPlaysSpec)

/-- 'bailiwicklaw7.SectorSynced', WHERE WHAT IT READS IS OF BULK AT MOST 1048576: true; the input reads as it did. -/
def sectorSyncedUptoRow : OpenClaim := { program := "ytlmmhgbpknnecaa", sum := "d94bba7e51440dcf87119abbb36d9cb288fce9c91f3d181760a7b7d017247c51", func := "bailiwick/bailiwicklaw7.SectorSynced", spec := "sectorSynced", unfollowed := true, recurses := true, apart := false, narrowed := true }
def SectorSyncedUptoSaid : Prop := sectorSyncedUptoRow.holds Try.pinned (OpenSpec.upto sectorSyncedSpec)

/-- 'bailiwicklaw7.SectorTorn', WHERE WHAT IT READS IS OF BULK AT MOST 1048576: true; the input reads as it did. -/
def sectorTornUptoRow : OpenClaim := { program := "ytlmmhgbpknnecaa", sum := "d94bba7e51440dcf87119abbb36d9cb288fce9c91f3d181760a7b7d017247c51", func := "bailiwick/bailiwicklaw7.SectorTorn", spec := "sectorTorn", unfollowed := true, recurses := true, apart := false, narrowed := true }
def SectorTornUptoSaid : Prop := sectorTornUptoRow.holds Try.pinned (OpenSpec.upto sectorTornSpec)

/-- 'bailiwicklaw7.SectorApart', WHERE WHAT IT READS IS OF BULK AT MOST 1048576: true; the input reads as it did. -/
def sectorApartUptoRow : OpenClaim := { program := "ytlmmhgbpknnecaa", sum := "d94bba7e51440dcf87119abbb36d9cb288fce9c91f3d181760a7b7d017247c51", func := "bailiwick/bailiwicklaw7.SectorApart", spec := "sectorApart", unfollowed := true, recurses := true, apart := false, narrowed := true }
def SectorApartUptoSaid : Prop := sectorApartUptoRow.holds Try.pinned (OpenSpec.upto sectorApartSpec)

/-- 'bailiwicklaw7.SectorKeeps', WHERE WHAT IT READS IS OF BULK AT MOST 1048576: true; the input reads as it did. -/
def sectorKeepsUptoRow : OpenClaim := { program := "ytlmmhgbpknnecaa", sum := "d94bba7e51440dcf87119abbb36d9cb288fce9c91f3d181760a7b7d017247c51", func := "bailiwick/bailiwicklaw7.SectorKeeps", spec := "sectorKeeps", unfollowed := true, recurses := true, apart := false, narrowed := true }
def SectorKeepsUptoSaid : Prop := sectorKeepsUptoRow.holds Try.pinned (OpenSpec.upto sectorKeepsSpec)

end Rows
end Go.Proofs.Ytlmmhgbpknnecaa
