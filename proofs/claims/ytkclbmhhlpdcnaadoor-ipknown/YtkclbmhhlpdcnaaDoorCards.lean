/-
  DERIVED. GIVEN WITH THE SEED: THE CARDS: each row of YtkclbmhhlpdcnaaDoorRows.lean that lists a variable, with what it lists TIED to the program's text (the seventh form; the later family's looks); each row that meets fmt, with fmt's text TOLD by the authors' own Lean function (tested against real Go, not proved from fmt's source: count such statements apart). THE CARD IS WHAT COUNTS. Prove the row's statement (the work); the ties are given (YtkclbmhhlpdcnaaDoorTie.lean); close each card by the builder's one call (the guide's Derived/Test/ToyasCard.lean, 'card_holds'). Laid BY PROGRAM, IN A SANDBOX (cutbox-door.mjs). By AI agents, Wed Nov 11 2026. No macro, syntax, notation, axiom, sorry.
-/
import Derived.Test.YtkclbmhhlpdcnaaDoorRows
import GoSem.ClaimSeven
namespace Go.Proofs.YtkclbmhhlpdcnaaDoor
namespace Rows

/-- THE TIED CARD OF 'bailiwicklaw2.IpKnown'. -/
def ipKnownCard : Claim7 := { stood := { row := ipKnownRow, standIns := [], harness := (true, "649f2af830065f43f8c36c1efae28d8bfe9cba812d1b3315579db6cdf8e429ee"), looks := true }, kinds := [], alts := [], laidByText := true, laidKinds := [.data, .data, .data, .data, .sentinel, .sentinel, .pinned], laidTests := true, laidLooks := .later }
def IpKnownCardSaid : Prop := Claim7.holds Tryd.pinned (.plain (OpenSpec.ofChange ipKnownSpec)) ipKnownCard

/-- THE SECOND FORM's CARD OF 'bailiwicklaw2.IpKnown'. -/
def ipKnownUptoCard : Claim7 := { stood := { row := ipKnownUptoRow, standIns := [], harness := (true, "649f2af830065f43f8c36c1efae28d8bfe9cba812d1b3315579db6cdf8e429ee"), looks := true }, kinds := [], alts := [], laidByText := true, laidKinds := [.data, .data, .data, .data, .sentinel, .sentinel, .pinned], laidTests := true, laidLooks := .later }
def IpKnownUptoCardSaid : Prop := Claim7.holds Tryd.pinned (.plain (OpenSpec.upto ipKnownSpec)) ipKnownUptoCard
end Rows
end Go.Proofs.YtkclbmhhlpdcnaaDoor
