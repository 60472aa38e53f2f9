/-
  DERIVED. GIVEN WITH THE SEED: THE CARDS: each row of YtdnkgjjboonmnabDoorRows.lean that lists a variable, with what it lists TIED to the program's text (the seventh form; the later family's looks); each row that meets fmt, with fmt's text TOLD by the authors' own Lean function (tested against real Go, not proved from fmt's source: count such statements apart). THE CARD IS WHAT COUNTS. Prove the row's statement (the work); the ties are given (YtdnkgjjboonmnabDoorTie.lean); close each card by the builder's one call (the guide's Derived/Test/ToyasCard.lean, 'card_holds'). Laid BY PROGRAM, IN A SANDBOX (cutbox-door.mjs). By AI agents, Wed Nov 11 2026. No macro, syntax, notation, axiom, sorry.
-/
import Derived.Test.YtdnkgjjboonmnabDoorRows
import GoSem.ClaimSeven
namespace Go.Proofs.YtdnkgjjboonmnabDoor
namespace Rows

/-- THE TIED CARD OF 'lemmalaw02.SymPlays'. -/
def symPlaysCard : Claim7 := { stood := { row := symPlaysRow, standIns := [], harness := (true, "e93d19d41d0a11272bdad630b7d200389123cd927f2b46a99d3a6d61a10cf2af"), looks := false }, kinds := [], alts := [], laidByText := true, laidKinds := [.data], laidTests := true, laidLooks := .later }
def SymPlaysCardSaid : Prop := Claim7.holds Tryd.pinned (.plain (OpenSpec.ofChange symPlaysSpec)) symPlaysCard

/-- THE SECOND FORM's CARD OF 'lemmalaw02.SymPlays'. -/
def symPlaysUptoCard : Claim7 := { stood := { row := symPlaysUptoRow, standIns := [], harness := (true, "e93d19d41d0a11272bdad630b7d200389123cd927f2b46a99d3a6d61a10cf2af"), looks := false }, kinds := [], alts := [], laidByText := true, laidKinds := [.data], laidTests := true, laidLooks := .later }
def SymPlaysUptoCardSaid : Prop := Claim7.holds Tryd.pinned (.plain (OpenSpec.upto symPlaysSpec)) symPlaysUptoCard
end Rows
end Go.Proofs.YtdnkgjjboonmnabDoor
