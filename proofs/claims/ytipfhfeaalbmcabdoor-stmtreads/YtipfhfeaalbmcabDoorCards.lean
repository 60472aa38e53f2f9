/-
  DERIVED. GIVEN WITH THE SEED: THE CARDS: each row of YtipfhfeaalbmcabDoorRows.lean that lists a variable, with what it lists TIED to the program's text (the seventh form; the later family's looks); each row that meets fmt, with fmt's text TOLD by the authors' own Lean function (tested against real Go, not proved from fmt's source: count such statements apart). THE CARD IS WHAT COUNTS. Prove the row's statement (the work); the ties are given (YtipfhfeaalbmcabDoorTie.lean); close each card by the builder's one call (the guide's Derived/Test/ToyasCard.lean, 'card_holds'). Laid BY PROGRAM, IN A SANDBOX (cutbox-door.mjs). By AI agents, Wed Nov 11 2026. No macro, syntax, notation, axiom, sorry.
-/
import Derived.Test.YtipfhfeaalbmcabDoorRows
import GoSem.ClaimSeven
namespace Go.Proofs.YtipfhfeaalbmcabDoor
namespace Rows

/-- THE TIED CARD OF 'lemmalaw06.StmtReads'. -/
def stmtReadsCard : Claim7 := { stood := { row := stmtReadsRow, standIns := [], harness := (true, "6fc1bda96e73b8308330cdda0171e81b1cf486c4df2c20f6777502bd12083ce3"), looks := true }, kinds := [], alts := [], laidByText := true, laidKinds := [.data, .data], laidTests := true, laidLooks := .later }
def StmtReadsCardSaid : Prop := Claim7.holds Tryd.pinned (.plain (OpenSpec.ofChange stmtReadsSpec)) stmtReadsCard

/-- THE SECOND FORM's CARD OF 'lemmalaw06.StmtReads'. -/
def stmtReadsUptoCard : Claim7 := { stood := { row := stmtReadsUptoRow, standIns := [], harness := (true, "6fc1bda96e73b8308330cdda0171e81b1cf486c4df2c20f6777502bd12083ce3"), looks := true }, kinds := [], alts := [], laidByText := true, laidKinds := [.data, .data], laidTests := true, laidLooks := .later }
def StmtReadsUptoCardSaid : Prop := Claim7.holds Tryd.pinned (.plain (OpenSpec.upto stmtReadsSpec)) stmtReadsUptoCard
end Rows
end Go.Proofs.YtipfhfeaalbmcabDoor
