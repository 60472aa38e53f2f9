/-
  DERIVED. GIVEN WITH THE SEED: THE CARDS: each row of YtipfhfeaalbmcaaDoorRows.lean that lists a variable, with what it lists TIED to the program's text (the seventh form; the later family's looks); each row that meets fmt, with fmt's text TOLD by the authors' own Lean function (tested against real Go, not proved from fmt's source: count such statements apart). THE CARD IS WHAT COUNTS. Prove the row's statement (the work); the ties are given (YtipfhfeaalbmcaaDoorTie.lean); close each card by the builder's one call (the guide's Derived/Test/ToyasCard.lean, 'card_holds'). Laid BY PROGRAM, IN A SANDBOX (cutbox-door.mjs). By AI agents, Wed Nov 11 2026. No macro, syntax, notation, axiom, sorry.
-/
import Derived.Test.YtipfhfeaalbmcaaDoorRows
import GoSem.ClaimSeven
namespace Go.Proofs.YtipfhfeaalbmcaaDoor
namespace Rows

/-- THE TIED CARD OF 'lemmalaw06.StmtPlaces'. -/
def stmtPlacesCard : Claim7 := { stood := { row := stmtPlacesRow, standIns := [], harness := (true, "c4b8b6a7fc763175a38d2e7949a9067e343dd8db8355f8f7defde66b99691ef4"), looks := true }, kinds := [], alts := [], laidByText := true, laidKinds := [.data, .data], laidTests := true, laidLooks := .later }
def StmtPlacesCardSaid : Prop := Claim7.holds Tryd.pinned (.plain (OpenSpec.ofChange stmtPlacesSpec)) stmtPlacesCard

/-- THE TIED CARD OF 'lemmalaw06.StmtPrints'. -/
def stmtPrintsCard : Claim7 := { stood := { row := stmtPrintsRow, standIns := [], harness := (true, "c4b8b6a7fc763175a38d2e7949a9067e343dd8db8355f8f7defde66b99691ef4"), looks := true }, kinds := [], alts := [], laidByText := true, laidKinds := [.data, .data], laidTests := true, laidLooks := .later }
def StmtPrintsCardSaid : Prop := Claim7.holds Tryd.pinned (.plain (OpenSpec.ofChange stmtPrintsSpec)) stmtPrintsCard

/-- THE TIED CARD OF 'lemmalaw06.StmtKeeps'. -/
def stmtKeepsCard : Claim7 := { stood := { row := stmtKeepsRow, standIns := [], harness := (true, "c4b8b6a7fc763175a38d2e7949a9067e343dd8db8355f8f7defde66b99691ef4"), looks := true }, kinds := [], alts := [], laidByText := true, laidKinds := [.data, .data], laidTests := true, laidLooks := .later }
def StmtKeepsCardSaid : Prop := Claim7.holds Tryd.pinned (.plain (OpenSpec.ofChange stmtKeepsSpec)) stmtKeepsCard

/-- THE TIED CARD OF 'lemmalaw06.StmtParted'. -/
def stmtPartedCard : Claim7 := { stood := { row := stmtPartedRow, standIns := [], harness := (true, "c4b8b6a7fc763175a38d2e7949a9067e343dd8db8355f8f7defde66b99691ef4"), looks := true }, kinds := [], alts := [], laidByText := true, laidKinds := [.data, .data], laidTests := true, laidLooks := .later }
def StmtPartedCardSaid : Prop := Claim7.holds Tryd.pinned (.plain (OpenSpec.ofChange stmtPartedSpec)) stmtPartedCard

/-- THE TIED CARD OF 'lemmalaw06.StmtFaults'. -/
def stmtFaultsCard : Claim7 := { stood := { row := stmtFaultsRow, standIns := [], harness := (true, "c4b8b6a7fc763175a38d2e7949a9067e343dd8db8355f8f7defde66b99691ef4"), looks := true }, kinds := [], alts := [], laidByText := true, laidKinds := [.data, .data], laidTests := true, laidLooks := .later }
def StmtFaultsCardSaid : Prop := Claim7.holds Tryd.pinned (.plain (OpenSpec.ofChange stmtFaultsSpec)) stmtFaultsCard

/-- THE TIED CARD OF 'lemmalaw06.StmtBack'. -/
def stmtBackCard : Claim7 := { stood := { row := stmtBackRow, standIns := [], harness := (true, "c4b8b6a7fc763175a38d2e7949a9067e343dd8db8355f8f7defde66b99691ef4"), looks := true }, kinds := [], alts := [], laidByText := true, laidKinds := [.data, .data], laidTests := true, laidLooks := .later }
def StmtBackCardSaid : Prop := Claim7.holds Tryd.pinned (.plain (OpenSpec.ofChange stmtBackSpec)) stmtBackCard

/-- THE SECOND FORM's CARD OF 'lemmalaw06.StmtPlaces'. -/
def stmtPlacesUptoCard : Claim7 := { stood := { row := stmtPlacesUptoRow, standIns := [], harness := (true, "c4b8b6a7fc763175a38d2e7949a9067e343dd8db8355f8f7defde66b99691ef4"), looks := true }, kinds := [], alts := [], laidByText := true, laidKinds := [.data, .data], laidTests := true, laidLooks := .later }
def StmtPlacesUptoCardSaid : Prop := Claim7.holds Tryd.pinned (.plain (OpenSpec.upto stmtPlacesSpec)) stmtPlacesUptoCard

/-- THE SECOND FORM's CARD OF 'lemmalaw06.StmtPrints'. -/
def stmtPrintsUptoCard : Claim7 := { stood := { row := stmtPrintsUptoRow, standIns := [], harness := (true, "c4b8b6a7fc763175a38d2e7949a9067e343dd8db8355f8f7defde66b99691ef4"), looks := true }, kinds := [], alts := [], laidByText := true, laidKinds := [.data, .data], laidTests := true, laidLooks := .later }
def StmtPrintsUptoCardSaid : Prop := Claim7.holds Tryd.pinned (.plain (OpenSpec.upto stmtPrintsSpec)) stmtPrintsUptoCard

/-- THE SECOND FORM's CARD OF 'lemmalaw06.StmtKeeps'. -/
def stmtKeepsUptoCard : Claim7 := { stood := { row := stmtKeepsUptoRow, standIns := [], harness := (true, "c4b8b6a7fc763175a38d2e7949a9067e343dd8db8355f8f7defde66b99691ef4"), looks := true }, kinds := [], alts := [], laidByText := true, laidKinds := [.data, .data], laidTests := true, laidLooks := .later }
def StmtKeepsUptoCardSaid : Prop := Claim7.holds Tryd.pinned (.plain (OpenSpec.upto stmtKeepsSpec)) stmtKeepsUptoCard

/-- THE SECOND FORM's CARD OF 'lemmalaw06.StmtParted'. -/
def stmtPartedUptoCard : Claim7 := { stood := { row := stmtPartedUptoRow, standIns := [], harness := (true, "c4b8b6a7fc763175a38d2e7949a9067e343dd8db8355f8f7defde66b99691ef4"), looks := true }, kinds := [], alts := [], laidByText := true, laidKinds := [.data, .data], laidTests := true, laidLooks := .later }
def StmtPartedUptoCardSaid : Prop := Claim7.holds Tryd.pinned (.plain (OpenSpec.upto stmtPartedSpec)) stmtPartedUptoCard

/-- THE SECOND FORM's CARD OF 'lemmalaw06.StmtFaults'. -/
def stmtFaultsUptoCard : Claim7 := { stood := { row := stmtFaultsUptoRow, standIns := [], harness := (true, "c4b8b6a7fc763175a38d2e7949a9067e343dd8db8355f8f7defde66b99691ef4"), looks := true }, kinds := [], alts := [], laidByText := true, laidKinds := [.data, .data], laidTests := true, laidLooks := .later }
def StmtFaultsUptoCardSaid : Prop := Claim7.holds Tryd.pinned (.plain (OpenSpec.upto stmtFaultsSpec)) stmtFaultsUptoCard

/-- THE SECOND FORM's CARD OF 'lemmalaw06.StmtBack'. -/
def stmtBackUptoCard : Claim7 := { stood := { row := stmtBackUptoRow, standIns := [], harness := (true, "c4b8b6a7fc763175a38d2e7949a9067e343dd8db8355f8f7defde66b99691ef4"), looks := true }, kinds := [], alts := [], laidByText := true, laidKinds := [.data, .data], laidTests := true, laidLooks := .later }
def StmtBackUptoCardSaid : Prop := Claim7.holds Tryd.pinned (.plain (OpenSpec.upto stmtBackSpec)) stmtBackUptoCard
end Rows
end Go.Proofs.YtipfhfeaalbmcaaDoor
