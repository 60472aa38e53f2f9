/-
  DERIVED. GIVEN WITH THE SEED: THE CARDS: each row of YtffchjigpppoaaaDoorRows.lean that lists a variable, with what it lists TIED to the program's text (the seventh form; the later family's looks); each row that meets fmt, with fmt's text TOLD by the authors' own Lean function (tested against real Go, not proved from fmt's source: count such statements apart). THE CARD IS WHAT COUNTS. Prove the row's statement (the work); the ties are given (YtffchjigpppoaaaDoorTie.lean); close each card by the builder's one call (the guide's Derived/Test/ToyasCard.lean, 'card_holds'). Laid BY PROGRAM, IN A SANDBOX (cutbox-door.mjs). By AI agents, Wed Nov 11 2026. No macro, syntax, notation, axiom, sorry.
-/
import Derived.Test.YtffchjigpppoaaaDoorRows
import GoSem.ClaimSeven
namespace Go.Proofs.YtffchjigpppoaaaDoor
namespace Rows

/-- THE TIED CARD OF 'lemmalaw10.ProofLines'. -/
def proofLinesCard : Claim7 := { stood := { row := proofLinesRow, standIns := [], harness := (true, "045d0332240730029abe00f6b786c040fe1b99401ae1f7d8f8901e43e63ac4e0"), looks := false }, kinds := [], alts := [], laidByText := true, laidKinds := [.data], laidTests := true, laidLooks := .later }
def ProofLinesCardSaid : Prop := Claim7.holds Tryd.pinned (.plain (OpenSpec.ofChange proofLinesSpec)) proofLinesCard

/-- THE TIED CARD OF 'lemmalaw10.ProofPrints'. -/
def proofPrintsCard : Claim7 := { stood := { row := proofPrintsRow, standIns := [], harness := (true, "045d0332240730029abe00f6b786c040fe1b99401ae1f7d8f8901e43e63ac4e0"), looks := false }, kinds := [], alts := [], laidByText := true, laidKinds := [.data], laidTests := true, laidLooks := .later }
def ProofPrintsCardSaid : Prop := Claim7.holds Tryd.pinned (.plain (OpenSpec.ofChange proofPrintsSpec)) proofPrintsCard

/-- THE TIED CARD OF 'lemmalaw10.ProofKeeps'. -/
def proofKeepsCard : Claim7 := { stood := { row := proofKeepsRow, standIns := [], harness := (true, "045d0332240730029abe00f6b786c040fe1b99401ae1f7d8f8901e43e63ac4e0"), looks := false }, kinds := [], alts := [], laidByText := true, laidKinds := [.data, .data, .pinned], laidTests := true, laidLooks := .later }
def ProofKeepsCardSaid : Prop := Claim7.holds Tryd.pinned (.plain (OpenSpec.ofChange proofKeepsSpec)) proofKeepsCard

/-- THE TIED CARD OF 'lemmalaw10.ProofParses'. -/
def proofParsesCard : Claim7 := { stood := { row := proofParsesRow, standIns := [], harness := (true, "045d0332240730029abe00f6b786c040fe1b99401ae1f7d8f8901e43e63ac4e0"), looks := false }, kinds := [], alts := [], laidByText := true, laidKinds := [.data, .data, .pinned], laidTests := true, laidLooks := .later }
def ProofParsesCardSaid : Prop := Claim7.holds Tryd.pinned (.plain (OpenSpec.ofChange proofParsesSpec)) proofParsesCard

/-- THE TIED CARD OF 'lemmalaw10.ProofSplits'. -/
def proofSplitsCard : Claim7 := { stood := { row := proofSplitsRow, standIns := [], harness := (true, "045d0332240730029abe00f6b786c040fe1b99401ae1f7d8f8901e43e63ac4e0"), looks := false }, kinds := [], alts := [], laidByText := true, laidKinds := [.data, .data, .pinned], laidTests := true, laidLooks := .later }
def ProofSplitsCardSaid : Prop := Claim7.holds Tryd.pinned (.plain (OpenSpec.ofChange proofSplitsSpec)) proofSplitsCard

/-- THE TIED CARD OF 'lemmalaw10.ProofBack'. -/
def proofBackCard : Claim7 := { stood := { row := proofBackRow, standIns := [], harness := (true, "045d0332240730029abe00f6b786c040fe1b99401ae1f7d8f8901e43e63ac4e0"), looks := false }, kinds := [], alts := [], laidByText := true, laidKinds := [.data, .data, .pinned], laidTests := true, laidLooks := .later }
def ProofBackCardSaid : Prop := Claim7.holds Tryd.pinned (.plain (OpenSpec.ofChange proofBackSpec)) proofBackCard

/-- THE SECOND FORM's CARD OF 'lemmalaw10.ProofLines'. -/
def proofLinesUptoCard : Claim7 := { stood := { row := proofLinesUptoRow, standIns := [], harness := (true, "045d0332240730029abe00f6b786c040fe1b99401ae1f7d8f8901e43e63ac4e0"), looks := false }, kinds := [], alts := [], laidByText := true, laidKinds := [.data], laidTests := true, laidLooks := .later }
def ProofLinesUptoCardSaid : Prop := Claim7.holds Tryd.pinned (.plain (OpenSpec.upto proofLinesSpec)) proofLinesUptoCard

/-- THE SECOND FORM's CARD OF 'lemmalaw10.ProofPrints'. -/
def proofPrintsUptoCard : Claim7 := { stood := { row := proofPrintsUptoRow, standIns := [], harness := (true, "045d0332240730029abe00f6b786c040fe1b99401ae1f7d8f8901e43e63ac4e0"), looks := false }, kinds := [], alts := [], laidByText := true, laidKinds := [.data], laidTests := true, laidLooks := .later }
def ProofPrintsUptoCardSaid : Prop := Claim7.holds Tryd.pinned (.plain (OpenSpec.upto proofPrintsSpec)) proofPrintsUptoCard

/-- THE SECOND FORM's CARD OF 'lemmalaw10.ProofKeeps'. -/
def proofKeepsUptoCard : Claim7 := { stood := { row := proofKeepsUptoRow, standIns := [], harness := (true, "045d0332240730029abe00f6b786c040fe1b99401ae1f7d8f8901e43e63ac4e0"), looks := false }, kinds := [], alts := [], laidByText := true, laidKinds := [.data, .data, .pinned], laidTests := true, laidLooks := .later }
def ProofKeepsUptoCardSaid : Prop := Claim7.holds Tryd.pinned (.plain (OpenSpec.upto proofKeepsSpec)) proofKeepsUptoCard

/-- THE SECOND FORM's CARD OF 'lemmalaw10.ProofParses'. -/
def proofParsesUptoCard : Claim7 := { stood := { row := proofParsesUptoRow, standIns := [], harness := (true, "045d0332240730029abe00f6b786c040fe1b99401ae1f7d8f8901e43e63ac4e0"), looks := false }, kinds := [], alts := [], laidByText := true, laidKinds := [.data, .data, .pinned], laidTests := true, laidLooks := .later }
def ProofParsesUptoCardSaid : Prop := Claim7.holds Tryd.pinned (.plain (OpenSpec.upto proofParsesSpec)) proofParsesUptoCard

/-- THE SECOND FORM's CARD OF 'lemmalaw10.ProofSplits'. -/
def proofSplitsUptoCard : Claim7 := { stood := { row := proofSplitsUptoRow, standIns := [], harness := (true, "045d0332240730029abe00f6b786c040fe1b99401ae1f7d8f8901e43e63ac4e0"), looks := false }, kinds := [], alts := [], laidByText := true, laidKinds := [.data, .data, .pinned], laidTests := true, laidLooks := .later }
def ProofSplitsUptoCardSaid : Prop := Claim7.holds Tryd.pinned (.plain (OpenSpec.upto proofSplitsSpec)) proofSplitsUptoCard

/-- THE SECOND FORM's CARD OF 'lemmalaw10.ProofBack'. -/
def proofBackUptoCard : Claim7 := { stood := { row := proofBackUptoRow, standIns := [], harness := (true, "045d0332240730029abe00f6b786c040fe1b99401ae1f7d8f8901e43e63ac4e0"), looks := false }, kinds := [], alts := [], laidByText := true, laidKinds := [.data, .data, .pinned], laidTests := true, laidLooks := .later }
def ProofBackUptoCardSaid : Prop := Claim7.holds Tryd.pinned (.plain (OpenSpec.upto proofBackSpec)) proofBackUptoCard
end Rows
end Go.Proofs.YtffchjigpppoaaaDoor
