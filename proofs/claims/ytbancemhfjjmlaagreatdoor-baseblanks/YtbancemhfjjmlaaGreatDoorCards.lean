/-
  DERIVED. GIVEN WITH THE SEED: THE CARDS: each row of YtbancemhfjjmlaaGreatDoorRows.lean that lists a variable, with what it lists TIED to the program's text (the seventh form; the later family's looks); each row that meets fmt, with fmt's text TOLD by the authors' own Lean function (tested against real Go, not proved from fmt's source: count such statements apart). THE CARD IS WHAT COUNTS. Prove the row's statement (the work); the ties are given (YtbancemhfjjmlaaGreatDoorTie.lean); close each card by the builder's one call (the guide's Derived/Test/ToyasCard.lean, 'card_holds'). Laid BY PROGRAM, IN A SANDBOX (cutbox-door.mjs). By AI agents, Wed Nov 11 2026. No macro, syntax, notation, axiom, sorry.
-/
import Derived.Test.YtbancemhfjjmlaaGreatDoorRows
import GoSem.ClaimSeven
namespace Go.Proofs.YtbancemhfjjmlaaGreatDoor
namespace Rows

/-- THE TIED CARD OF 'lemmalaw08.BaseFirst'. -/
def baseFirstCard : Claim7 := { stood := { row := baseFirstRow, standIns := [], harness := (true, "e17da85a46422afd7586a68e6207a8b43a6ddbfc3625aa9f161a6bc822f43cea"), looks := true }, kinds := [], alts := [], laidByText := true, laidKinds := [.data, .data], laidTests := true, laidLooks := .later }
def BaseFirstCardSaid : Prop := Claim7.holds Tryz.pinned (.plain (OpenSpec.ofChange baseFirstSpec)) baseFirstCard

/-- THE TIED CARD OF 'lemmalaw08.BaseBlanks'. -/
def baseBlanksCard : Claim7 := { stood := { row := baseBlanksRow, standIns := [], harness := (true, "e17da85a46422afd7586a68e6207a8b43a6ddbfc3625aa9f161a6bc822f43cea"), looks := true }, kinds := [], alts := [], laidByText := true, laidKinds := [.data, .data], laidTests := true, laidLooks := .later }
def BaseBlanksCardSaid : Prop := Claim7.holds Tryz.pinned (.plain (OpenSpec.ofChange baseBlanksSpec)) baseBlanksCard

/-- THE TIED CARD OF 'lemmalaw08.BaseFrames'. -/
def baseFramesCard : Claim7 := { stood := { row := baseFramesRow, standIns := [], harness := (true, "e17da85a46422afd7586a68e6207a8b43a6ddbfc3625aa9f161a6bc822f43cea"), looks := true }, kinds := [], alts := [], laidByText := true, laidKinds := [.data, .data], laidTests := true, laidLooks := .later }
def BaseFramesCardSaid : Prop := Claim7.holds Tryz.pinned (.plain (OpenSpec.ofChange baseFramesSpec)) baseFramesCard

/-- THE TIED CARD OF 'lemmalaw08.BaseScopes'. -/
def baseScopesCard : Claim7 := { stood := { row := baseScopesRow, standIns := [], harness := (true, "e17da85a46422afd7586a68e6207a8b43a6ddbfc3625aa9f161a6bc822f43cea"), looks := true }, kinds := [], alts := [], laidByText := true, laidKinds := [.data, .data], laidTests := true, laidLooks := .later }
def BaseScopesCardSaid : Prop := Claim7.holds Tryz.pinned (.plain (OpenSpec.ofChange baseScopesSpec)) baseScopesCard

/-- THE TIED CARD OF 'lemmalaw08.BasePrinted'. -/
def basePrintedCard : Claim7 := { stood := { row := basePrintedRow, standIns := [], harness := (true, "e17da85a46422afd7586a68e6207a8b43a6ddbfc3625aa9f161a6bc822f43cea"), looks := true }, kinds := [], alts := [], laidByText := true, laidKinds := [.data, .data], laidTests := true, laidLooks := .later }
def BasePrintedCardSaid : Prop := Claim7.holds Tryz.pinned (.plain (OpenSpec.ofChange basePrintedSpec)) basePrintedCard

/-- THE TIED CARD OF 'lemmalaw08.BaseLoads'. -/
def baseLoadsCard : Claim7 := { stood := { row := baseLoadsRow, standIns := [], harness := (true, "e17da85a46422afd7586a68e6207a8b43a6ddbfc3625aa9f161a6bc822f43cea"), looks := true }, kinds := [], alts := [], laidByText := true, laidKinds := [.data, .data], laidTests := true, laidLooks := .later }
def BaseLoadsCardSaid : Prop := Claim7.holds Tryz.pinned (.plain (OpenSpec.ofChange baseLoadsSpec)) baseLoadsCard

/-- THE SECOND FORM's CARD OF 'lemmalaw08.BaseFirst'. -/
def baseFirstUptoCard : Claim7 := { stood := { row := baseFirstUptoRow, standIns := [], harness := (true, "e17da85a46422afd7586a68e6207a8b43a6ddbfc3625aa9f161a6bc822f43cea"), looks := true }, kinds := [], alts := [], laidByText := true, laidKinds := [.data, .data], laidTests := true, laidLooks := .later }
def BaseFirstUptoCardSaid : Prop := Claim7.holds Tryz.pinned (.plain (OpenSpec.upto baseFirstSpec)) baseFirstUptoCard

/-- THE SECOND FORM's CARD OF 'lemmalaw08.BaseBlanks'. -/
def baseBlanksUptoCard : Claim7 := { stood := { row := baseBlanksUptoRow, standIns := [], harness := (true, "e17da85a46422afd7586a68e6207a8b43a6ddbfc3625aa9f161a6bc822f43cea"), looks := true }, kinds := [], alts := [], laidByText := true, laidKinds := [.data, .data], laidTests := true, laidLooks := .later }
def BaseBlanksUptoCardSaid : Prop := Claim7.holds Tryz.pinned (.plain (OpenSpec.upto baseBlanksSpec)) baseBlanksUptoCard

/-- THE SECOND FORM's CARD OF 'lemmalaw08.BaseFrames'. -/
def baseFramesUptoCard : Claim7 := { stood := { row := baseFramesUptoRow, standIns := [], harness := (true, "e17da85a46422afd7586a68e6207a8b43a6ddbfc3625aa9f161a6bc822f43cea"), looks := true }, kinds := [], alts := [], laidByText := true, laidKinds := [.data, .data], laidTests := true, laidLooks := .later }
def BaseFramesUptoCardSaid : Prop := Claim7.holds Tryz.pinned (.plain (OpenSpec.upto baseFramesSpec)) baseFramesUptoCard

/-- THE SECOND FORM's CARD OF 'lemmalaw08.BaseScopes'. -/
def baseScopesUptoCard : Claim7 := { stood := { row := baseScopesUptoRow, standIns := [], harness := (true, "e17da85a46422afd7586a68e6207a8b43a6ddbfc3625aa9f161a6bc822f43cea"), looks := true }, kinds := [], alts := [], laidByText := true, laidKinds := [.data, .data], laidTests := true, laidLooks := .later }
def BaseScopesUptoCardSaid : Prop := Claim7.holds Tryz.pinned (.plain (OpenSpec.upto baseScopesSpec)) baseScopesUptoCard

/-- THE SECOND FORM's CARD OF 'lemmalaw08.BasePrinted'. -/
def basePrintedUptoCard : Claim7 := { stood := { row := basePrintedUptoRow, standIns := [], harness := (true, "e17da85a46422afd7586a68e6207a8b43a6ddbfc3625aa9f161a6bc822f43cea"), looks := true }, kinds := [], alts := [], laidByText := true, laidKinds := [.data, .data], laidTests := true, laidLooks := .later }
def BasePrintedUptoCardSaid : Prop := Claim7.holds Tryz.pinned (.plain (OpenSpec.upto basePrintedSpec)) basePrintedUptoCard

/-- THE SECOND FORM's CARD OF 'lemmalaw08.BaseLoads'. -/
def baseLoadsUptoCard : Claim7 := { stood := { row := baseLoadsUptoRow, standIns := [], harness := (true, "e17da85a46422afd7586a68e6207a8b43a6ddbfc3625aa9f161a6bc822f43cea"), looks := true }, kinds := [], alts := [], laidByText := true, laidKinds := [.data, .data], laidTests := true, laidLooks := .later }
def BaseLoadsUptoCardSaid : Prop := Claim7.holds Tryz.pinned (.plain (OpenSpec.upto baseLoadsSpec)) baseLoadsUptoCard
end Rows
end Go.Proofs.YtbancemhfjjmlaaGreatDoor
