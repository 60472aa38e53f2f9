/-
  DERIVED. GIVEN WITH THE SEED: THE CARDS: each row of YtekbddpdcjbinaaDoorRows.lean that lists a variable, with what it lists TIED to the program's text (the seventh form; the later family's looks); each row that meets fmt, with fmt's text TOLD by the authors' own Lean function (tested against real Go, not proved from fmt's source: count such statements apart). THE CARD IS WHAT COUNTS. Prove the row's statement (the work); the ties are given (YtekbddpdcjbinaaDoorTie.lean); close each card by the builder's one call (the guide's Derived/Test/ToyasCard.lean, 'card_holds'). Laid BY PROGRAM, IN A SANDBOX (cutbox-door.mjs). By AI agents, Wed Nov 11 2026. No macro, syntax, notation, axiom, sorry.
-/
import Derived.Test.YtekbddpdcjbinaaDoorRows
import GoSem.ClaimSeven
namespace Go.Proofs.YtekbddpdcjbinaaDoor
namespace Rows

/-- THE TIED CARD OF 'lemmalaw01.ScanLimits'. -/
def scanLimitsCard : Claim7 := { stood := { row := scanLimitsRow, standIns := [], harness := (true, "62d72ded0cd4228162a65a3c8ed0d37aaf6d97cf2e9b8a955c277ab7f6ce86b0"), looks := false }, kinds := [], alts := [], laidByText := true, laidKinds := [.data], laidTests := true, laidLooks := .later }
def ScanLimitsCardSaid : Prop := Claim7.holds Tryd.pinned (.plain (OpenSpec.ofChange scanLimitsSpec)) scanLimitsCard

/-- THE TIED CARD OF 'lemmalaw01.ScanFresh'. -/
def scanFreshCard : Claim7 := { stood := { row := scanFreshRow, standIns := [], harness := (true, "62d72ded0cd4228162a65a3c8ed0d37aaf6d97cf2e9b8a955c277ab7f6ce86b0"), looks := false }, kinds := [], alts := [], laidByText := true, laidKinds := [.data], laidTests := true, laidLooks := .later }
def ScanFreshCardSaid : Prop := Claim7.holds Tryd.pinned (.plain (OpenSpec.ofChange scanFreshSpec)) scanFreshCard

/-- THE TIED CARD OF 'lemmalaw01.ScanFirst'. -/
def scanFirstCard : Claim7 := { stood := { row := scanFirstRow, standIns := [], harness := (true, "62d72ded0cd4228162a65a3c8ed0d37aaf6d97cf2e9b8a955c277ab7f6ce86b0"), looks := false }, kinds := [], alts := [], laidByText := true, laidKinds := [.data], laidTests := true, laidLooks := .later }
def ScanFirstCardSaid : Prop := Claim7.holds Tryd.pinned (.plain (OpenSpec.ofChange scanFirstSpec)) scanFirstCard

/-- THE TIED CARD OF 'lemmalaw01.ScanTokens'. -/
def scanTokensCard : Claim7 := { stood := { row := scanTokensRow, standIns := [], harness := (true, "62d72ded0cd4228162a65a3c8ed0d37aaf6d97cf2e9b8a955c277ab7f6ce86b0"), looks := false }, kinds := [], alts := [], laidByText := true, laidKinds := [.data], laidTests := true, laidLooks := .later }
def ScanTokensCardSaid : Prop := Claim7.holds Tryd.pinned (.plain (OpenSpec.ofChange scanTokensSpec)) scanTokensCard

/-- THE TIED CARD OF 'lemmalaw01.ScanSpread'. -/
def scanSpreadCard : Claim7 := { stood := { row := scanSpreadRow, standIns := [], harness := (true, "62d72ded0cd4228162a65a3c8ed0d37aaf6d97cf2e9b8a955c277ab7f6ce86b0"), looks := false }, kinds := [], alts := [], laidByText := true, laidKinds := [.data], laidTests := true, laidLooks := .later }
def ScanSpreadCardSaid : Prop := Claim7.holds Tryd.pinned (.plain (OpenSpec.ofChange scanSpreadSpec)) scanSpreadCard

/-- THE TIED CARD OF 'lemmalaw01.ScanAsks'. -/
def scanAsksCard : Claim7 := { stood := { row := scanAsksRow, standIns := [], harness := (true, "62d72ded0cd4228162a65a3c8ed0d37aaf6d97cf2e9b8a955c277ab7f6ce86b0"), looks := false }, kinds := [], alts := [], laidByText := true, laidKinds := [.data], laidTests := true, laidLooks := .later }
def ScanAsksCardSaid : Prop := Claim7.holds Tryd.pinned (.plain (OpenSpec.ofChange scanAsksSpec)) scanAsksCard

/-- THE SECOND FORM's CARD OF 'lemmalaw01.ScanLimits'. -/
def scanLimitsUptoCard : Claim7 := { stood := { row := scanLimitsUptoRow, standIns := [], harness := (true, "62d72ded0cd4228162a65a3c8ed0d37aaf6d97cf2e9b8a955c277ab7f6ce86b0"), looks := false }, kinds := [], alts := [], laidByText := true, laidKinds := [.data], laidTests := true, laidLooks := .later }
def ScanLimitsUptoCardSaid : Prop := Claim7.holds Tryd.pinned (.plain (OpenSpec.upto scanLimitsSpec)) scanLimitsUptoCard

/-- THE SECOND FORM's CARD OF 'lemmalaw01.ScanFresh'. -/
def scanFreshUptoCard : Claim7 := { stood := { row := scanFreshUptoRow, standIns := [], harness := (true, "62d72ded0cd4228162a65a3c8ed0d37aaf6d97cf2e9b8a955c277ab7f6ce86b0"), looks := false }, kinds := [], alts := [], laidByText := true, laidKinds := [.data], laidTests := true, laidLooks := .later }
def ScanFreshUptoCardSaid : Prop := Claim7.holds Tryd.pinned (.plain (OpenSpec.upto scanFreshSpec)) scanFreshUptoCard

/-- THE SECOND FORM's CARD OF 'lemmalaw01.ScanFirst'. -/
def scanFirstUptoCard : Claim7 := { stood := { row := scanFirstUptoRow, standIns := [], harness := (true, "62d72ded0cd4228162a65a3c8ed0d37aaf6d97cf2e9b8a955c277ab7f6ce86b0"), looks := false }, kinds := [], alts := [], laidByText := true, laidKinds := [.data], laidTests := true, laidLooks := .later }
def ScanFirstUptoCardSaid : Prop := Claim7.holds Tryd.pinned (.plain (OpenSpec.upto scanFirstSpec)) scanFirstUptoCard

/-- THE SECOND FORM's CARD OF 'lemmalaw01.ScanTokens'. -/
def scanTokensUptoCard : Claim7 := { stood := { row := scanTokensUptoRow, standIns := [], harness := (true, "62d72ded0cd4228162a65a3c8ed0d37aaf6d97cf2e9b8a955c277ab7f6ce86b0"), looks := false }, kinds := [], alts := [], laidByText := true, laidKinds := [.data], laidTests := true, laidLooks := .later }
def ScanTokensUptoCardSaid : Prop := Claim7.holds Tryd.pinned (.plain (OpenSpec.upto scanTokensSpec)) scanTokensUptoCard

/-- THE SECOND FORM's CARD OF 'lemmalaw01.ScanSpread'. -/
def scanSpreadUptoCard : Claim7 := { stood := { row := scanSpreadUptoRow, standIns := [], harness := (true, "62d72ded0cd4228162a65a3c8ed0d37aaf6d97cf2e9b8a955c277ab7f6ce86b0"), looks := false }, kinds := [], alts := [], laidByText := true, laidKinds := [.data], laidTests := true, laidLooks := .later }
def ScanSpreadUptoCardSaid : Prop := Claim7.holds Tryd.pinned (.plain (OpenSpec.upto scanSpreadSpec)) scanSpreadUptoCard

/-- THE SECOND FORM's CARD OF 'lemmalaw01.ScanAsks'. -/
def scanAsksUptoCard : Claim7 := { stood := { row := scanAsksUptoRow, standIns := [], harness := (true, "62d72ded0cd4228162a65a3c8ed0d37aaf6d97cf2e9b8a955c277ab7f6ce86b0"), looks := false }, kinds := [], alts := [], laidByText := true, laidKinds := [.data], laidTests := true, laidLooks := .later }
def ScanAsksUptoCardSaid : Prop := Claim7.holds Tryd.pinned (.plain (OpenSpec.upto scanAsksSpec)) scanAsksUptoCard
end Rows
end Go.Proofs.YtekbddpdcjbinaaDoor
