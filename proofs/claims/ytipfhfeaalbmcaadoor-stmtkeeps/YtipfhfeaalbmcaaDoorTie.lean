/-
  DERIVED. GIVEN WITH THE SEED: THE PROGRAM's TIES (one call each: nine closed facts by the kernel) AND EACH ROW's TIE, after the 31st guide's Derived/Test/Toyas{Tie, Card}.lean. No idea stands in it: it is a product of the set-up. Laid BY PROGRAM, IN A SANDBOX (cutbox-door.mjs). By AI agents, Wed Nov 11 2026. No macro, syntax, notation, axiom, sorry.
-/
import Derived.Test.YtipfhfeaalbmcaaDoorRows
import Derived.LaidByTextLater
import Derived.SevenTiedAt
import Derived.LaidSub
import Derived.LaidOnce
namespace Go.Proofs.YtipfhfeaalbmcaaDoor
open Go
set_option maxRecDepth 100000
theorem seatTie1 : Tryd.prog.laidByTextLater [("lemma/scan.kinds", Rows.laid_lemma_scan_kinds), ("lemma/stmt.shapes", Rows.laid_lemma_stmt_shapes), ("lemma/lemmalaw06.room", Rows.laid_lemma_lemmalaw06_room)] [.data, .data, .data] true :=
  Program.laidByTextLater_by_one 33 8 129 (by kernel_rfl) (by kernel_rfl) (by kernel_rfl) (by kernel_rfl) (by kernel_rfl) (by kernel_rfl) (fun _ _ => by kernel_rfl)
theorem noOwnUnsafe : Tryd.pinned.checked.prog.headLifts.contains "ownunsafe" = false := by kernel_rfl
theorem tie : Tryd.prog.laidByTextLater [("lemma/scan.kinds", Rows.laid_lemma_scan_kinds), ("lemma/stmt.shapes", Rows.laid_lemma_stmt_shapes)] [.data, .data] true :=
  Program.laidByTextLater.sub seatTie1 ["lemma/scan.kinds", "lemma/stmt.shapes"] (by kernel_rfl) (by kernel_rfl)
theorem stmtPlaces_row_tie : Rows.stmtPlacesRow.laidByTextAt .later Tryd.pinned [.data, .data] true :=
  OpenClaim.laidByTextAt_later rfl rfl tie noOwnUnsafe
theorem stmtKeeps_row_tie : Rows.stmtKeepsRow.laidByTextAt .later Tryd.pinned [.data, .data] true :=
  OpenClaim.laidByTextAt_later rfl rfl tie noOwnUnsafe
theorem stmtParted_row_tie : Rows.stmtPartedRow.laidByTextAt .later Tryd.pinned [.data, .data] true :=
  OpenClaim.laidByTextAt_later rfl rfl tie noOwnUnsafe
theorem stmtFaults_row_tie : Rows.stmtFaultsRow.laidByTextAt .later Tryd.pinned [.data, .data] true :=
  OpenClaim.laidByTextAt_later rfl rfl tie noOwnUnsafe
theorem stmtBack_row_tie : Rows.stmtBackRow.laidByTextAt .later Tryd.pinned [.data, .data] true :=
  OpenClaim.laidByTextAt_later rfl rfl tie noOwnUnsafe
theorem tie2 : Tryd.prog.laidByTextLater [("lemma/stmt.shapes", Rows.laid_lemma_stmt_shapes), ("lemma/lemmalaw06.room", Rows.laid_lemma_lemmalaw06_room)] [.data, .data] true :=
  Program.laidByTextLater.sub seatTie1 ["lemma/stmt.shapes", "lemma/lemmalaw06.room"] (by kernel_rfl) (by kernel_rfl)
theorem stmtPrints_row_tie : Rows.stmtPrintsRow.laidByTextAt .later Tryd.pinned [.data, .data] true :=
  OpenClaim.laidByTextAt_later rfl rfl tie2 noOwnUnsafe
theorem stmtPlacesUpto_row_tie : Rows.stmtPlacesUptoRow.laidByTextAt .later Tryd.pinned [.data, .data] true :=
  OpenClaim.laidByTextAt_later rfl rfl tie noOwnUnsafe
theorem stmtPrintsUpto_row_tie : Rows.stmtPrintsUptoRow.laidByTextAt .later Tryd.pinned [.data, .data] true :=
  OpenClaim.laidByTextAt_later rfl rfl tie2 noOwnUnsafe
theorem stmtKeepsUpto_row_tie : Rows.stmtKeepsUptoRow.laidByTextAt .later Tryd.pinned [.data, .data] true :=
  OpenClaim.laidByTextAt_later rfl rfl tie noOwnUnsafe
theorem stmtPartedUpto_row_tie : Rows.stmtPartedUptoRow.laidByTextAt .later Tryd.pinned [.data, .data] true :=
  OpenClaim.laidByTextAt_later rfl rfl tie noOwnUnsafe
theorem stmtFaultsUpto_row_tie : Rows.stmtFaultsUptoRow.laidByTextAt .later Tryd.pinned [.data, .data] true :=
  OpenClaim.laidByTextAt_later rfl rfl tie noOwnUnsafe
theorem stmtBackUpto_row_tie : Rows.stmtBackUptoRow.laidByTextAt .later Tryd.pinned [.data, .data] true :=
  OpenClaim.laidByTextAt_later rfl rfl tie noOwnUnsafe
end Go.Proofs.YtipfhfeaalbmcaaDoor
