/-
  DERIVED. GIVEN WITH THE SEED: THE PROGRAM's TIES (one call each: nine closed facts by the kernel) AND EACH ROW's TIE, after the 31st guide's Derived/Test/Toyas{Tie, Card}.lean. No idea stands in it: it is a product of the set-up. Laid BY PROGRAM, IN A SANDBOX (cutbox-door.mjs). By AI agents, Wed Nov 11 2026. No macro, syntax, notation, axiom, sorry.
-/
import Derived.Test.YtipfhfeaalbmcabDoorRows
import Derived.LaidByTextLater
import Derived.SevenTiedAt
import Derived.LaidSub
import Derived.LaidOnce
namespace Go.Proofs.YtipfhfeaalbmcabDoor
open Go
set_option maxRecDepth 100000
theorem seatTie1 : Tryd.prog.laidByTextLater [("lemma/scan.kinds", Rows.laid_lemma_scan_kinds), ("lemma/stmt.shapes", Rows.laid_lemma_stmt_shapes)] [.data, .data] true :=
  Program.laidByTextLater_by_one 28 8 129 (by kernel_rfl) (by kernel_rfl) (by kernel_rfl) (by kernel_rfl) (by kernel_rfl) (by kernel_rfl) (fun _ _ => by kernel_rfl)
theorem noOwnUnsafe : Tryd.pinned.checked.prog.headLifts.contains "ownunsafe" = false := by kernel_rfl
theorem tie : Tryd.prog.laidByTextLater [("lemma/scan.kinds", Rows.laid_lemma_scan_kinds), ("lemma/stmt.shapes", Rows.laid_lemma_stmt_shapes)] [.data, .data] true :=
  Program.laidByTextLater.sub seatTie1 ["lemma/scan.kinds", "lemma/stmt.shapes"] (by kernel_rfl) (by kernel_rfl)
theorem stmtReads_row_tie : Rows.stmtReadsRow.laidByTextAt .later Tryd.pinned [.data, .data] true :=
  OpenClaim.laidByTextAt_later rfl rfl tie noOwnUnsafe
theorem stmtReadsUpto_row_tie : Rows.stmtReadsUptoRow.laidByTextAt .later Tryd.pinned [.data, .data] true :=
  OpenClaim.laidByTextAt_later rfl rfl tie noOwnUnsafe
end Go.Proofs.YtipfhfeaalbmcabDoor
