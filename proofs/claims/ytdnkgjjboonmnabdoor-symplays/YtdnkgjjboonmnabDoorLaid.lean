/- What the condition on the table of bytes gives, and a start that meets it. -/
import Derived.Test.YtdnkgjjboonmnabDoorRows
import Derived.Test.YtdnkgjjboonmnabDoorKinds
import Derived.ProofKit
import Derived.LaidMore
import Derived.OpenShut
import Derived.ShutString
import Derived.Stop.Joined
import Derived.Lib.LaidTab
import Derived.MakeChecks
namespace Go.Proofs.YtdnkgjjboonmnabDoor
open Go.ChangeShapes Go.WideShapes Go.ChangeAt Go.RowKit

theorem own : ownKnob Tryd.prog.godebug = none := by kernel_rfl
theorem laidOut : laidOutB Tryd.prog = true := by kernel_rfl
theorem gKinds : Tryd.prog.globalNamed "lemma/scan.kinds" = some 0 := by kernel_rfl
theorem tKinds : (Tryd.prog.globals[0]?).map (·.type) = some 72 := by kernel_rfl
def laid1 : List (String × DataW Unit) := [("lemma/scan.kinds", Rows.laid_lemma_scan_kinds)]
theorem laid1_tab : laid1 = [("lemma/scan.kinds", Lib.tabData .u8 tbl)] := by kernel_rfl
theorem c5 : Tryd.prog.cellsOf 5 = 1 := by kernel_rfl
theorem c75 : Tryd.prog.cellsOf 72 = 128 := by kernel_rfl

/-- The door's own heap meets the condition. -/
theorem door_met (os : Os) (args : Array Value) : laidMetH Tryd.prog laid1 ((World.doorLaid Tryd.prog 400 os).forCall (fun _ _ => 0) ⟨#[], args, []⟩).memory :=
  laidMetH_of_parts3 (fuel := 8) (laidMet_of_run' 8 (by kernel_rfl) (by kernel_rfl)) (by kernel_rfl) (by kernel_rfl)

theorem kb_of_laid {W : World} (h : laidMetH Tryd.prog laid1 W) : KB W := by
  rw [MakeChecks.laidMetH_plain _ _ _ (by kernel_rfl), laid1_tab] at h
  have hv := Lib.tabIs_of_head gKinds tKinds Tryd.underlying72 Tryd.underlying5 c5 c75 h
  intro i hi
  have hc := World.var?_cell gKinds hv i
  rw [hc]
  have hl : i < tbl.length := hi
  simp [hl]
end Go.Proofs.YtdnkgjjboonmnabDoor
