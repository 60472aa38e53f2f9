/- What the conditions on the tables give, and a start that meets them. -/
import Derived.Test.YtipfhfeaalbmcaaDoorRows
import Derived.Test.YtipfhfeaalbmcaaDoorShapesOf
import Derived.Test.YtipfhfeaalbmcaaDoorRRead
import Derived.Test.YtipfhfeaalbmcaaDoorKLays
import Derived.ProofKit
import Derived.LaidMore
import Derived.OpenShut
import Derived.ShutString
import Derived.Stop.Joined
import Derived.Lib.LaidTab
import Derived.MakeChecks
import Derived.Lay
namespace Go.Proofs.YtipfhfeaalbmcaaDoor
open Go.ChangeShapes Go.WideShapes Go.ChangeAt Go.RowKit Go.Deep Go.Shelf Go.Lib

theorem rown : ownKnob Tryd.prog.godebug = none := by kernel_rfl
theorem rlaidOut : laidOutB Tryd.prog = true := by kernel_rfl
theorem gKinds : Tryd.prog.globalNamed "lemma/scan.kinds" = some 2 := by kernel_rfl
theorem tKinds : (Tryd.prog.globals[2]?).map (·.type) = some 146 := by kernel_rfl
def laidR : List (String × DataW Unit) := [("lemma/scan.kinds", Rows.laid_lemma_scan_kinds), ("lemma/stmt.shapes", Rows.laid_lemma_stmt_shapes)]
theorem laidR_tab : laidR = [("lemma/scan.kinds", Lib.tabData .u8 K.tbl), ("lemma/stmt.shapes", Rows.laid_lemma_stmt_shapes)] := by kernel_rfl
theorem c5 : Tryd.prog.cellsOf 5 = 1 := by kernel_rfl
theorem c146 : Tryd.prog.cellsOf 146 = 128 := by kernel_rfl
theorem rdw_of_laid {W : World} (h : laidMetH Tryd.prog laidR W) (hsh : W.ShapedOpen Tryd.prog) : RdW W := by
  rw [MakeChecks.laidMetH_plain _ _ _ (by kernel_rfl)] at h
  have h2 := Lib.laidMet.reads h (List.Mem.tail _ (List.Mem.head _))
  rw [laidR_tab] at h
  have hv := Lib.tabIs_of_head gKinds tKinds Tryd.underlying146 Tryd.underlying5 c5 c146 h
  refine ⟨fun i hi => ?_, Tryd.laysM144.s1_3 W hsh, shapes_of h2⟩
  have hc := World.var?_cell gKinds hv i
  rw [hc]
  have hl : i < K.tbl.length := hi
  simp [hl]
theorem door_met (os : Os) (args : Array Value) : laidMetH Tryd.prog laidR ((World.doorLaid Tryd.prog 400 os).forCall (fun _ _ => 0) ⟨#[], args, []⟩).memory :=
  laidMetH_of_parts3 (fuel := 8) (laidMet_of_run' 8 (by kernel_rfl) (by kernel_rfl)) (by kernel_rfl) (by kernel_rfl)
end Go.Proofs.YtipfhfeaalbmcaaDoor
