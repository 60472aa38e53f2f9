/- What the condition on the tables of utf8 gives. -/
import Derived.Test.YtffchjigpppoaaaDoorRows
import Derived.Test.YtffchjigpppoaaaDoorTake
import Derived.Lib.LaidU8T
import Derived.PinnedBridge
import Derived.Lay
import Derived.LaidOnce
import Derived.MakeChecks
import Derived.ProofKit
namespace Go.Proofs.YtffchjigpppoaaaDoor
open Go.ChangeShapes Go.WideShapes Go.ChangeAt Go.RowKit Go.Shelf Go.Lib

theorem own : ownKnob Tryd.prog.godebug = none := by kernel_rfl
theorem laidOut : laidOutB Tryd.prog = true := by kernel_rfl
def laid2 : List (String × DataW Unit) := [("unicode/utf8.acceptRanges", Rows.laid_unicode_utf8_acceptRanges), ("unicode/utf8.first", Rows.laid_unicode_utf8_first)]
theorem acc_eq : (Rows.laid_unicode_utf8_acceptRanges : DataW Unit) = acceptData := by kernel_rfl
theorem u8T : U8Types Tryd.prog Tryd.lays197_ren := ⟨Tryd.underlying5, Tryd.underlying124, Tryd.underlying127, Tryd.underlying128⟩
theorem u8X : U8Extra Tryd.prog Tryd.lays197_ren := by constructor <;> kernel_rfl
theorem tabs_of_laid {W : World} (h : laidMetH Tryd.prog laid2 W) : Tabs W := by
  rw [MakeChecks.laidMetH_plain _ _ _ (by kernel_rfl)] at h
  have h4 := Lib.laidMet.reads h (List.Mem.head _)
  have h3 := Lib.laidMet.reads h (List.Mem.tail _ (List.Mem.head _))
  rw [acc_eq] at h4
  rw [show Rows.laid_unicode_utf8_first = firstData from Pinned.utf8First_eq] at h3
  exact utf8Tabs_of_readsT u8T u8X h3 h4
end Go.Proofs.YtffchjigpppoaaaDoor
