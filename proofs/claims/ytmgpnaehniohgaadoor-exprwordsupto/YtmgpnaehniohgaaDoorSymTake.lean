/- What taking a new label does. -/
import Derived.Test.YtmgpnaehniohgaaDoorSymDecl
import Derived.Test.YtmgpnaehniohgaaDoorSymRefused
namespace Go.Proofs.YtmgpnaehniohgaaDoor
open Go.RowKit

def labT (T : Tab) (s : ByteArray) : Tab := { T with labels := T.labels ++ [s] }
theorem labOf_add (l : List ByteArray) (s : ByteArray) (h : labOf l s = none) : (fun t => if t = s then some l.length else labOf l t) = labOf (l ++ [s]) := by
  funext t
  unfold labOf at h ⊢
  rw [List.findIdx?_append]
  by_cases e : t = s
  · subst e
    rw [if_pos rfl, h]
    simp
  · rw [if_neg e]
    cases hm : l.findIdx? (fun p => p = t) with
    | some m => rfl
    | none =>
      have : ¬ s = t := fun h => e h.symm
      simp [this]
theorem info9 : (Tryd.prog.info? 9).map (fun i => (i.zero, i.size, i.bytes)) = some (some (.string ⟨#[]⟩), 1, 16) := by kernel_rfl

end Go.Proofs.YtmgpnaehniohgaaDoor
