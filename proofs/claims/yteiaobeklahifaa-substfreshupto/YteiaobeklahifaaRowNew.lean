/- A row in a new block. -/
import Derived.Test.YteiaobeklahifaaBase
namespace Go.Proofs.Yteiaobeklahifaa
open Go.RowKit
theorem row_new' (w : World) (vs : List Value) (t : TypeId) (B : Nat) (hB : w.heap.size = B) : RowAt (w.alloc (.cells vs.toArray t)) (some ⟨B, 0, none⟩) vs := fun i u hi => ⟨B, 0, rfl, by
  subst hB
  rw [Nat.zero_add]
  exact (World.cell?_alloc_new w _ _ i).trans (by simpa using hi)⟩
end Go.Proofs.Yteiaobeklahifaa
