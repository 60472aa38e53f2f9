/- The law's variable. -/
import Derived.Test.YtffchjigpppoaaaDoorCalls
namespace Go.Proofs.YtffchjigpppoaaaDoor
open Go.RowKit

def roomS : ByteArray := ⟨#[114, 111, 111, 109]⟩
def roomT : Tok := ⟨roomS, 0, 0, 0⟩
/-- What the law's variable holds. -/
def RoomAt (w : World) : Prop := w.cell? ⟨0, 0, none⟩ = some (.string roomS) ∧ w.cell? ⟨0, 1, none⟩ = some (.int .i64 0) ∧ w.cell? ⟨0, 2, none⟩ = some (.int .i64 0) ∧ w.cell? ⟨0, 3, none⟩ = some (.int .i64 0)
theorem RoomAt.under {w w' : World} (h : RoomAt w) (hb : Below w.heap.size w w') : RoomAt w' := by
  have hlt : 0 < w.heap.size := World.block_lt_of_cell? _ _ h.1
  exact ⟨(hb.cell (p := ⟨0, 0, none⟩) hlt).trans h.1, (hb.cell (p := ⟨0, 1, none⟩) hlt).trans h.2.1, (hb.cell (p := ⟨0, 2, none⟩) hlt).trans h.2.2.1, (hb.cell (p := ⟨0, 3, none⟩) hlt).trans h.2.2.2⟩
end Go.Proofs.YtffchjigpppoaaaDoor
