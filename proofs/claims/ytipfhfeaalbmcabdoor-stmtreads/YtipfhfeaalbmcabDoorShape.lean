/- What the statements of each kind look like; rows of plain words; labels, words, kinds: the program's and the document's. -/
import Derived.Test.YtipfhfeaalbmcabDoorPlain
namespace Go.Proofs.YtipfhfeaalbmcabDoor
open Go.RowKit

def shapeRow : List (List UInt8 × Bool × Int × Int) := [([], false, 0, 0), ([36, 99], false, 1, 9223372036854775807), ([36, 118], false, 1, 9223372036854775807), ([36, 102], true, 2, 2), ([36, 101], true, 1, 9223372036854775807), ([36, 100], false, 2, 32), ([36, 97], true, 1, 9223372036854775807), ([36, 112], true, 1, 9223372036854775807), ([36, 123], false, 0, 0), ([36, 125], false, 0, 0)]
def kwB (k : Nat) : ByteArray := ⟨(shapeRow.getD k ([], false, 0, 0)).1.toArray⟩
def labB (k : Nat) : Bool := (shapeRow.getD k ([], false, 0, 0)).2.1
def lstI (k : Nat) : Int := (shapeRow.getD k ([], false, 0, 0)).2.2.1
def mstI (k : Nat) : Int := (shapeRow.getD k ([], false, 0, 0)).2.2.2
/-- The table of the kinds, the second package variable. -/
def ShapesAt (w : World) : Prop := ∀ k, k < 10 → w.cell? ⟨0, k * 4, none⟩ = some (.string (kwB k)) ∧ w.cell? ⟨0, k * 4 + 1, none⟩ = some (.bool (labB k)) ∧ w.cell? ⟨0, k * 4 + 2, none⟩ = some (.int .i64 (lstI k)) ∧ w.cell? ⟨0, k * 4 + 3, none⟩ = some (.int .i64 (mstI k))
theorem ShapesAt.size {w : World} (h : ShapesAt w) : 0 < w.heap.size := World.block_lt_of_cell? _ _ (h 0 (by omega)).1
theorem ShapesAt.under {w w' : World} (h : ShapesAt w) (hb : Below w.heap.size w w') : ShapesAt w' := fun k hk => by
  obtain ⟨h0, h1, h2, h3⟩ := h k hk
  have hlt := h.size
  exact ⟨(hb.cell (p := ⟨0, _, none⟩) hlt).trans h0, (hb.cell (p := ⟨0, _, none⟩) hlt).trans h1, (hb.cell (p := ⟨0, _, none⟩) hlt).trans h2, (hb.cell (p := ⟨0, _, none⟩) hlt).trans h3⟩
def allPl (ts : List Tok) : Bool := ts.all fun t => plainB t.text
theorem allPl_step {ts : List Tok} {j : Nat} {t : Tok} (h : ts[j]? = some t) : allPl (ts.take (j + 1)) = (allPl (ts.take j) && plainB t.text) := by
  unfold allPl
  rw [List.take_add_one, h]
  simp
theorem allPl_miss {ts : List Tok} {j : Nat} {t : Tok} (h : ts[j]? = some t) (hp : plainB t.text = false) : allPl ts = false := by
  unfold allPl
  rw [List.all_eq_false]
  exact ⟨t, List.mem_of_getElem? h, by simp [hp]⟩

/-- May the words be those of a kind? -/
def wordsOk (l m : Int) (ts : List Tok) : Bool := decide (l ≤ (ts.length : Int)) && decide ((ts.length : Int) ≤ m) && allPl ts
end Go.Proofs.YtipfhfeaalbmcabDoor
