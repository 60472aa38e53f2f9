/- Rows that are laid new. -/
import Derived.Test.YtjaccgkeldabfaaGreatReads
import Derived.Test.YtjaccgkeldabfaaGreatOnly
namespace Go.Proofs.YtjaccgkeldabfaaGreat
open Go.RowKit

theorem own_len {W : World} {base : Nat} {e : TypeId} {size : Nat} {v : Value} {n : Nat} {xs : List Value} (h : W.ownsRow base e size v n xs) : n ≤ 9223372036854775807 := by
  rcases h.2 with ⟨_, h0⟩ | ⟨g, cap, cur, _, _, _, h4, h5, _⟩
  · omega
  · unfold maxLen at h5; omega
theorem ints_new (w : World) (l : List Int) : IntsAt (w.alloc (.cells (l.map intV).toArray 3)) (some ⟨w.heap.size, 0, none⟩) l := fun i x hi => ⟨w.heap.size, 0, rfl, by
  rw [Nat.zero_add, World.cell?_alloc_new w _ _ i]
  simp [intV, hi]⟩
theorem pairs_new (w : World) (l : List Pr) : PairsAt (w.alloc (.cells (rowP l).toArray 33)) (some ⟨w.heap.size, 0, none⟩) l := row_pairs fun i u hi => ⟨w.heap.size, 0, rfl, by
  rw [Nat.zero_add, World.cell?_alloc_new w _ _ i]
  simpa using hi⟩
end Go.Proofs.YtjaccgkeldabfaaGreat
