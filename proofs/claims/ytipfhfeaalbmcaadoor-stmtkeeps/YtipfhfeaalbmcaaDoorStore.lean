/- A struct stored into a box of its own: the whole block. -/
import Derived.Test.YtipfhfeaalbmcaaDoorMade
import Derived.Deep.RegionHeld3
import Derived.Deep.MidRow
namespace Go.Proofs.YtipfhfeaalbmcaaDoor
open Go.RowKit

theorem setCells_cons (W : World) (b o : Nat) (v : Value) (vs : List Value) : W.setCells b o (v :: vs) = (W.setCell ⟨b, o, none⟩ v).setCells b (o + 1) vs := rfl
theorem setCells_whole (b : Nat) (t : TypeId) : ∀ (new pre olds : List Value) (W : World), W.heap[b]? = some (.cells (pre ++ olds).toArray t (0, 0)) → olds.length = new.length → (W.setCells b pre.length new).heap[b]? = some (.cells (pre ++ new).toArray t (0, 0))
  | [], pre, olds, W, h, hl => by
    have : olds = [] := List.eq_nil_of_length_eq_zero hl
    subst this
    exact h
  | v :: new, pre, [], W, h, hl => by simp at hl
  | v :: new, pre, x :: xs, W, h, hl => by
    rw [setCells_cons]
    have h1 := M.heap_set_same (o := pre.length) (v := v) h
    have e : (pre ++ x :: xs).toArray.setIfInBounds pre.length v = ((pre ++ [v]) ++ xs).toArray := by simp
    rw [e] at h1
    have := setCells_whole b t new (pre ++ [v]) xs _ h1 (by simpa using hl)
    simpa using this
theorem setCells_other (b : Nat) : ∀ (new : List Value) (o : Nat) (W : World) (k : Nat), k ≠ b → (W.setCells b o new).heap[k]? = W.heap[k]?
  | [], _, _, _, _ => rfl
  | v :: new, o, W, k, h => by
    rw [setCells_cons, setCells_other b new (o + 1) _ k h]
    exact Below.heap_setCell W ⟨b, o, none⟩ v k h
theorem setCells_below {w : World} {N b : Nat} (hb : N ≤ b) : ∀ (new : List Value) (o : Nat) (W : World), Below N w W → Below N w (W.setCells b o new)
  | [], _, _, h => h
  | v :: new, o, W, h => by
    rw [setCells_cons]
    exact setCells_below hb new (o + 1) _ (h.setCell (p := ⟨b, o, none⟩) hb v)
theorem there_whole {W : World} {b : Nat} {t : TypeId} {cs : Array Value} (h : W.heap[b]? = some (.cells cs t (0, 0))) : W.there b 0 cs.size := fun j hj => by
  rw [Nat.zero_add]
  refine ⟨?_, ?_⟩
  · simp [World.cell?, h, hj]
  · simp [World.frozen?, h]
end Go.Proofs.YtipfhfeaalbmcaaDoor
