/- Slices each in a block of its own. -/
import Derived.Test.YteiaobeklahifaaBinds
namespace Go.Proofs.Yteiaobeklahifaa
open Go.RowKit

/-- No two of these slices lie in one block. -/
def Apart (vs : List Value) : Prop := vs.Pairwise fun u v => ∀ g, u.ownBlock = some g → v.ownBlock ≠ some g
theorem Apart.nil : Apart [] := List.Pairwise.nil
theorem apart_two {l m : List Value} (hl : Apart l) (hm : Apart m) (h : ∀ u ∈ l, ∀ v ∈ m, ∀ g, u.ownBlock = some g → v.ownBlock ≠ some g) : Apart (l ++ m) := List.pairwise_append.2 ⟨hl, hm, h⟩
theorem apart_low {l m : List Value} {B : Nat} (hl : Apart l) (hm : Apart m) (h1 : ∀ u ∈ l, ∀ g, u.ownBlock = some g → g < B) (h2 : ∀ u ∈ m, ∀ g, u.ownBlock = some g → B ≤ g) : Apart (l ++ m) := apart_two hl hm fun u hu v hv g e e' => by
  have := h1 u hu g e
  have := h2 v hv g e'
  omega
theorem apart_high {l m : List Value} {B : Nat} (hl : Apart l) (hm : Apart m) (h1 : ∀ u ∈ l, ∀ g, u.ownBlock = some g → B ≤ g) (h2 : ∀ u ∈ m, ∀ g, u.ownBlock = some g → g < B) : Apart (l ++ m) := apart_two hl hm fun u hu v hv g e e' => by
  have := h1 u hu g e
  have := h2 v hv g e'
  omega
theorem apart_one (v : Value) : Apart [v] := List.pairwise_singleton _ _
theorem apart_snoc {l : List Value} {v : Value} {B : Nat} (hl : Apart l) (h1 : ∀ u ∈ l, ∀ g, u.ownBlock = some g → g < B) (h2 : ∀ g, v.ownBlock = some g → B ≤ g) : Apart (l ++ [v]) := apart_low hl (apart_one v) h1 fun u hu => by
  rw [List.mem_singleton.1 hu]
  exact h2
theorem Owns.low {base : Nat} {w : World} {vs : List (Int × Value)} {bl : List (Int × List Int)} (h : Owns base w vs bl) : ∀ u ∈ vs.map (·.2), ∀ g, u.ownBlock = some g → base ≤ g ∧ g < w.heap.size := fun u hu g e => by
  obtain ⟨q, hq, rfl⟩ := List.mem_map.1 hu
  obtain ⟨i, hi⟩ := List.getElem?_of_mem hq
  have hlt : i < bl.length := by rw [← h.1]; exact (List.getElem?_eq_some_iff.1 hi).1
  obtain ⟨v, h1, h2⟩ := h.2 i _ (List.getElem?_eq_getElem hlt)
  rw [hi] at h1
  cases h1
  exact ⟨own_ge h2 g e, own_low h2 g e⟩
end Go.Proofs.Yteiaobeklahifaa
