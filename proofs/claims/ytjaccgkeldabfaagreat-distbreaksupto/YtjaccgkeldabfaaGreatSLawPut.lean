/- What the laws' own put answers: an expression, symbol by symbol. -/
import Derived.Test.YtjaccgkeldabfaaGreatSSize
namespace Go.Proofs.YtjaccgkeldabfaaGreat.S
open Go.RowKit

theorem look_take {bl : List (Int × List Int)} (hnd : (bl.map (·.1)).Nodup) {k : Nat} {p : Int × List Int} (hp : bl[k]? = some p) (y : Int) : look (bl.take (k + 1)) y = if p.1 = y then some p.2 else look (bl.take k) y := by
  unfold look
  rw [List.take_add_one, hp, Option.toList_some, List.find?_append]
  by_cases h : p.1 = y
  · rw [if_pos h]
    have hn : (bl.take k).find? (fun q => q.1 == y) = none := by
      rw [List.find?_eq_none]
      intro q hq
      obtain ⟨j, hj⟩ := List.getElem?_of_mem hq
      rw [List.getElem?_take] at hj
      split at hj
      · rename_i hlt
        obtain ⟨g1, e1⟩ := List.getElem?_eq_some_iff.1 hj
        obtain ⟨g2, e2⟩ := List.getElem?_eq_some_iff.1 hp
        have := List.pairwise_iff_getElem.1 hnd j k (by simpa using g1) (by simpa using g2) hlt
        simp only [List.getElem_map, e1, e2] at this
        simp
        intro e
        exact this (e.trans h.symm)
      · cases hj
    rw [hn]
    simp [h]
  · rw [if_neg h]
    have : [p].find? (fun q => q.1 == y) = none := by simp [h]
    rw [this, Option.or_none]
/-- What it answers. -/
def PutIs (w w' : World) (e : Ending) (bl : List (Int × List Int)) (l : List Int) : Prop := Below w.heap.size w w' ∧
  (((subs bl l).length ≤ 200 ∧ ∃ v, e = .returned (.tuple #[v, .bool true]) ∧ w'.ownsRow w.heap.size 3 1 v (subs bl l).length ((subs bl l).map intV)) ∨ (200 < (subs bl l).length ∧ e = .returned (.tuple #[.slice none 0 0, .bool false])))

end Go.Proofs.YtjaccgkeldabfaaGreat.S
