/- One substitution behind another: what it is. -/
import Derived.Test.YtjaccgkeldabfaaGreatSFirsts
import Derived.Test.YtjaccgkeldabfaaGreatSThen
namespace Go.Proofs.YtjaccgkeldabfaaGreat.S
open Go.RowKit

theorem rises_eq : ∀ {a b : List (Int × List Int)}, Rises a → Rises b → a.Perm b → a = b
  | [], b, _, _, h => h.nil_eq
  | p :: a, [], _, _, h => absurd h.eq_nil (by simp)
  | p :: a, q :: b, ha, hb, h => by
    have ha' := List.pairwise_cons.1 ha
    have hb' := List.pairwise_cons.1 hb
    have hpq : p = q := by
      have h1 : p ∈ q :: b := h.mem_iff.1 (by simp)
      have h2 : q ∈ p :: a := h.mem_iff.2 (by simp)
      rcases List.mem_cons.1 h1 with e | h3
      · exact e
      · rcases List.mem_cons.1 h2 with e | h4
        · exact e.symm
        · have := ha'.1 q h4
          have := hb'.1 p h3
          omega
    subst hpq
    rw [rises_eq ha'.2 hb'.2 h.cons_inv]
theorem look_nil (x : Int) : look [] x = none := rfl
theorem subs_nil (e : List Int) : subs [] e = e := by
  unfold subs
  have : sub [] = fun x => [x] := funext fun x => rfl
  rw [this]
  induction e with
  | nil => rfl
  | cons x e ih => rw [List.flatMap_cons, ih]; rfl
theorem subs_one (bl : List (Int × List Int)) (x : Int) : subs bl [x] = sub bl x := by simp [subs]
theorem widen_none (bl : List (Int × List Int)) : widen bl [] = bl := by simp [widen, alone]
theorem none_widen (bl : List (Int × List Int)) : widen [] bl = bl.map fun p => (p.1, [p.1]) := by
  unfold widen alone
  rw [List.nil_append]
  congr 1
  exact List.filter_eq_self.2 fun p _ => rfl
theorem behind_none (bl : List (Int × List Int)) : (widen bl []).map (behind []) = bl := by
  rw [widen_none]
  have : behind [] = id := funext fun p => by unfold behind; rw [subs_nil]; rfl
  rw [this, List.map_id]
theorem none_behind {bl : List (Int × List Int)} (h : (bl.map (·.1)).Nodup) : (widen [] bl).map (behind bl) = bl := by
  rw [none_widen, List.map_map]
  conv => rhs; rw [← List.map_id bl]
  apply List.map_congr_left
  intro p hp
  show (p.1, subs bl [p.1]) = p
  rw [subs_one, show sub bl p.1 = p.2 by unfold sub; rw [look_of_mem h hp]; rfl]
theorem look_mem_of {bl : List (Int × List Int)} {x : Int} {l : List Int} (h : look bl x = some l) : (x, l) ∈ bl := by
  unfold look at h
  obtain ⟨p, hp, rfl⟩ := Option.map_eq_some_iff.1 h
  have h1 := List.find?_some hp
  have h2 := List.mem_of_find?_eq_some hp
  have : p.1 = x := by simpa using h1
  rw [← this]
  exact h2
theorem behind_nodup {l : List (Int × List Int)} (bt : List (Int × List Int)) (h : (l.map (·.1)).Nodup) : ((l.map (behind bt)).map (·.1)).Nodup := by
  rw [List.map_map]
  exact h
/-- All at once is one behind the other. -/
theorem sub_behind {ul bl bt : List (Int × List Int)} (h : ul.Perm ((widen bl bt).map (behind bt))) (hl : (bl.map (·.1)).Nodup) (ht : (bt.map (·.1)).Nodup) (x : Int) : sub ul x = subs bt (sub bl x) := by
  have hw := behind_nodup bt (widen_nodup hl ht)
  have hlk := look_perm h hw x
  cases hx : look bl x with
  | some l =>
    have h1 : (x, subs bt l) ∈ (widen bl bt).map (behind bt) := List.mem_map.2 ⟨(x, l), List.mem_append_left _ (look_mem_of hx), rfl⟩
    have h2 := look_of_mem hw h1
    unfold sub
    rw [hlk, h2, hx]; rfl
  | none =>
    have e1 : sub bl x = [x] := by unfold sub; rw [hx]; rfl
    rw [e1]
    cases hy : look bt x with
    | some l =>
      have h1 : (x, subs bt [x]) ∈ (widen bl bt).map (behind bt) := List.mem_map.2 ⟨(x, [x]), List.mem_append_right _ (List.mem_map.2 ⟨(x, l), List.mem_filter.2 ⟨look_mem_of hy, by simp [hx]⟩, rfl⟩), rfl⟩
      have h2 := look_of_mem hw h1
      unfold sub
      rw [hlk, h2]; rfl
    | none =>
      have h1 : look ((widen bl bt).map (behind bt)) x = none := look_out fun p hp e => by
        obtain ⟨q, hq, rfl⟩ := List.mem_map.1 hp
        have e' : q.1 = x := e
        rcases List.mem_append.1 hq with h3 | h3
        · exact look_some_of h3 (by rw [e']; exact hx)
        · obtain ⟨r, hr, rfl⟩ := List.mem_map.1 h3
          have e2 : r.1 = x := e'
          exact look_some_of (List.mem_filter.1 hr).1 (by rw [e2]; exact hy)
      rw [subs_one]
      unfold sub
      rw [hlk, h1, hy]
theorem subs_behind {ul bl bt : List (Int × List Int)} (h : ul.Perm ((widen bl bt).map (behind bt))) (hl : (bl.map (·.1)).Nodup) (ht : (bt.map (·.1)).Nodup) (e : List Int) : subs ul e = subs bt (subs bl e) := by
  unfold subs
  rw [List.flatMap_assoc]
  congr 1
  funext x
  exact sub_behind h hl ht x
end Go.Proofs.YtjaccgkeldabfaaGreat.S
