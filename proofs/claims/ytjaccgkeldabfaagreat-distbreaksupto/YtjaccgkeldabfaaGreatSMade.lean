/- What made answers: the first bind of each variable, and their substitution. -/
import Derived.Test.YtjaccgkeldabfaaGreatSAlive
namespace Go.Proofs.YtjaccgkeldabfaaGreat.S
open Go.RowKit

def stepF (acc : List (Int × List Int)) (p : Int × List Int) : List (Int × List Int) := if p.1 ∈ acc.map (·.1) then acc else acc ++ [p]
/-- The first bind of each variable. -/
def firsts (bl : List (Int × List Int)) : List (Int × List Int) := bl.foldl stepF []
theorem firsts_take {bl : List (Int × List Int)} {j : Nat} {p : Int × List Int} (hp : bl[j]? = some p) : firsts (bl.take (j + 1)) = stepF (firsts (bl.take j)) p := by
  unfold firsts
  rw [List.take_add_one, hp, Option.toList_some, List.foldl_append]; rfl
theorem firsts_nodup (bl : List (Int × List Int)) : ((firsts bl).map (·.1)).Nodup := by
  have key : ∀ (l acc : List (Int × List Int)), (acc.map (·.1)).Nodup → ((l.foldl stepF acc).map (·.1)).Nodup := by
    intro l
    induction l with
    | nil => intro acc h; exact h
    | cons p l ih =>
      intro acc h
      rw [List.foldl_cons]
      apply ih
      unfold stepF
      split
      · exact h
      · rename_i hne
        rw [List.map_append, List.nodup_append]
        exact ⟨h, by simp, fun a ha b hb e => by simp at hb; subst hb; subst e; exact hne ha⟩
  exact key bl [] (by simp)
theorem firsts_mem {bl : List (Int × List Int)} : ∀ p ∈ firsts bl, p ∈ bl := by
  have key : ∀ (l acc : List (Int × List Int)), ∀ p ∈ l.foldl stepF acc, p ∈ acc ∨ p ∈ l := by
    intro l
    induction l with
    | nil => intro acc p h; exact .inl h
    | cons q l ih =>
      intro acc p h
      rw [List.foldl_cons] at h
      rcases ih _ p h with h1 | h1
      · unfold stepF at h1
        split at h1
        · exact .inl h1
        · rcases List.mem_append.1 h1 with h2 | h2
          · exact .inl h2
          · simp at h2; subst h2; simp
      · exact .inr (List.mem_cons_of_mem _ h1)
  intro p hp
  rcases key bl [] p hp with h | h
  · simp at h
  · exact h
theorem Matches.snoc {w : World} {vs : List (Int × Value)} {bl : List (Int × List Int)} (h : Matches w vs bl) (p : Int × List Int) (a : Option Addr) (n c : Nat) (hn : p.2.length = n) (hI : IntsAt w a p.2) : Matches w (vs ++ [(p.1, Value.slice a n c)]) (bl ++ [p]) := by
  refine ⟨by simp [h.1], fun i q hi => ?_⟩
  by_cases hlt : i < bl.length
  · rw [List.getElem?_append_left hlt] at hi
    obtain ⟨a', c', h1, h2⟩ := h.2 i q hi
    exact ⟨a', c', by rw [List.getElem?_append_left (by rw [h.1]; exact hlt)]; exact h1, h2⟩
  · rw [List.getElem?_append_right (by omega)] at hi
    have hi0 : i - bl.length = 0 := by
      have := (List.getElem?_eq_some_iff.1 hi).1
      simp at this; omega
    rw [hi0] at hi
    simp at hi
    subst hi
    exact ⟨a, c, by rw [List.getElem?_append_right (by rw [h.1]; omega), h.1, hi0, hn]; rfl, hI⟩
def MadeIs (w w' : World) (e : Ending) (l : List (Int × List Int)) (k : Nat) : Prop := Below w.heap.size w w' ∧
  ∃ (a3 : Option Addr) (c3 : Nat) (vs3 : List (Int × Value)) (bl : List (Int × List Int)) (a5 : Option Addr) (c5 : Nat) (vs5 : List (Int × Value)),
    e = .returned (.tuple #[.agg #[.slice a5 k c5], .slice a3 k c3, .bool true]) ∧ RowAt w' a3 (rowB vs3) ∧ Matches w' vs3 l ∧ bl.Perm l ∧ Rises bl ∧ w'.ownsRow w.heap.size 46 2 (.slice a5 k c5) k (rowB vs5) ∧ Owns w.heap.size w' vs5 bl

end Go.Proofs.YtjaccgkeldabfaaGreat.S
