/- Brackets of comments in a word: said without the program. -/
import Derived.Test.YtndjcppfkcndgaaDoorWords
import Derived.Lib.IndexMore
namespace Go.Proofs.YtndjcppfkcndgaaDoor
open Lib

theorem occ_two (l : List UInt8) (a b : UInt8) (i : Nat) : occAt l [a, b] i = true ↔ l[i]? = some a ∧ l[i + 1]? = some b := by
  unfold occAt
  have e0 : (l.drop i)[0]? = l[i]? := by simp
  have e1 : (l.drop i)[1]? = l[i + 1]? := by simp
  rw [← e0, ← e1]
  generalize l.drop i = m
  cases m with
  | nil => simp
  | cons x m =>
    cases m with
    | nil => simp
    | cons y m =>
      simp only [List.isPrefixOf, Bool.and_true, Bool.and_eq_true, beq_iff_eq, List.getElem?_cons_zero, List.getElem?_cons_succ, Option.some.injEq]
      exact ⟨fun h => ⟨h.1.symm, h.2.symm⟩, fun h => ⟨h.1.symm, h.2.symm⟩⟩
theorem contains_two (l : List UInt8) (a b : UInt8) : contains l [a, b] = true ↔ ∃ i, l[i]? = some a ∧ l[i + 1]? = some b := by
  unfold contains
  rw [decide_eq_true_iff]
  constructor
  · intro h
    rcases index_spec l [a, b] with ⟨e, _⟩ | ⟨i, e, _, ho, _⟩
    · omega
    · exact ⟨i, (occ_two l a b i).1 ho⟩
  · rintro ⟨i, h1, h2⟩
    rcases index_spec l [a, b] with ⟨_, hn⟩ | ⟨i, e, _, ho, _⟩
    · have hi : i ≤ l.length := Nat.le_of_lt (List.getElem?_eq_some_iff.1 h1).1
      have := hn i hi
      rw [(occ_two l a b i).2 ⟨h1, h2⟩] at this; cases this
    · omega
theorem hasMark_iff (t : ByteArray) : hasMark t = true ↔ ∃ i, t.data.toList[i]? = some (36 : UInt8) ∧ (t.data.toList[i + 1]? = some (40 : UInt8) ∨ t.data.toList[i + 1]? = some (41 : UInt8)) := by
  unfold hasMark
  rw [Bool.or_eq_true, contains_two, contains_two]
  constructor
  · rintro (⟨i, h1, h2⟩ | ⟨i, h1, h2⟩)
    · exact ⟨i, h1, .inl h2⟩
    · exact ⟨i, h1, .inr h2⟩
  · rintro ⟨i, h1, h2 | h2⟩
    · exact .inl ⟨i, h1, h2⟩
    · exact .inr ⟨i, h1, h2⟩
end Go.Proofs.YtndjcppfkcndgaaDoor
