/- What a text reads as: said without the program. -/
import Derived.Test.YtipfhfeaalbmcaaDoorRTold
import Derived.Test.YtipfhfeaalbmcaaDoorKTok
import Derived.Test.YtipfhfeaalbmcaaDoorKPlaces
namespace Go.Proofs.YtipfhfeaalbmcaaDoor
open Go.RowKit

def toT (t : K.Tok) : Tok := ⟨t.text, t.off, t.line, t.col⟩
def wordsF (s : ByteArray) : List Tok := (K.scanF s).1.map toT
theorem rowOf_toT (l : List K.Tok) : K.rowOf l = rowT (l.map toT) := by
  unfold K.rowOf rowT
  rw [List.flatMap_map]
  rfl
def runT : PS → List Tok → PS × Option (Tok × Int)
  | P, [] => (P, none)
  | P, t :: ts => if (takeF P t).1 = 0 then runT (takeF P t).2 ts else ((takeF P t).2, some (t, (takeF P t).1))
def ps0 : PS := ⟨[], false, zTok⟩
def endTok (s : ByteArray) : Tok := ⟨⟨#[]⟩, s.size, K.lineL (s.data.toList.take s.size), K.colL (s.data.toList.take s.size)⟩
def readF (s : ByteArray) : PS × Option (Tok × Int) :=
  match runT ps0 (wordsF s) with
  | (P, some f) => (P, some f)
  | (P, none) => match (K.scanF s).2 with
    | some f => (P, some (toT f.1, f.2))
    | none => if (P.opn || wtB P.wt) = true then (P, some (endTok s, 63)) else (P, none)
theorem runT_snoc : ∀ (ts : List Tok) (P : PS) (t : Tok) (Q : PS), runT P ts = (Q, none) → runT P (ts ++ [t]) = if (takeF Q t).1 = 0 then ((takeF Q t).2, none) else ((takeF Q t).2, some (t, (takeF Q t).1))
  | [], P, t, Q, h => by
    cases h
    rfl
  | u :: ts, P, t, Q, h => by
    unfold runT at h
    rw [List.cons_append]
    unfold runT
    by_cases hc : (takeF P u).1 = 0
    · rw [if_pos hc] at h ⊢
      exact runT_snoc ts _ t Q h
    · rw [if_neg hc] at h
      cases h
theorem runT_stop : ∀ (ts us : List Tok) (P Q : PS) (f : Tok × Int), runT P ts = (Q, some f) → runT P (ts ++ us) = (Q, some f)
  | [], us, P, Q, f, h => by cases h
  | u :: ts, us, P, Q, f, h => by
    unfold runT at h
    rw [List.cons_append]
    unfold runT
    by_cases hc : (takeF P u).1 = 0
    · rw [if_pos hc] at h ⊢
      exact runT_stop ts us _ Q f h
    · rw [if_neg hc] at h ⊢
      exact h
/-- No list is longer than so many. -/
def SmallS (s : Stm) (j : Nat) : Prop := s.words.length ≤ j ∧ s.proof.length ≤ j
def SmallP (P : PS) (j : Nat) : Prop := P.l.length ≤ j ∧ ∀ s ∈ P.l, SmallS s j
theorem SmallS.up {s : Stm} {j : Nat} (h : SmallS s j) : SmallS s (j + 1) := ⟨Nat.le_succ_of_le h.1, Nat.le_succ_of_le h.2⟩
theorem addF_small {s : Stm} {t : Tok} {j : Nat} (h : SmallS s j) : SmallS (addF s t).2 (j + 1) := by
  unfold addF
  split
  · exact ⟨h.up.1, by simp; exact h.2⟩
  · split
    · exact h.up
    · exact ⟨by simp; exact h.1, h.up.2⟩
theorem begF_small {s : Stm} {j : Nat} (h : SmallS s j) : SmallS (begF s).2 (j + 1) := by
  unfold begF
  split
  · split
    · exact h.up
    · split
      · exact h.up
      · exact h.up
  · exact h.up
theorem endF_small {s : Stm} {t : Tok} {j : Nat} (h : SmallS s j) : SmallS (endF s t).2 (j + 1) := by
  unfold endF
  split
  · exact h.up
  · split
    · exact h.up
    · exact h.up
theorem withinF_small {s : Stm} {t : Tok} {j : Nat} (h : SmallS s j) : SmallS (withinF s t).2.1 (j + 1) := by
  unfold withinF
  split
  · exact addF_small h
  · split
    · exact begF_small h
    · split
      · exact endF_small h
      · exact h.up
theorem takeF_small {P : PS} {t : Tok} {j : Nat} (h : SmallP P j) : SmallP (takeF P t).2 (j + 1) := by
  have up : SmallP P (j + 1) := ⟨Nat.le_succ_of_le h.1, fun s hs => (h.2 s hs).up⟩
  unfold takeF
  split
  · cases hl : P.l.getLast? with
    | none => exact up
    | some s =>
      have hm : s ∈ P.l := List.mem_of_getLast? hl
      refine ⟨?_, fun u hu => ?_⟩
      · have h1 := h.1
        simp only [List.length_append, List.length_dropLast, List.length_singleton]
        omega
      · rcases List.mem_append.1 hu with hu | hu
        · exact up.2 u (List.dropLast_subset _ hu)
        · rw [List.mem_singleton.1 hu]
          exact withinF_small (h.2 s hm)
  · unfold betweenF
    split
    · split
      · exact up
      · exact up
    · split
      · exact up
      · split
        · exact up
        · refine ⟨by simp; exact h.1, fun u hu => ?_⟩
          rcases List.mem_append.1 hu with hu | hu
          · exact up.2 u hu
          · rw [List.mem_singleton.1 hu]
            unfold newS
            split <;> exact ⟨Nat.zero_le _, Nat.zero_le _⟩
theorem words_few (s : ByteArray) : (wordsF s).length ≤ 16384 := by
  unfold wordsF
  rw [List.length_map]
  exact K.scanF_few s
theorem words_size (s : ByteArray) : ∀ t ∈ wordsF s, t.text.size ≤ 65536 := fun t ht => by
  unfold wordsF at ht
  obtain ⟨u, hu, rfl⟩ := List.mem_map.1 ht
  obtain ⟨⟨q, hq⟩, _⟩ := K.scan_stands s
  obtain ⟨i, hi⟩ := List.getElem?_of_mem hu
  obtain ⟨n, m, hS, _⟩ := hq.at i u hi
  show u.text.size ≤ 65536
  rw [hS.text, ByteArray.size_extract]
  have := hS.le6
  omega
end Go.Proofs.YtipfhfeaalbmcaaDoor
