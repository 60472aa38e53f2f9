/- Laid together: KWords, KMark. -/
import Derived.Test.YtipfhfeaalbmcabDoorKScanA
import Derived.Lib.IndexMore
namespace Go.Proofs.YtipfhfeaalbmcabDoor.K

/-- What comes from the byte number i on, if no word is begun there. -/
def evAt (s : ByteArray) (i : Nat) : List (Tok × Int) := evs s (s.data.toList.drop i) i i (lineL (s.data.toList.take i)) (i + 1 - colL (s.data.toList.take i))
theorem evAt_zero (s : ByteArray) : evAt s 0 = events s := rfl
/-- The word between two numbers, with its place. -/
def tokAt (s : ByteArray) (i j : Nat) : Tok := ⟨s.extract i j, i, lineL (s.data.toList.take i), colL (s.data.toList.take i)⟩
def faultTokAt (s : ByteArray) (i : Nat) : Tok := ⟨⟨#[]⟩, i, lineL (s.data.toList.take i), colL (s.data.toList.take i)⟩

theorem col_bd (s : ByteArray) (i : Nat) : 1 ≤ colL (s.data.toList.take i) ∧ colL (s.data.toList.take i) ≤ i + 1 := col_take_le s i
theorem wordAt_tok (s : ByteArray) (i j : Nat) : wordAt s i j (lineL (s.data.toList.take i)) (i + 1 - colL (s.data.toList.take i)) = tokAt s i j := by
  have := col_bd s i
  unfold wordAt tokAt
  congr 1
  omega
theorem evAt_blank (s : ByteArray) (i : Nat) (h : i < s.size) (hc : codeAt i s[i] = 0) (hb : kindF s[i].toNat = 1) : evAt s i = evAt s (i + 1) := by
  have h0 := col_bd s i
  unfold evAt
  rw [ev_blank s i i _ _ h hc hb, if_neg (Nat.lt_irrefl i), List.nil_append]
  have e1 : (if s[i] = 10 then lineL (s.data.toList.take i) + 1 else lineL (s.data.toList.take i)) = lineL (s.data.toList.take (i + 1)) := by
    rw [take_snoc s i h, lineL_snoc]; split <;> rfl
  have e2 : (if s[i] = 10 then i + 1 else i + 1 - colL (s.data.toList.take i)) = i + 1 + 1 - colL (s.data.toList.take (i + 1)) := by
    rw [take_snoc s i h, colL_snoc]
    by_cases e : s[i] = 10
    · rw [if_pos e, if_pos e]; rfl
    · rw [if_neg e, if_neg e]; omega
  rw [e1, e2]
theorem evAt_skip (s : ByteArray) (i L ls : Nat) : ∀ j, i ≤ j → j ≤ s.size → (∀ k (h : k < s.size), i ≤ k → k < j → codeAt k s[k] = 0 ∧ kindF s[k].toNat ≠ 1) → evs s (s.data.toList.drop i) i i L ls = evs s (s.data.toList.drop j) j i L ls := by
  intro j hij
  obtain ⟨d, rfl⟩ : ∃ d, j = i + d := ⟨j - i, by omega⟩
  clear hij
  induction d with
  | zero => intro _ _; rfl
  | succ d ih =>
    obtain ⟨j, hjd⟩ : ∃ j, j = i + d := ⟨_, rfl⟩
    rw [← hjd] at ih
    rw [show i + (d + 1) = j + 1 by omega]
    have hj : i ≤ j := by omega
    intro hs hw
    have hk := hw j (by omega) hj (Nat.lt_succ_self j)
    rw [ih (by omega) (fun k h h1 h2 => hw k h h1 (by omega)), ev_skip s j i L ls (by omega) hk.1 hk.2]
theorem place_word (s : ByteArray) (i : Nat) : ∀ j, i ≤ j → j ≤ s.size → (∀ k (h : k < s.size), i ≤ k → k < j → kindF s[k].toNat ≠ 1) → lineL (s.data.toList.take j) = lineL (s.data.toList.take i) ∧ j + 1 - colL (s.data.toList.take j) = i + 1 - colL (s.data.toList.take i) := by
  intro j hij
  obtain ⟨d, rfl⟩ : ∃ d, j = i + d := ⟨j - i, by omega⟩
  clear hij
  induction d with
  | zero => intro _ _; exact ⟨rfl, rfl⟩
  | succ d ih =>
    obtain ⟨j, hjd⟩ : ∃ j, j = i + d := ⟨_, rfl⟩
    rw [← hjd] at ih
    rw [show i + (d + 1) = j + 1 by omega]
    have hj : i ≤ j := by omega
    intro hs hw
    have hlt : j < s.size := by omega
    have hk := hw j hlt hj (Nat.lt_succ_self j)
    obtain ⟨h1, h2⟩ := ih (by omega) (fun k h h1 h2 => hw k h h1 (by omega))
    have hn : s[j] ≠ 10 := by intro e; rw [e] at hk; exact hk (by decide)
    have := col_bd s j
    rw [take_snoc s j hlt, lineL_snoc, colL_snoc, if_neg hn, if_neg hn]
    exact ⟨by omega, by omega⟩
/-- A word that is complete. -/
theorem evAt_word (s : ByteArray) (i j : Nat) (hij : i < j) (hj : j ≤ s.size) (hw : ∀ k (h : k < s.size), i ≤ k → k < j → codeAt k s[k] = 0 ∧ kindF s[k].toNat ≠ 1)
    (he : j = s.size ∨ ∃ h : j < s.size, codeAt j s[j] = 0 ∧ kindF s[j].toNat = 1) : evAt s i = (tokAt s i j, 0) :: evAt s j := by
  obtain ⟨p1, p2⟩ := place_word s i j (by omega) hj (fun k h h1 h2 => (hw k h h1 h2).2)
  rw [← wordAt_tok]
  unfold evAt
  rw [p1, p2, evAt_skip s i _ _ j (by omega) hj hw]
  rcases he with rfl | ⟨h, hc, hb⟩
  · rw [ev_end s s.size i _ _ (Nat.le_refl _), ev_end s s.size s.size _ _ (Nat.le_refl _), if_pos hij, if_neg (Nat.lt_irrefl _)]
  · rw [ev_blank s j i _ _ h hc hb, ev_blank s j j _ _ h hc hb, if_pos hij, if_neg (Nat.lt_irrefl _)]; rfl
/-- A word that breaks off at a fault. -/
theorem evAt_broken (s : ByteArray) (i j : Nat) (hij : i ≤ j) (hj : j < s.size) (hw : ∀ k (h : k < s.size), i ≤ k → k < j → codeAt k s[k] = 0 ∧ kindF s[k].toNat ≠ 1) (hc : codeAt j s[j] ≠ 0) : evAt s i = evAt s j := by
  obtain ⟨p1, p2⟩ := place_word s i j hij (by omega) (fun k h h1 h2 => (hw k h h1 h2).2)
  unfold evAt
  rw [p1, p2, evAt_skip s i _ _ j hij (by omega) hw, ev_fault s j i _ _ hj hc, ev_fault s j j _ _ hj hc]
theorem evAt_fault (s : ByteArray) (i : Nat) (h : i < s.size) (hc : codeAt i s[i] ≠ 0) : evAt s i = [(faultTokAt s i, codeAt i s[i])] := by
  have := col_bd s i
  unfold evAt faultTokAt
  rw [ev_fault s i i _ _ h hc]
  congr 3
  omega
theorem evAt_end (s : ByteArray) : evAt s s.size = [] := by
  unfold evAt
  rw [ev_end s s.size s.size _ _ (Nat.le_refl _), if_neg (Nat.lt_irrefl _)]

/-- The byte at which the going ends, and its error (0: the text's end). -/
def stopAt (s : ByteArray) (n : Nat) (c : Int) : Prop := (∀ k (h : k < s.size), k < n → codeAt k s[k] = 0) ∧ ((n = s.size ∧ c = 0) ∨ ∃ h : n < s.size, c = codeAt n s[n] ∧ c ≠ 0)

/-- What the words of a text make of the reader: one word behind the other. -/
theorem runF_words (r : Rd) (l : List Tok) (es : List (Tok × Int)) : runF r (l.map (fun t => (t, (0 : Int))) ++ es) = match runF r (l.map (fun t => (t, (0 : Int)))) with | (r', none) => runF r' es | (r', some f) => (r', some f) := runF_append r _ es
theorem runF_snoc (r : Rd) (l : List Tok) (t : Tok) (r' : Rd) (h : runF r (l.map (fun t => (t, (0 : Int)))) = (r', none)) : runF r ((l ++ [t]).map (fun t => (t, (0 : Int)))) = if (takeF r' t).1 = 0 then ((takeF r' t).2, none) else ((takeF r' t).2, some (t, (takeF r' t).1)) := by
  rw [List.map_append, runF_words, h]
  simp only [List.map_cons, List.map_nil, runF, if_true]
theorem runF_ends (r : Rd) (a b : List Tok) (r' : Rd) (f : Tok × Int) (h : runF r (a.map (fun t => (t, (0 : Int)))) = (r', some f)) (es : List (Tok × Int)) : runF r ((a ++ b).map (fun t => (t, (0 : Int))) ++ es) = (r', some f) := by
  rw [List.map_append, List.append_assoc, runF_words, h]
end Go.Proofs.YtipfhfeaalbmcabDoor.K

namespace Go.Proofs.YtipfhfeaalbmcabDoor.K
open Lib

theorem occ_two (l : List UInt8) (a b : UInt8) (i : Nat) : occAt l [a, b] i = true ↔ l[i]? = some a ∧ l[i + 1]? = some b := by
  unfold occAt
  have e0 : (l.drop i)[0]? = l[i]? := by simp
  have e1 : (l.drop i)[1]? = l[i + 1]? := by simp
  rw [← e0, ← e1]
  generalize l.drop i = m
  cases m with
  | nil => simp
  | cons x m =>
    cases m with
    | nil => simp
    | cons y m =>
      simp only [List.isPrefixOf, Bool.and_true, Bool.and_eq_true, beq_iff_eq, List.getElem?_cons_zero, List.getElem?_cons_succ, Option.some.injEq]
      exact ⟨fun h => ⟨h.1.symm, h.2.symm⟩, fun h => ⟨h.1.symm, h.2.symm⟩⟩
theorem contains_two (l : List UInt8) (a b : UInt8) : contains l [a, b] = true ↔ ∃ i, l[i]? = some a ∧ l[i + 1]? = some b := by
  unfold contains
  rw [decide_eq_true_iff]
  constructor
  · intro h
    rcases index_spec l [a, b] with ⟨e, _⟩ | ⟨i, e, _, ho, _⟩
    · omega
    · exact ⟨i, (occ_two l a b i).1 ho⟩
  · rintro ⟨i, h1, h2⟩
    rcases index_spec l [a, b] with ⟨_, hn⟩ | ⟨i, e, _, ho, _⟩
    · have hi : i ≤ l.length := Nat.le_of_lt (List.getElem?_eq_some_iff.1 h1).1
      have := hn i hi
      rw [(occ_two l a b i).2 ⟨h1, h2⟩] at this; cases this
    · omega
theorem hasMark_iff (t : ByteArray) : hasMark t = true ↔ ∃ i, t.data.toList[i]? = some (36 : UInt8) ∧ (t.data.toList[i + 1]? = some (40 : UInt8) ∨ t.data.toList[i + 1]? = some (41 : UInt8)) := by
  unfold hasMark
  rw [Bool.or_eq_true, contains_two, contains_two]
  constructor
  · rintro (⟨i, h1, h2⟩ | ⟨i, h1, h2⟩)
    · exact ⟨i, h1, .inl h2⟩
    · exact ⟨i, h1, .inr h2⟩
  · rintro ⟨i, h1, h2 | h2⟩
    · exact .inl ⟨i, h1, h2⟩
    · exact .inr ⟨i, h1, h2⟩
end Go.Proofs.YtipfhfeaalbmcabDoor.K
