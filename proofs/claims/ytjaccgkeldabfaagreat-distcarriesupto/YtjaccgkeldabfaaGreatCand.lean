/- The least pair above the last one (pure); a box of two cells written over. -/
import Derived.Test.YtjaccgkeldabfaaGreatRefP
namespace Go.Proofs.YtjaccgkeldabfaaGreat
open Go.RowKit

/-- The least pair so far above all that is told. -/
structure Cand (l out : List Pr) (fb : Bool) (m : Pr) : Prop where
  no : fb = false → ∀ p, inN l p → ¬ above out p
  yes : fb = true → inN l m ∧ above out m ∧ ∀ p, inN l p → above out p → p = m ∨ ltP m p
theorem cand_nil (out : List Pr) (m : Pr) : Cand [] out false m := ⟨fun _ p h => by obtain ⟨_, q, hq, _⟩ := h; simp at hq, fun h => by cases h⟩
theorem cand_skip {l out : List Pr} {fb : Bool} {m q : Pr} (h : Cand l out fb m) (hs : ¬ ((turnP q).1 < (turnP q).2 ∧ above out (turnP q))) : Cand (l ++ [q]) out fb m := by
  have key : ∀ p, inN (l ++ [q]) p → above out p → inN l p := fun p hp ha => by
    rcases inN_snoc.1 hp with h1 | ⟨h1, h2⟩
    · exact h1
    · subst h2; exact absurd ⟨h1, ha⟩ hs
  refine ⟨fun hf p hp ha => h.no hf p (key p hp ha) ha, fun hf => ?_⟩
  obtain ⟨h1, h2, h3⟩ := h.yes hf
  exact ⟨inN_snoc.2 (.inl h1), h2, fun p hp ha => h3 p (key p hp ha) ha⟩
theorem cand_take {l out : List Pr} {fb : Bool} {m q : Pr} (h : Cand l out fb m) (hlt : (turnP q).1 < (turnP q).2) (ha : above out (turnP q)) (hm : fb = false ∨ ltP (turnP q) m) : Cand (l ++ [q]) out true (turnP q) := by
  refine ⟨fun hf => (by cases hf), fun _ => ⟨inN_snoc.2 (.inr ⟨hlt, rfl⟩), ha, fun p hp hap => ?_⟩⟩
  rcases inN_snoc.1 hp with h1 | ⟨_, h2⟩
  · cases fb with
    | false => exact absurd hap (h.no rfl p h1)
    | true =>
      have hl := hm.resolve_left (by simp)
      rcases (h.yes rfl).2.2 p h1 hap with rfl | h4
      · exact .inr hl
      · exact .inr (ltP_trans hl h4)
  · exact .inl h2.symm
theorem cand_keep {l out : List Pr} {m q : Pr} (h : Cand l out true m) (hm : ¬ ltP (turnP q) m) : Cand (l ++ [q]) out true m := by
  refine ⟨fun hf => (by cases hf), fun _ => ?_⟩
  obtain ⟨h1, h2, h3⟩ := h.yes rfl
  refine ⟨inN_snoc.2 (.inl h1), h2, fun p hp ha => ?_⟩
  rcases inN_snoc.1 hp with h4 | ⟨_, h5⟩
  · exact h3 p h4 ha
  · subst h5
    by_cases e : turnP q = m
    · exact .inl e
    · exact .inr ((ltP_total e).resolve_left hm)
theorem cand_done {l out : List Pr} {m : Pr} (h : Part l out) (hc : Cand l out false m) : IsNorm l out := part_done h (hc.no rfl)
theorem cand_more {l out : List Pr} {m : Pr} (h : Part l out) (hc : Cand l out true m) : Part l (out ++ [m]) := by
  obtain ⟨h1, h2, h3⟩ := hc.yes rfl
  exact part_snoc h h1 h2 h3
theorem take_snoc {l : List Pr} {j : Nat} {q : Pr} (h : l[j]? = some q) : l.take (j + 1) = l.take j ++ [q] := by rw [List.take_add_one, h]; rfl
theorem turn_le (q : Pr) : (turnP q).1 ≤ (turnP q).2 := by unfold turnP; simp; omega
def sliceLen : Value → Nat
  | .slice _ n _ => n
  | _ => 0
theorem set2 {W : World} {B : Nat} {m0 m1 : Value} (t0 t1 : Value) (h : W.heap[B]? = some (.cells #[m0, m1] 33 (0, 0))) :
    ((W.setCell ⟨B, 0, none⟩ t0).setCell ⟨B, 1, none⟩ t1).heap[B]? = some (.cells #[t0, t1] 33 (0, 0)) ∧ Turn B W ((W.setCell ⟨B, 0, none⟩ t0).setCell ⟨B, 1, none⟩ t1) := by
  rw [Sort.setCell_eq, Sort.setCell_eq, Sort.mapBlock_mapBlock]
  unfold Sort.mapBlock
  refine ⟨?_, rfl, rfl, rfl, by simp, fun i hi hne => ?_⟩
  · simp only [Array.getElem?_modify, if_true, h]
    rfl
  · simp only [Array.getElem?_modify]
    rw [if_neg (fun e => hne e.symm)]
theorem set_frozen {W : World} {B : Nat} {m0 m1 : Value} (t0 : Value) (h : W.heap[B]? = some (.cells #[m0, m1] 33 (0, 0))) : (W.setCell ⟨B, 0, none⟩ t0).frozen? ⟨B, 1, none⟩ = false := by
  have h1 : (W.setCell ⟨B, 0, none⟩ t0).heap[B]? = some (.cells #[t0, m1] 33 (0, 0)) := by
    rw [Sort.setCell_eq]
    unfold Sort.mapBlock
    simp only [Array.getElem?_modify, if_true, h]
    rfl
  simp [World.frozen?, h1]
theorem owns_turn {W W' : World} {base B : Nat} {e : TypeId} {size : Nat} {v : Value} {n : Nat} {xs : List Value} (h : W.ownsRow base e size v n xs) (hg : ∀ g, v.ownBlock = some g → g < B) (ht : Turn B W W') : W'.ownsRow base e size v n xs := by
  refine ⟨h.1, ?_⟩
  rcases h.2 with h0 | ⟨g, cap, cur, h1, h2, h3, h4⟩
  · exact .inl h0
  · have := hg g (by rw [h1]; rfl)
    exact .inr ⟨g, cap, cur, h1, h2, (ht.block g (Array.getElem?_eq_some_iff.1 h3).1 (by omega)).trans h3, h4⟩
end Go.Proofs.YtjaccgkeldabfaaGreat
