/- What happens within a scope (pure). -/
import Derived.Test.YtdnkgjjboonmnaaDoorSymRows
namespace Go.Proofs.YtdnkgjjboonmnaaDoor
open Go.RowKit

/-- Behind T0 the scopes X have been opened, and T is what it is now. -/
structure Within (T0 T : Tab) (X : List (List Nat)) : Prop where
  scopes : T.scopes = T0.scopes ++ X
  act : ∀ n, n ∈ T.act ↔ n ∈ T0.act ∨ ∃ l ∈ X, n ∈ l
  far : ∀ l ∈ X, ∀ n ∈ l, n ∉ T0.act
  disj : X.Pairwise (fun a b => ∀ n ∈ a, n ∉ b)
  syms : ∃ Y, T.syms = T0.syms ++ Y
theorem within_start (T0 : Tab) (h : T0.scopes.length < 16) : Within T0 (openR T0).2 [[]] := by
  unfold openR
  rw [if_neg (by omega)]
  exact ⟨rfl, fun n => by simp, by simp, by simp, [], by simp⟩
theorem within_open {T0 T : Tab} {X : List (List Nat)} (h : Within T0 T X) (hX : X ≠ []) : ∃ X', X' ≠ [] ∧ Within T0 (openR T).2 X' := by
  unfold openR
  split
  · exact ⟨X, hX, h⟩
  · refine ⟨X ++ [[]], by simp, ⟨by show T.scopes ++ [[]] = _; rw [h.scopes, List.append_assoc], fun n => ?_, fun l hl n hn => ?_, ?_, h.syms⟩⟩
    · rw [show (n ∈ T.act) ↔ _ from h.act n]
      simp only [List.mem_append, List.mem_cons, List.not_mem_nil, or_false]
      constructor
      · rintro (h1 | ⟨l, h1, h2⟩)
        · exact .inl h1
        · exact .inr ⟨l, .inl h1, h2⟩
      · rintro (h1 | ⟨l, h1 | h1, h2⟩)
        · exact .inl h1
        · exact .inr ⟨l, h1, h2⟩
        · subst h1; simp at h2
    · rcases List.mem_append.1 hl with hl | hl
      · exact h.far l hl n hn
      · simp at hl; subst hl; simp at hn
    · refine List.pairwise_append.2 ⟨h.disj, by simp, fun a _ b hb n _ => ?_⟩
      simp at hb; subst hb; simp
theorem within_last {T0 T : Tab} {X : List (List Nat)} {l : List Nat} (h : Within T0 T (X ++ [l])) : T.scopes.getD (T.scopes.length - 1) [] = l ∧ T.scopes.take (T.scopes.length - 1) = T0.scopes ++ X ∧ ∀ y, T.scopes.set (T.scopes.length - 1) y = T0.scopes ++ (X ++ [y]) := by
  have e : T.scopes = (T0.scopes ++ X) ++ [l] := by rw [h.scopes, List.append_assoc]
  have hl : T.scopes.length - 1 = (T0.scopes ++ X).length := by rw [e]; simp
  refine ⟨?_, ?_, fun y => ?_⟩
  · rw [hl, e, List.getD, List.getElem?_append_right (Nat.le_refl _)]; simp
  · rw [hl, e, List.take_left' rfl]
  · rw [hl, e, List.set_append_right _ _ (Nat.le_refl _)]; simp
theorem within_close {T0 T : Tab} {X : List (List Nat)} {l : List Nat} (h : Within T0 T (X ++ [l])) : Within T0 (closeT T) X := by
  obtain ⟨h1, h2, _⟩ := within_last h
  have hp := List.pairwise_append.1 h.disj
  refine ⟨h2, fun n => ?_, fun y hy => h.far y (List.mem_append_left _ hy), hp.1, h.syms⟩
  show n ∈ T.act.filter (fun n => decide (n ∉ T.scopes.getD (T.scopes.length - 1) [])) ↔ _
  rw [h1, List.mem_filter, h.act n]
  simp only [decide_eq_true_eq]
  constructor
  · rintro ⟨h3 | ⟨y, hy, hn⟩, h4⟩
    · exact .inl h3
    · rcases List.mem_append.1 hy with hy | hy
      · exact .inr ⟨y, hy, hn⟩
      · simp at hy; subst hy; exact absurd hn h4
  · rintro (h3 | ⟨y, hy, hn⟩)
    · exact ⟨.inl h3, fun hm => h.far l (by simp) n hm h3⟩
    · exact ⟨.inr ⟨y, List.mem_append_left _ hy, hn⟩, hp.2.2 y hy l (by simp) n hn⟩
theorem within_act {T0 T : Tab} {X : List (List Nat)} {l : List Nat} {n : Nat} (h : Within T0 T (X ++ [l])) (hn : n ∉ T.act) : Within T0 (actT T n) (X ++ [l ++ [n]]) := by
  obtain ⟨h1, _, h3⟩ := within_last h
  have hn' := fun hh => hn ((h.act n).2 hh)
  have hp := List.pairwise_append.1 h.disj
  refine ⟨?_, fun m => ?_, fun y hy m hm => ?_, List.pairwise_append.2 ⟨hp.1, by simp, fun a ha b hb m hm => ?_⟩, h.syms⟩
  · show T.scopes.set _ (T.scopes.getD (T.scopes.length - 1) [] ++ [n]) = _
    rw [h1, h3]
  · show m ∈ n :: T.act ↔ _
    rw [List.mem_cons, h.act m]
    constructor
    · rintro (rfl | h4 | ⟨y, hy, hm⟩)
      · exact .inr ⟨l ++ [m], by simp, by simp⟩
      · exact .inl h4
      · rcases List.mem_append.1 hy with hy | hy
        · exact .inr ⟨y, List.mem_append_left _ hy, hm⟩
        · simp at hy; subst hy; exact .inr ⟨y ++ [n], by simp, by simp [hm]⟩
    · rintro (h4 | ⟨y, hy, hm⟩)
      · exact .inr (.inl h4)
      · rcases List.mem_append.1 hy with hy | hy
        · exact .inr (.inr ⟨y, List.mem_append_left _ hy, hm⟩)
        · simp at hy; subst hy
          rcases List.mem_append.1 hm with hm | hm
          · exact .inr (.inr ⟨l, by simp, hm⟩)
          · simp at hm; exact .inl hm
  · rcases List.mem_append.1 hy with hy | hy
    · exact h.far y (List.mem_append_left _ hy) m hm
    · simp at hy; subst hy
      rcases List.mem_append.1 hm with hm | hm
      · exact h.far l (by simp) m hm
      · simp at hm; subst hm; exact fun h4 => hn' (.inl h4)
  · simp at hb; subst hb
    intro hm2
    rcases List.mem_append.1 hm2 with hm2 | hm2
    · exact hp.2.2 a ha l (by simp) m hm hm2
    · simp at hm2; subst hm2
      exact hn' (.inr ⟨a, List.mem_append_left _ ha, hm⟩)
theorem within_add {T0 T : Tab} {X : List (List Nat)} (s : ByteArray) (v : Bool) (h : Within T0 T X) : Within T0 (addT T s v) X := by
  obtain ⟨Y, hY⟩ := h.syms
  exact ⟨h.scopes, h.act, h.far, h.disj, Y ++ [(s, v)], by show T.syms ++ _ = _; rw [hY, List.append_assoc]⟩
theorem split_last {X : List (List Nat)} (h : X ≠ []) : ∃ Z l, X = Z ++ [l] := ⟨X.dropLast, X.getLast h, (List.dropLast_concat_getLast h).symm⟩
theorem within_var {T0 T : Tab} {k : Nat} {X : List (List Nat)} (s : ByteArray) (hT : T.Ok k) (h : Within T0 T X) (hX : X ≠ []) : ∃ X', X' ≠ [] ∧ Within T0 (varR T s).2.2 X' := by
  obtain ⟨Z, l, rfl⟩ := split_last hX
  rcases var_cases T s with ⟨e, _, h1⟩ | ⟨_, _, _, h1⟩ | ⟨n, b, _, hn, h1⟩
  · rw [h1]; exact ⟨_, hX, h⟩
  · rw [h1]
    exact ⟨_, by simp, within_act (within_add s true h) (fun hm => by have := hT.acts _ hm; omega)⟩
  · rw [h1]
    exact ⟨_, by simp, within_act h hn⟩
theorem within_label {T0 T : Tab} {X : List (List Nat)} (s : ByteArray) (h : Within T0 T X) : Within T0 (labelR T s).2 X := by
  unfold labelR
  split
  · exact h
  · split
    · exact h
    · split
      · exact h
      · exact ⟨h.scopes, h.act, h.far, h.disj, h.syms⟩
theorem within_do {T0 T : Tab} {k : Nat} {X : List (List Nat)} (kind : Int) (s : ByteArray) (hT : T.Ok k) (h : Within T0 T X) (hX : X ≠ []) (h3 : kind ≠ 3) (h2 : kind = 2 → X.length ≠ 1) : ∃ X', X' ≠ [] ∧ Within T0 (doT T kind s) X' := by
  unfold doT
  rw [if_neg h3]
  split
  · exact within_open h hX
  · split
    · rename_i hk
      obtain ⟨Z, l, rfl⟩ := split_last hX
      have hZ : Z ≠ [] := by
        rintro rfl
        exact h2 hk (by simp)
      unfold closeR
      rw [if_neg (by rw [h.scopes]; simp)]
      exact ⟨Z, hZ, within_close h⟩
    · split
      · exact within_var s hT h hX
      · split
        · exact ⟨X, hX, within_label s h⟩
        · exact ⟨X, hX, h⟩
theorem within_depth {T0 T : Tab} {X : List (List Nat)} (h : Within T0 T X) : T.scopes.length = T0.scopes.length + X.length := by rw [h.scopes, List.length_append]
theorem within_const {T0 T : Tab} {X : List (List Nat)} (s : ByteArray) (h : Within T0 T X) (hX : X ≠ []) : constR T s = (0, 23, T) := by
  unfold constR
  rw [if_pos]
  have := within_depth h
  have := List.length_pos_iff.2 hX
  omega
theorem within_end {T0 T : Tab} {k n : Nat} (h : Within T0 T []) (hT : T0.Ok k) : decide (n ∈ T.act) = (decide (n < T0.syms.length) && decide (n ∈ T0.act)) := by
  have := h.act n
  simp only [List.not_mem_nil, false_and, exists_false, or_false] at this
  by_cases hm : n ∈ T0.act
  · rw [decide_eq_true (this.2 hm), decide_eq_true (hT.acts n hm), decide_eq_true hm]; rfl
  · rw [decide_eq_false (fun h => hm (this.1 h)), decide_eq_false hm, Bool.and_false]
end Go.Proofs.YtdnkgjjboonmnaaDoor
