/- The document's own table: what one more act does to what is open and to what is active (pure). -/
import Derived.Test.YtdnkgjjboonmnabDoorRefN
namespace Go.Proofs.YtdnkgjjboonmnabDoor.R

theorem open_snoc (x : Int) : ∀ (l : List Int) (d : Int), openF d (l ++ [x]) = (openF d l && decide (¬ stepD (l.foldl stepD d) x < 0))
  | [], d => by
    show (if stepD d x < 0 then false else true) = (true && decide (¬ stepD d x < 0))
    by_cases h : stepD d x < 0
    · rw [if_pos h, Bool.true_and, eq_comm, decide_eq_false_iff_not]; exact fun k => k h
    · rw [if_neg h, Bool.true_and, eq_comm, decide_eq_true_eq]; exact h
  | a :: l, d => by
    simp only [List.cons_append, openF, List.foldl_cons]
    by_cases h : stepD d a < 0
    · rw [if_pos h, if_pos h]; rfl
    · rw [if_neg h, if_neg h]; exact open_snoc x l _
/-- The act i is the last that made n active, and its scope stands open. -/
def Live (A : List Int) (n : Int) (i : Nat) : Prop := A[i]? = some n ∧ (∀ j, i < j → A[j]? ≠ some n) ∧ openF 0 (A.drop (i + 1)) = true
theorem last_live (A : List Int) (n : Int) : ∀ k, (∀ j, k ≤ j → A[j]? ≠ some n) → (lastF A n k = true ↔ ∃ i, Live A n i)
  | 0, h => by
    simp only [lastF]
    constructor
    · intro e; cases e
    · rintro ⟨i, h1, _⟩; exact absurd h1 (h i (Nat.zero_le _))
  | k + 1, h => by
    rw [lastF]
    by_cases hk : A[k]? = some n
    · rw [if_pos hk]
      constructor
      · intro e; exact ⟨k, hk, fun j hj => h j hj, e⟩
      · rintro ⟨i, h1, h2, h3⟩
        have : i = k := by
          rcases Nat.lt_trichotomy i k with hlt | he | hgt
          · exact absurd hk (h2 k hlt)
          · exact he
          · exact absurd h1 (h i hgt)
        subst this
        exact h3
    · rw [if_neg hk]
      exact last_live A n k fun j hj => by
        by_cases e : j = k
        · subst e; exact hk
        · exact h j (by omega)
theorem last_all (A : List Int) (n : Int) : lastF A n A.length = true ↔ ∃ i, Live A n i := last_live A n A.length fun j hj => by rw [List.getElem?_eq_none hj]; simp
/-- One more act: what was live stays so if its scope stays open; the act itself is live. -/
theorem live_snoc {A : List Int} {x n : Int} {i : Nat} (hi : i < A.length) : Live (A ++ [x]) n i ↔ Live A n i ∧ x ≠ n ∧ ¬ stepD (depF (A.drop (i + 1))) x < 0 := by
  have hd : (A ++ [x]).drop (i + 1) = A.drop (i + 1) ++ [x] := by rw [List.drop_append_of_le_length (by omega)]
  unfold Live
  rw [hd, open_snoc, Bool.and_eq_true, decide_eq_true_eq, List.getElem?_append_left hi]
  constructor
  · rintro ⟨h1, h2, h3, h4⟩
    refine ⟨⟨h1, fun j hj => ?_, h3⟩, ?_, h4⟩
    · have := h2 j hj
      by_cases hl : j < A.length
      · rwa [List.getElem?_append_left hl] at this
      · rw [List.getElem?_eq_none (by omega)]; simp
    · have := h2 A.length hi
      rw [List.getElem?_append_right (Nat.le_refl _), Nat.sub_self] at this
      intro e
      exact this (by simp [e])
  · rintro ⟨⟨h1, h2, h3⟩, hx, h4⟩
    refine ⟨h1, fun j hj => ?_, h3, h4⟩
    by_cases hl : j < A.length
    · rw [List.getElem?_append_left hl]; exact h2 j hj
    · by_cases e : j = A.length
      · subst e
        rw [List.getElem?_append_right (Nat.le_refl _), Nat.sub_self]
        simp
        exact hx
      · rw [List.getElem?_eq_none (by simp; omega)]; simp
theorem live_last (A : List Int) (x : Int) : Live (A ++ [x]) x A.length := by
  refine ⟨by rw [List.getElem?_append_right (Nat.le_refl _), Nat.sub_self]; rfl, fun j hj => by rw [List.getElem?_eq_none (by simp; omega)]; simp, ?_⟩
  rw [List.drop_of_length_le (by simp)]
  rfl
theorem live_lt {A : List Int} {n : Int} {i : Nat} (h : Live A n i) : i < A.length := (List.getElem?_eq_some_iff.1 h.1).1
theorem drop_dep {A : List Int} {x : Int} {i : Nat} (hi : i < A.length) : depF ((A ++ [x]).drop (i + 1)) = stepD (depF (A.drop (i + 1))) x := by
  rw [List.drop_append_of_le_length (by omega), dep_snoc]

/-- The program's table T and what happened, A, say the same. -/
structure Inv (T : Tab) (A : List Int) : Prop where
  dep : depF A = (T.scopes.length : Int)
  live : ∀ (n : Nat) (p : ByteArray × Bool), T.syms[n]? = some p → p.2 = true → (n ∈ T.act ↔ ∃ i, Live A n i)
  sees : ∀ (n : Nat) (i : Nat), Live A n i → n < T.syms.length
  place : ∀ (n : Nat) (i : Nat), Live A n i → ∀ (j : Nat) (l : List Nat), T.scopes[j]? = some l → (n ∈ l ↔ (j : Int) + 1 + depF (A.drop (i + 1)) = T.scopes.length)
  inner : ∀ l ∈ T.scopes, ∀ n ∈ l, ∃ i, Live A n i
theorem open_pos : ∀ (l : List Int) (d : Int), 0 ≤ d → openF d l = true → 0 ≤ l.foldl stepD d
  | [], _, hd, _ => hd
  | a :: l, d, _, h => by
    rw [openF] at h
    by_cases k : stepD d a < 0
    · rw [if_pos k] at h; cases h
    · rw [if_neg k] at h
      exact open_pos l _ (by omega) h
theorem live_pos {A : List Int} {n : Int} {i : Nat} (h : Live A n i) : 0 ≤ depF (A.drop (i + 1)) := open_pos _ 0 (by omega) h.2.2
theorem live_up {A : List Int} {x : Int} {n i : Nat} (hx : x ≠ (n : Int)) (hl : Live (A ++ [x]) n i) : Live A n i ∧ ¬ stepD (depF (A.drop (i + 1))) x < 0 := by
  have hi := live_lt hl
  simp only [List.length_append, List.length_cons, List.length_nil] at hi
  by_cases e : i = A.length
  · have h1 := hl.1
    rw [e, List.getElem?_append_right (Nat.le_refl _), Nat.sub_self] at h1
    simp at h1
    exact absurd h1 hx
  · have := (live_snoc (by omega)).1 hl
    exact ⟨this.1, this.2.2⟩
theorem live_dn {A : List Int} {x : Int} {n i : Nat} (hl : Live A n i) (hx : x ≠ (n : Int)) (hd : ¬ stepD (depF (A.drop (i + 1))) x < 0) : Live (A ++ [x]) n i := (live_snoc (live_lt hl)).2 ⟨hl, hx, hd⟩
theorem inv_open {T : Tab} {A : List Int} (h : Inv T A) : Inv { T with scopes := T.scopes ++ [[]] } (A ++ [-1]) := by
  have s1 : ∀ d, stepD d (-1) = d + 1 := fun _ => rfl
  have up : ∀ (n i : Nat), Live (A ++ [-1]) n i → Live A n i := fun n i hl => (live_up (by omega) hl).1
  have dn : ∀ (n i : Nat), Live A n i → Live (A ++ [-1]) n i := fun n i hl => live_dn hl (by omega) (by rw [s1]; have := live_pos hl; omega)
  refine ⟨?_, fun n p hp hv => (h.live n p hp hv).trans ⟨fun ⟨i, hl⟩ => ⟨i, dn n i hl⟩, fun ⟨i, hl⟩ => ⟨i, up n i hl⟩⟩, fun n i hl => h.sees n i (up n i hl), fun n i hl j l hj => ?_, fun l hl n hn => ?_⟩
  · rw [dep_snoc, s1, h.dep]; simp
  · have hl' := up n i hl
    have hp := live_pos hl'
    rw [drop_dep (live_lt hl'), s1]
    have hj' : (T.scopes ++ [[]])[j]? = some l := hj
    show n ∈ l ↔ _ = ((T.scopes ++ [[]]).length : Int)
    simp only [List.length_append, List.length_cons, List.length_nil]
    by_cases hlt : j < T.scopes.length
    · rw [List.getElem?_append_left hlt] at hj'
      rw [h.place n i hl' j l hj']
      omega
    · have hjl : j = T.scopes.length := by
        have := (List.getElem?_eq_some_iff.1 hj').1
        simp at this; omega
      subst hjl
      rw [List.getElem?_append_right (Nat.le_refl _), Nat.sub_self] at hj'
      simp at hj'
      subst hj'
      simp
      omega
  · rcases List.mem_append.1 hl with hl | hl
    · obtain ⟨i, hi⟩ := h.inner l hl n hn
      exact ⟨i, dn n i hi⟩
    · simp at hl; subst hl; simp at hn
theorem inv_close {T : Tab} {A : List Int} (h : Inv T A) (h0 : T.scopes.length ≠ 0) : Inv (closeT T) (A ++ [-2]) := by
  have s2 : ∀ d, stepD d (-2) = d - 1 := fun _ => rfl
  have up : ∀ (n i : Nat), Live (A ++ [-2]) n i → Live A n i ∧ 1 ≤ depF (A.drop (i + 1)) := fun n i hl => by
    have := live_up (by omega) hl
    rw [s2] at this
    exact ⟨this.1, by omega⟩
  have dn : ∀ (n i : Nat), Live A n i → 1 ≤ depF (A.drop (i + 1)) → Live (A ++ [-2]) n i := fun n i hl hd => live_dn hl (by omega) (by rw [s2]; omega)
  obtain ⟨q, hq⟩ : ∃ q, T.scopes[T.scopes.length - 1]? = some q := ⟨T.scopes[T.scopes.length - 1]'(by omega), List.getElem?_eq_getElem _⟩
  have hgd : T.scopes.getD (T.scopes.length - 1) [] = q := by rw [List.getD, hq]; rfl
  have hin : ∀ (n i : Nat), Live A n i → (n ∈ q ↔ depF (A.drop (i + 1)) = 0) := fun n i hl => by
    rw [h.place n i hl _ q hq]
    omega
  refine ⟨?_, fun n p hp hv => ?_, fun n i hl => h.sees n i (up n i hl).1, fun n i hl j l hj => ?_, fun l hl n hn => ?_⟩
  · rw [dep_snoc, s2, h.dep]; simp [closeT]; omega
  · show n ∈ T.act.filter _ ↔ _
    rw [List.mem_filter, decide_eq_true_eq, hgd, h.live n p hp hv]
    constructor
    · rintro ⟨⟨i, hl⟩, hnq⟩
      have := live_pos hl
      rw [hin n i hl] at hnq
      exact ⟨i, dn n i hl (by omega)⟩
    · rintro ⟨i, hl⟩
      obtain ⟨h1, h2⟩ := up n i hl
      exact ⟨⟨i, h1⟩, by rw [hin n i h1]; omega⟩
  · obtain ⟨h1, h2⟩ := up n i hl
    have hj' : (T.scopes.take (T.scopes.length - 1))[j]? = some l := hj
    have hjl := (List.getElem?_eq_some_iff.1 hj').1
    rw [List.length_take] at hjl
    rw [List.getElem?_take, if_pos (by omega)] at hj'
    rw [h.place n i h1 j l hj', drop_dep (live_lt h1), s2]
    show _ ↔ _ = ((T.scopes.take (T.scopes.length - 1)).length : Int)
    rw [List.length_take]
    omega
  · have hl' : l ∈ T.scopes.take (T.scopes.length - 1) := hl
    obtain ⟨j, hj⟩ := List.getElem?_of_mem hl'
    have hjl := (List.getElem?_eq_some_iff.1 hj).1
    rw [List.length_take] at hjl
    rw [List.getElem?_take, if_pos (by omega)] at hj
    obtain ⟨i, hi⟩ := h.inner l (List.mem_of_getElem? hj) n hn
    have := (h.place n i hi j l hj).1 hn
    exact ⟨i, dn n i hi (by omega)⟩
theorem inv_add {T : Tab} {A : List Int} (h : Inv T A) (s : ByteArray) (v : Bool) (hact : ∀ n ∈ T.act, n < T.syms.length) : Inv (addT T s v) A := by
  refine ⟨h.dep, fun n p hp hv => ?_, fun n i hl => ?_, h.place, h.inner⟩
  · have hp' : (T.syms ++ [(s, v)])[n]? = some p := hp
    by_cases hlt : n < T.syms.length
    · rw [List.getElem?_append_left hlt] at hp'
      exact h.live n p hp' hv
    · constructor
      · intro hm; exact absurd (hact n hm) hlt
      · rintro ⟨i, hl⟩; exact absurd (h.sees n i hl) hlt
  · have := h.sees n i hl
    show n < (T.syms ++ [(s, v)]).length
    simp; omega
theorem inv_const {T : Tab} {A : List Int} (h : Inv T A) (n : Nat) (hc : ∀ p, T.syms[n]? = some p → p.2 = false) (h0 : T.scopes = []) : Inv (actT T n) A := by
  have hs : (actT T n).scopes = [] := by
    show T.scopes.set _ _ = []
    rw [h0]; rfl
  refine ⟨by rw [hs, h.dep, h0], fun m p hp hv => ?_, h.sees, fun m i hl j l hj => by rw [hs] at hj; simp at hj, fun l hl => by rw [hs] at hl; simp at hl⟩
  have hp' : T.syms[m]? = some p := hp
  rw [← h.live m p hp' hv]
  show m ∈ n :: T.act ↔ _
  rw [List.mem_cons]
  constructor
  · rintro (rfl | hm)
    · have := hc p hp'
      rw [hv] at this
      cases this
    · exact hm
  · exact .inr
theorem inv_act {T : Tab} {A : List Int} (h : Inv T A) (n : Nat) (p : ByteArray × Bool) (hp : T.syms[n]? = some p) (hv : p.2 = true) (hna : n ∉ T.act) : Inv (actT T n) (A ++ [(n : Int)]) := by
  have s3 : ∀ d, stepD d (n : Int) = d := fun d => by unfold stepD; rw [if_neg (by omega), if_neg (by omega)]
  have hnl : ∀ i, ¬ Live A n i := fun i hl => hna ((h.live n p hp hv).2 ⟨i, hl⟩)
  have up : ∀ (m i : Nat), m ≠ n → Live (A ++ [(n : Int)]) m i → Live A m i := fun m i hm hl => (live_up (by omega) hl).1
  have dn : ∀ (m i : Nat), m ≠ n → Live A m i → Live (A ++ [(n : Int)]) m i := fun m i hm hl => live_dn hl (by omega) (by rw [s3]; have := live_pos hl; omega)
  have at_ : ∀ i, Live (A ++ [(n : Int)]) n i → i = A.length := fun i hl => by
    have hi := live_lt hl
    simp only [List.length_append, List.length_cons, List.length_nil] at hi
    by_cases e : i = A.length
    · exact e
    · exact absurd ((live_snoc (by omega)).1 hl).1 (hnl i)
  have hsl : (actT T n).scopes.length = T.scopes.length := by simp [actT]
  have hout : ∀ l ∈ T.scopes, n ∉ l := fun l hl hn => by
    obtain ⟨i, hi⟩ := h.inner l hl n hn
    exact hnl i hi
  have hset : ∀ (j : Nat) (l : List Nat), (actT T n).scopes[j]? = some l → ∃ l0, T.scopes[j]? = some l0 ∧ ((j + 1 ≠ T.scopes.length ∧ l = l0) ∨ (j + 1 = T.scopes.length ∧ l = l0 ++ [n])) := fun j l hj => by
    have hj' : (T.scopes.set (T.scopes.length - 1) (T.scopes.getD (T.scopes.length - 1) [] ++ [n]))[j]? = some l := hj
    have hjl := (List.getElem?_eq_some_iff.1 hj').1
    rw [List.length_set] at hjl
    rw [List.getElem?_set] at hj'
    by_cases e : T.scopes.length - 1 = j
    · rw [if_pos e, if_pos (by omega)] at hj'
      refine ⟨T.scopes.getD (T.scopes.length - 1) [], ?_, .inr ⟨by omega, (Option.some.inj hj').symm⟩⟩
      rw [List.getD, ← e, List.getElem?_eq_getElem (by omega)]; rfl
    · rw [if_neg e] at hj'
      exact ⟨l, hj', .inl ⟨by omega, rfl⟩⟩
  refine ⟨?_, fun m p' hp' hv' => ?_, fun m i hl => ?_, fun m i hl j l hj => ?_, fun l hl m hm => ?_⟩
  · rw [dep_snoc, s3, h.dep, hsl]
  · show m ∈ n :: T.act ↔ _
    rw [List.mem_cons, h.live m p' hp' hv']
    by_cases e : m = n
    · subst e
      exact ⟨fun _ => ⟨_, live_last A _⟩, fun _ => .inl rfl⟩
    · constructor
      · rintro (e' | ⟨i, hl⟩)
        · exact absurd e' e
        · exact ⟨i, dn m i e hl⟩
      · rintro ⟨i, hl⟩; exact .inr ⟨i, up m i e hl⟩
  · by_cases e : m = n
    · subst e; exact (List.getElem?_eq_some_iff.1 hp).1
    · exact h.sees m i (up m i e hl)
  · obtain ⟨l0, hl0, hc⟩ := hset j l hj
    rw [hsl]
    by_cases e : m = n
    · subst e
      have hi := at_ i hl
      subst hi
      have hd : depF ((A ++ [(m : Int)]).drop (A.length + 1)) = 0 := by rw [List.drop_of_length_le (by simp)]; rfl
      rw [hd]
      rcases hc with ⟨h1, rfl⟩ | ⟨h1, rfl⟩
      · exact ⟨fun hm => absurd hm (hout _ (List.mem_of_getElem? hl0)), fun h2 => by omega⟩
      · exact ⟨fun _ => by omega, fun _ => by simp⟩
    · have hl' := up m i e hl
      rw [drop_dep (live_lt hl'), s3, ← h.place m i hl' j l0 hl0]
      rcases hc with ⟨_, rfl⟩ | ⟨_, rfl⟩
      · exact Iff.rfl
      · simp [e]
  · obtain ⟨j, hj⟩ := List.getElem?_of_mem hl
    obtain ⟨l0, hl0, hc⟩ := hset j l hj
    by_cases e : m = n
    · subst e; exact ⟨_, live_last A _⟩
    · have hm0 : m ∈ l0 := by
        rcases hc with ⟨_, rfl⟩ | ⟨_, rfl⟩
        · exact hm
        · rcases List.mem_append.1 hm with h1 | h1
          · exact h1
          · simp at h1; exact absurd h1 e
      obtain ⟨i, hi⟩ := h.inner l0 (List.mem_of_getElem? hl0) m hm0
      exact ⟨i, dn m i e hi⟩
/-- Both say the same of what is active. -/
theorem inv_active {T : Tab} {A : List Int} (h : Inv T A) (hgood : T.Good) (hnd : (T.syms.map (·.1)).Nodup) (n : Int) : rAct T.syms A n = activeOf T n := by
  unfold rAct activeOf symAt
  by_cases h0 : 0 ≤ n
  · rw [if_pos h0]
    obtain ⟨m, rfl⟩ : ∃ m : Nat, n = (m : Int) := ⟨n.toNat, by omega⟩
    rw [Int.toNat_natCast]
    cases hp : T.syms[m]? with
    | none => rfl
    | some p =>
      show (if p.2 = false then true else lastF A m A.length) = (actOf T p.1).isSome
      rw [act_at hnd hp]
      by_cases hv : p.2 = false
      · rw [if_pos hv, if_pos (hgood m p hp hv).1]; rfl
      · rw [if_neg hv]
        have hv' : p.2 = true := by simpa using hv
        have h1 := (h.live m p hp hv').trans (last_all A m).symm
        by_cases hm : m ∈ T.act
        · rw [if_pos hm, h1.1 hm]; rfl
        · rw [if_neg hm]
          cases hl : lastF A (m : Int) A.length with
          | true => exact absurd (h1.2 hl) hm
          | false => rfl
  · rw [if_neg h0]
end Go.Proofs.YtdnkgjjboonmnabDoor.R
