/- Names and numbers of the laws: that they may be written. -/
import Derived.Test.YtffchjigpppoaaaDoorFill
namespace Go.Proofs.YtffchjigpppoaaaDoor
open Go.RowKit

theorem nmByte_range (x k : Int) : 97 ≤ (nmByte x k).toNat ∧ (nmByte x k).toNat ≤ 122 := by
  have h0 : 0 ≤ IntKind.i64.wrap (x + k) % 26 := Int.emod_nonneg _ (by omega)
  have h1 : IntKind.i64.wrap (x + k) % 26 < 26 := Int.emod_lt_of_pos _ (by omega)
  unfold nmByte
  rw [u8_toNat _ (by omega)]
  omega
theorem nameB_bytes (x : Int) : (nameB x).data.toList = nmTo x (nmLen x) (nmLen x + 1) := by unfold nameB; simp [strB]
theorem nameB_range (x : Int) : ∀ c ∈ (nameB x).data.toList, 97 ≤ c.toNat ∧ c.toNat ≤ 122 := fun c hc => by
  rw [nameB_bytes] at hc
  unfold nmTo at hc
  obtain ⟨t, _, rfl⟩ := List.mem_map.1 hc
  exact nmByte_range _ _
theorem nameB_word (x : Int) : WordOk (nameB x) := by
  have h := nameB_size x
  have h2 := nmLen_lt x
  refine ⟨by omega, by omega, fun c hc => ?_⟩
  have hr := nameB_range x c hc
  constructor
  · intro e; subst e; simp at hr
  · intro e; subst e; simp at hr
theorem nameB_name (x : Int) : noName (nameB x) = false := by
  have h := nameB_size x
  have h2 := nmLen_lt x
  unfold noName
  rw [K.madeB_in _ 4 (by omega) (by omega), List.all_eq_true.2 fun c hc => ?_]
  · rfl
  · have hr := nameB_range x c hc
    rw [decide_eq_true_iff, K.kind4 _ (Int.natCast_nonneg _)]
    omega
theorem names_noName (l : List Int) : (l.map nameB).any noName = false := by
  rw [List.any_eq_false]
  intro x hx
  obtain ⟨y, _, rfl⟩ := List.mem_map.1 hx
  rw [nameB_name]
  exact Bool.false_ne_true
theorem names_noStep (l : List Int) : (l.map nameB).any noStep = false := by
  rw [List.any_eq_false]
  intro x hx
  obtain ⟨y, _, rfl⟩ := List.mem_map.1 hx
  unfold noStep
  rw [nameB_name, Bool.and_false]
  exact Bool.false_ne_true
theorem names_len (l : List Int) : ((l.map nameB).flatMap fun x => x.data.toList).length ≤ 32 * l.length := by
  induction l with
  | nil => simp
  | cons x l ih =>
    have h := nameB_size x
    have h2 := nmLen_lt x
    have h3 : (nameB x).data.toList.length = (nameB x).size := rfl
    rw [List.map_cons, List.flatMap_cons, List.length_append, List.length_cons]
    omega
theorem names_lenTo (l : List Int) (n : Nat) (h : l.length = n) : lenTo (l.map nameB) n ≤ 33 * n := by
  have h2 := names_len l
  unfold lenTo
  rw [List.take_of_length_le (by rw [List.length_map]; omega)]
  omega
theorem pack_words (l : List Int) : ∀ x ∈ packW (l.map nameB), WordOk x := fun x hx => by
  unfold packW at hx
  have h40 : WordOk ⟨#[40]⟩ := ⟨by decide, by decide, by decide⟩
  have h41 : WordOk ⟨#[41]⟩ := ⟨by decide, by decide, by decide⟩
  rcases List.mem_cons.1 hx with rfl | hx
  · exact h40
  · rcases List.mem_append.1 hx with hx | hx
    · obtain ⟨y, _, rfl⟩ := List.mem_map.1 hx
      exact nameB_word y
    · rw [List.mem_singleton.1 hx]
      exact h41
theorem names_words (l : List Int) : ∀ x ∈ l.map nameB, WordOk x := fun x hx => by
  obtain ⟨y, _, rfl⟩ := List.mem_map.1 hx
  exact nameB_word y
theorem numF_ok (x : Int) : wrOk (numF x) = true := by
  unfold wrOk numF lim
  split
  · have h0 : 0 ≤ x % 2 := Int.emod_nonneg _ (by omega)
    have h1 : x % 2 < 2 := Int.emod_lt_of_pos _ (by omega)
    simp only [Bool.or_eq_true, beq_iff_eq, Bool.and_eq_true, decide_eq_true_eq]
    omega
  · split
    · have h0 : 0 ≤ x % 1125899906842624 := Int.emod_nonneg _ (by omega)
      have h1 : x % 1125899906842624 < 1125899906842624 := Int.emod_lt_of_pos _ (by omega)
      simp only [Bool.or_eq_true, beq_iff_eq, Bool.and_eq_true, decide_eq_true_eq]
      omega
    · simp only [Bool.or_eq_true, beq_iff_eq, Bool.and_eq_true, decide_eq_true_eq]
      omega
theorem nums_ok (l : List Int) : prOk (l.map numF) = true := by
  unfold prOk
  rw [List.all_eq_true]
  intro x hx
  obtain ⟨y, _, rfl⟩ := List.mem_map.1 hx
  exact numF_ok y
theorem enc_range (n : Nat) : ∀ c ∈ enc n, 65 ≤ c.toNat ∧ c.toNat ≤ 89 := fun c hc => by
  unfold enc at hc
  rcases List.mem_append.1 hc with hc | hc
  · have := isD_range (ahead_all _ c hc)
    omega
  · rw [List.mem_singleton.1 hc, u8_toNat _ (by omega)]
    omega
theorem wrT_range (n : Int) : ∀ c ∈ wrT n, c ≠ 10 := fun c hc e => by
  subst e
  unfold wrT at hc
  split at hc
  · simp at hc
  · split at hc
    · simp at hc
    · have := enc_range _ _ hc
      simp at this
theorem prB_range (l : List Int) : ∀ c ∈ prB l, c ≠ 10 := fun c hc => by
  unfold prB at hc
  obtain ⟨x, _, hx⟩ := List.mem_flatMap.1 hc
  exact wrT_range x c hx
theorem wrT_pos (n : Int) : 0 < (wrT n).length := by
  unfold wrT
  split
  · decide
  · split
    · decide
    · unfold enc
      simp
theorem prB_pos0 (l : List Int) (h : 0 < l.length) : 0 < (prB l).length := by
  cases l with
  | nil => simp at h
  | cons x l =>
    have := wrT_pos x
    have e : prB (x :: l) = wrT x ++ prB l := rfl
    rw [e, List.length_append]
    omega
end Go.Proofs.YtffchjigpppoaaaDoor
