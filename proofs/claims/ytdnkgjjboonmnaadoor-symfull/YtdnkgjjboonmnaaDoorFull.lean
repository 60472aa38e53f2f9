/- A table that is filled up (pure). -/
import Derived.Test.YtdnkgjjboonmnaaDoorSymNum
namespace Go.Proofs.YtdnkgjjboonmnaaDoor
open Go.RowKit

theorem dg_range (n : Nat) : ∀ b ∈ dg n, 48 ≤ b.toNat ∧ b.toNat ≤ 57 := by
  induction n using Nat.strongRecOn with
  | ind n ih =>
    intro b hb
    have hd : ∀ m, m ≤ 9 → (digit m).toNat = 48 + m := fun m hm => by have := byte_int m hm; omega
    rw [dg] at hb
    split at hb
    · simp at hb; subst hb
      have := hd n (by omega); omega
    · rcases List.mem_append.1 hb with hb | hb
      · exact ih (n / 10) (by omega) b hb
      · simp at hb; subst hb
        have := hd (n % 10) (by omega); omega
def val (l : List UInt8) : Nat := l.foldl (fun a b => a * 10 + (b.toNat - 48)) 0
theorem val_dg (n : Nat) : val (dg n) = n := by
  induction n using Nat.strongRecOn with
  | ind n ih =>
    have hd : ∀ m, m ≤ 9 → (digit m).toNat = 48 + m := fun m hm => by have := byte_int m hm; omega
    rw [dg]
    split
    · have := hd n (by omega)
      simp [val, this]
    · have h1 := ih (n / 10) (by omega)
      have h2 := hd (n % 10) (by omega)
      unfold val at h1 ⊢
      rw [List.foldl_append, h1]
      simp [h2]
      omega
theorem dg_len (n : Nat) (h : n < 10000) : 1 ≤ (dg n).length ∧ (dg n).length ≤ 4 := by
  rw [dg]; split
  · simp
  · rw [dg]; split
    · simp
    · rw [dg]; split
      · simp
      · rw [dg]; split
        · simp
        · omega
theorem numB_list (n : Nat) : (numB n).data.toList = 110 :: dg n := rfl
theorem numB_inj {n m : Nat} (h : numB n = numB m) : n = m := by
  have h1 : (numB n).data.toList = (numB m).data.toList := by rw [h]
  rw [numB_list, numB_list] at h1
  have h2 : dg n = dg m := by simpa using h1
  rw [← val_dg n, h2, val_dg]
theorem numB_made (n : Nat) (h : n < 10000) (k : Int) (hk : k ≤ 4) : madeB (numB n) k = true := by
  have hl := dg_len n h
  have hsz : (numB n).size = 1 + (dg n).length := by
    show (numB n).data.size = _
    rw [← Array.length_toList, numB_list]; simp; omega
  unfold madeB
  rw [decide_eq_true (by omega), decide_eq_true (by omega), numB_list]
  simp only [Bool.true_and, List.all_cons, Bool.and_eq_true, decide_eq_true_eq, List.all_eq_true]
  refine ⟨?_, fun b hb => ?_⟩
  · have : (4 : Int) ≤ kindF ((110 : UInt8).toNat : Nat) := by decide
    omega
  · have := dg_range n b hb
    have h4 := (kind4 (b.toNat : Int) (by omega)).2 (by omega)
    omega
theorem numB_other (n : Nat) (s : ByteArray) (h : ∃ x y, s.data.toList = x :: y ∧ (x ≠ 110 ∨ ∃ b ∈ y, 57 < b.toNat)) : numB n ≠ s := by
  rintro rfl
  obtain ⟨x, y, h1, h2⟩ := h
  rw [numB_list] at h1
  cases h1
  rcases h2 with h2 | ⟨b, hb, h3⟩
  · exact h2 rfl
  · have := dg_range n b hb; omega
def newS : ByteArray := ⟨#[110, 101, 119]⟩
theorem num_c0 (n : Nat) : numB n ≠ c0 := numB_other n c0 ⟨99, [48], rfl, .inl (by decide)⟩
theorem num_v0 (n : Nat) : numB n ≠ v0 := numB_other n v0 ⟨118, [48], rfl, .inl (by decide)⟩
theorem num_new (n : Nat) : numB n ≠ newS := numB_other n newS ⟨110, [101, 119], rfl, .inr ⟨101, by simp, by decide⟩⟩

/-- The table's symbols behind n of them; V: the variables among them. -/
def symsF (V : Nat → Bool) (n : Nat) : List (ByteArray × Bool) := [(c0, false), (v0, true)] ++ (List.range n).map (fun i => (numB (i + 2), V (i + 2)))
theorem symsF_succ (V : Nat → Bool) (n : Nat) : symsF V (n + 1) = symsF V n ++ [(numB (n + 2), V (n + 2))] := by
  unfold symsF
  rw [List.range_succ, List.map_append, List.append_assoc]; rfl
theorem symsF_len (V : Nat → Bool) (n : Nat) : (symsF V n).length = n + 2 := by simp [symsF]
theorem symsF_get (V : Nat → Bool) (n i : Nat) (hi : i < n) : (symsF V n)[i + 2]? = some (numB (i + 2), V (i + 2)) := by
  unfold symsF
  rw [List.getElem?_append_right (by simp)]
  simp [hi]
theorem symsF_none (V : Nat → Bool) (n : Nat) (s : ByteArray) (h0 : c0 ≠ s) (h1 : v0 ≠ s) (h : ∀ i, i < n → numB (i + 2) ≠ s) : numOf (symsF V n) s = none := by
  unfold numOf
  rw [List.findIdx?_eq_none_iff]
  intro p hp
  unfold symsF at hp
  rcases List.mem_append.1 hp with hp | hp
  · simp at hp
    rcases hp with rfl | rfl
    · simpa using h0
    · simpa using h1
  · obtain ⟨i, hi, rfl⟩ := List.mem_map.1 hp
    simpa using h i (by simpa using hi)
theorem symsF_new (V : Nat → Bool) (n : Nat) : numOf (symsF V n) (numB (n + 2)) = none :=
  symsF_none V n _ (Ne.symm (num_c0 _)) (Ne.symm (num_v0 _)) fun i hi e => by have := numB_inj e; omega
/-- A table that is being filled: n symbols more than the first two. -/
structure Fill (V : Nat → Bool) (n : Nat) (T : Tab) : Prop where
  syms : T.syms = symsF V n
  act : ∀ i, i ∈ T.act ↔ i < n + 2 ∧ (i < 2 ∨ V i = false)
  scopes : T.scopes = []
  labels : T.labels = []
theorem fill_start (V : Nat → Bool) : Fill V 0 tab2 := ⟨rfl, fun i => by simp [tab2]; omega, rfl, rfl⟩
theorem fill_const {V : Nat → Bool} {n : Nat} {T : Tab} (h : Fill V n T) (hn : n + 2 < 512) (hv : V (n + 2) = false) : ∃ T', constR T (numB (n + 2)) = (n + 2, 0, T') ∧ Fill V (n + 1) T' := by
  have hl : T.syms.length = n + 2 := by rw [h.syms, symsF_len]
  refine ⟨actT (addT T (numB (n + 2)) false) (n + 2), ?_, ?_⟩
  · unfold constR
    rw [if_neg (by rw [h.scopes]; simp), if_neg (by rw [numB_made _ (by omega) 3 (by omega)]; decide), if_neg (by rw [h.syms, symsF_new]; simp)]
    unfold declR
    rw [if_neg (by omega), hl]
  · refine ⟨?_, fun i => ?_, ?_, h.labels⟩
    · show T.syms ++ [(numB (n + 2), false)] = _
      rw [symsF_succ, hv, h.syms]
    · show i ∈ (n + 2) :: T.act ↔ _
      rw [List.mem_cons, h.act i]
      constructor
      · rintro (rfl | ⟨h1, h2⟩)
        · exact ⟨by omega, .inr hv⟩
        · exact ⟨by omega, h2⟩
      · rintro ⟨h1, h2⟩
        by_cases e : i = n + 2
        · exact .inl e
        · exact .inr ⟨by omega, h2⟩
    · show T.scopes.set _ _ = []
      rw [h.scopes]; rfl
theorem fill_var {V : Nat → Bool} {n : Nat} {T : Tab} (h : Fill V n T) (hn : n + 2 < 512) (hv : V (n + 2) = true) :
    (openR T).1 = 0 ∧ ∃ T1, varR (openR T).2 (numB (n + 2)) = (n + 2, 0, T1) ∧ (closeR T1).1 = 0 ∧ Fill V (n + 1) (closeR T1).2 := by
  have hl : T.syms.length = n + 2 := by rw [h.syms, symsF_len]
  have ho : openR T = (0, { T with scopes := [[]] }) := by
    unfold openR
    rw [if_neg (by rw [h.scopes]; simp), h.scopes]; rfl
  rw [ho]
  refine ⟨rfl, actT (addT { T with scopes := [[]] } (numB (n + 2)) true) (n + 2), ?_, ?_⟩
  · unfold varR
    have hno : numOf T.syms (numB (n + 2)) = none := by rw [h.syms, symsF_new]
    rw [if_neg (by rw [numB_made _ (by omega) 3 (by omega)]; decide), if_neg (by unfold actOf; dsimp only; rw [hno]; simp)]
    dsimp only
    rw [hno]
    unfold declR
    dsimp only
    rw [if_neg (by omega), hl]
  · have hc : closeR (actT (addT { T with scopes := [[]] } (numB (n + 2)) true) (n + 2)) = (0, closeT (actT (addT { T with scopes := [[]] } (numB (n + 2)) true) (n + 2))) := by
      unfold closeR
      rw [if_neg (by simp [actT, addT])]
    rw [hc]
    refine ⟨rfl, ?_, fun i => ?_, rfl, h.labels⟩
    · show T.syms ++ [(numB (n + 2), true)] = _
      rw [symsF_succ, hv, h.syms]
    · show i ∈ ((n + 2) :: T.act).filter (fun m => decide (m ∉ [n + 2])) ↔ _
      rw [List.mem_filter, List.mem_cons, h.act i]
      simp only [List.mem_cons, List.not_mem_nil, or_false, decide_eq_true_eq]
      constructor
      · rintro ⟨rfl | ⟨h1, h2⟩, h3⟩
        · exact absurd rfl h3
        · exact ⟨by omega, h2⟩
      · rintro ⟨h1, h2⟩
        have hne : i ≠ n + 2 := by
          rintro rfl
          rcases h2 with h2 | h2
          · omega
          · rw [hv] at h2; cases h2
        exact ⟨.inr ⟨by omega, h2⟩, hne⟩
/-- A full table whose variables become active again. -/
structure Again (V : Nat → Bool) (n : Nat) (T : Tab) : Prop where
  syms : T.syms = symsF V 510
  act : ∀ i, i ∈ T.act ↔ i < 512 ∧ (i < 2 ∨ V i = false ∨ i < n + 2)
  scopes : T.scopes = []
  labels : T.labels = []
theorem again_start {V : Nat → Bool} {T : Tab} (h : Fill V 510 T) : Again V 0 T :=
  ⟨h.syms, fun i => by rw [h.act i]; constructor <;> (rintro ⟨h1, h2⟩; refine ⟨by omega, ?_⟩; rcases h2 with h2 | h2; exact .inl h2; first | exact .inr (.inl h2) | (rcases h2 with h2 | h2; exact .inr h2; exact .inl (by omega))), h.scopes, h.labels⟩
theorem again_step {V : Nat → Bool} {n : Nat} {T : Tab} (h : Again V n T) (hnd : (T.syms.map (·.1)).Nodup) (hn : n < 510) :
    (V (n + 2) = false → varR T (numB (n + 2)) = (0, 20, T) ∧ Again V (n + 1) T) ∧ (V (n + 2) = true → varR T (numB (n + 2)) = (n + 2, 0, actT T (n + 2)) ∧ Again V (n + 1) (actT T (n + 2))) := by
  have hp : T.syms[n + 2]? = some (numB (n + 2), V (n + 2)) := by rw [h.syms]; exact symsF_get V 510 n hn
  have hk := var_known hnd (numB_made (n + 2) (by omega) 3 (by omega)) hp
  dsimp only at hk
  refine ⟨fun hv => ?_, fun hv => ?_⟩
  · rw [hk, if_pos ((h.act (n + 2)).2 ⟨by omega, .inr (.inl hv)⟩)]
    refine ⟨rfl, h.syms, fun i => ?_, h.scopes, h.labels⟩
    rw [h.act i]
    constructor
    · rintro ⟨h1, h2 | h2 | h2⟩
      · exact ⟨h1, .inl h2⟩
      · exact ⟨h1, .inr (.inl h2)⟩
      · exact ⟨h1, .inr (.inr (by omega))⟩
    · rintro ⟨h1, h2 | h2 | h2⟩
      · exact ⟨h1, .inl h2⟩
      · exact ⟨h1, .inr (.inl h2)⟩
      · by_cases e : i = n + 2
        · subst e; exact ⟨h1, .inr (.inl hv)⟩
        · exact ⟨h1, .inr (.inr (by omega))⟩
  · rw [hk, if_neg (fun hm => by
      rcases (h.act (n + 2)).1 hm with ⟨_, h2 | h2 | h2⟩
      · omega
      · rw [hv] at h2; cases h2
      · omega)]
    refine ⟨rfl, h.syms, fun i => ?_, ?_, h.labels⟩
    · show i ∈ (n + 2) :: T.act ↔ _
      rw [List.mem_cons, h.act i]
      constructor
      · rintro (rfl | ⟨h1, h2 | h2 | h2⟩)
        · exact ⟨by omega, .inr (.inr (by omega))⟩
        · exact ⟨h1, .inl h2⟩
        · exact ⟨h1, .inr (.inl h2)⟩
        · exact ⟨h1, .inr (.inr (by omega))⟩
      · rintro ⟨h1, h2 | h2 | h2⟩
        · exact .inr ⟨h1, .inl h2⟩
        · exact .inr ⟨h1, .inr (.inl h2)⟩
        · by_cases e : i = n + 2
          · exact .inl e
          · exact .inr ⟨h1, .inr (.inr (by omega))⟩
    · show T.scopes.set _ _ = []
      rw [h.scopes]; rfl
/-- A full table that takes labels. -/
structure Labs (n : Nat) (T : Tab) : Prop where
  syms : T.syms.length = 512
  scopes : T.scopes = []
  labels : T.labels = (List.range n).map numB
theorem labs_start {V : Nat → Bool} {n : Nat} {T : Tab} (h : Again V n T) : Labs 0 T := ⟨by rw [h.syms, symsF_len], h.scopes, h.labels⟩
theorem lab_in {n r : Nat} (h : r < n) : (labOf ((List.range n).map numB) (numB r)).isSome = true := labOf_some (List.mem_map.2 ⟨r, by simpa using h, rfl⟩)
theorem lab_out {n : Nat} {s : ByteArray} (h : ∀ i, i < n → numB i ≠ s) : (labOf ((List.range n).map numB) s).isSome = false := labOf_none fun t ht => by
  obtain ⟨i, hi, rfl⟩ := List.mem_map.1 ht
  exact h i (by simpa using hi)
theorem labs_step {n : Nat} {T : Tab} (h : Labs n T) (hn : n < 1024) : labelR T (numB n) = (0, labT T (numB n)) ∧ Labs (n + 1) (labT T (numB n)) := by
  refine ⟨?_, h.syms, h.scopes, ?_⟩
  · unfold labelR
    rw [if_neg (by rw [numB_made n (by omega) 4 (by omega)]; decide), if_neg (by rw [h.labels, lab_out (fun i hi e => by have := numB_inj e; omega)]; decide), if_neg (by rw [h.labels]; simp; omega)]
  · show T.labels ++ [numB n] = _
    rw [h.labels, List.range_succ, List.map_append]; rfl
theorem labs_new {T : Tab} (h : Labs 1024 T) : labelR T newS = (22, T) := by
  unfold labelR
  rw [if_neg (by decide), if_neg (by rw [h.labels, lab_out (fun i _ => num_new i)]; decide), if_pos (by rw [h.labels]; simp)]
theorem labs_old {T : Tab} {r : Nat} (h : Labs 1024 T) (hr : r < 1024) : labelR T (numB r) = (20, T) := by
  unfold labelR
  rw [if_neg (by rw [numB_made r (by omega) 4 (by omega)]; decide), if_pos (by rw [h.labels]; exact lab_in hr)]
theorem labs_bad {T : Tab} : labelR T ⟨#[]⟩ = (21, T) := by
  unfold labelR
  rw [if_pos (by decide)]
/-- What a full table answers. -/
theorem fill_full {V : Nat → Bool} {T : Tab} (h : Fill V 510 T) : constR T newS = (0, 22, T) ∧ varR T newS = (0, 22, T) ∧ varR T ⟨#[36]⟩ = (0, 21, T) ∧ constR T v0 = (0, 20, T) ∧ T.syms.length = 512 := by
  have hl : T.syms.length = 512 := by rw [h.syms, symsF_len]
  have hno : numOf T.syms newS = none := by rw [h.syms]; exact symsF_none V 510 _ (by decide) (by decide) fun i _ => num_new _
  refine ⟨?_, ?_, ?_, ?_, hl⟩
  · unfold constR
    rw [if_neg (by rw [h.scopes]; simp), if_neg (by decide), if_neg (by rw [hno]; simp)]
    unfold declR; rw [if_pos (by omega)]
  · unfold varR
    rw [if_neg (by decide), if_neg (by unfold actOf; rw [hno]; simp), hno]
    unfold declR; dsimp only; rw [if_pos (by omega)]
  · unfold varR
    rw [if_pos (by decide)]
  · have : (numOf T.syms v0).isSome = true := by
      rw [h.syms]
      unfold numOf symsF
      simp
    unfold constR
    rw [if_neg (by rw [h.scopes]; simp), if_neg (by decide), if_pos this]
end Go.Proofs.YtdnkgjjboonmnaaDoor
