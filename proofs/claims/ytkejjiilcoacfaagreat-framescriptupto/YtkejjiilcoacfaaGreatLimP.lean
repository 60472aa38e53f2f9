/- FrameLimits, the pure part: how many pairs. -/
import Derived.Test.YtkejjiilcoacfaaGreatFrY
namespace Go.Proofs.YtkejjiilcoacfaaGreat
open Go.RowKit

theorem front_cons (a : Int) (m : List Int) (i : Nat) : frontP (a :: m) (i + 1) = (m.map fun b => (a, b)) ++ frontP m i := by
  unfold frontP
  rw [List.range_succ_eq_map, List.flatMap_cons, List.flatMap_map]
  rfl
theorem allP_cons (a : Int) (m : List Int) : allP (a :: m) = (m.map fun b => (a, b)) ++ allP m := front_cons a m m.length
theorem allP_mem : ∀ {m : List Int}, m.Pairwise (· < ·) → ∀ p : Pr, p ∈ allP m ↔ p.1 ∈ m ∧ p.2 ∈ m ∧ p.1 < p.2
  | [], _, p => by simp [allP, frontP]
  | a :: m, h, (x, y) => by
    obtain ⟨h1, h2⟩ := List.pairwise_cons.1 h
    rw [allP_cons, List.mem_append, allP_mem h2]
    simp only [List.mem_map, Prod.mk.injEq, List.mem_cons]
    constructor
    · rintro (⟨b, hb, rfl, rfl⟩ | ⟨g1, g2, g3⟩)
      · exact ⟨.inl rfl, .inr hb, h1 b hb⟩
      · exact ⟨.inr g1, .inr g2, g3⟩
    · rintro ⟨rfl | g1, rfl | g2, g3⟩
      · omega
      · exact .inl ⟨y, g2, rfl, rfl⟩
      · have := h1 x g1; omega
      · exact .inr ⟨g1, g2, g3⟩
theorem allP_up : ∀ {m : List Int}, m.Pairwise (· < ·) → Up (allP m)
  | [], _ => List.Pairwise.nil
  | a :: m, h => by
    obtain ⟨h1, h2⟩ := List.pairwise_cons.1 h
    rw [allP_cons]
    refine List.pairwise_append.2 ⟨?_, allP_up h2, ?_⟩
    · rw [List.pairwise_map]
      exact h2.imp fun hab => .inr ⟨rfl, hab⟩
    · intro p hp q hq
      obtain ⟨b, hb, rfl⟩ := List.mem_map.1 hp
      have := ((allP_mem h2 q).1 hq).1
      exact .inl (h1 _ this)
/-- Half of k (k - 1). -/
def two (k : Nat) : Nat := k * (k - 1) / 2
theorem two_succ (k : Nat) : two (k + 1) = two k + k := by
  unfold two
  cases k with
  | zero => rfl
  | succ j =>
    rw [Nat.add_sub_cancel, Nat.add_sub_cancel]
    have e : (j + 1 + 1) * (j + 1) = (j + 1) * j + (j + 1) * 2 := by rw [← Nat.mul_add, Nat.mul_comm]
    rw [e]
    omega
/-- Numbers from s on. -/
def rangeL (s : Int) (k : Nat) : List Int := (List.range k).map fun i : Nat => s + (i : Int)
theorem rangeL_len (s : Int) (k : Nat) : (rangeL s k).length = k := by simp [rangeL]
theorem rangeL_snoc (s : Int) (k : Nat) : rangeL s (k + 1) = rangeL s k ++ [s + (k : Int)] := by simp [rangeL, List.range_succ]
theorem rangeL_mem {s x : Int} {k : Nat} : x ∈ rangeL s k ↔ s ≤ x ∧ x < s + (k : Int) := by
  unfold rangeL
  rw [List.mem_map]
  constructor
  · rintro ⟨i, hi, rfl⟩
    have := List.mem_range.1 hi
    omega
  · rintro ⟨h1, h2⟩
    exact ⟨(x - s).toNat, List.mem_range.2 (by omega), by omega⟩
theorem rangeL_up (s : Int) : ∀ k, (rangeL s k).Pairwise (· < ·)
  | 0 => List.Pairwise.nil
  | k + 1 => by
    rw [rangeL_snoc]
    refine List.pairwise_append.2 ⟨rangeL_up s k, by simp, fun x hx y hy => ?_⟩
    rw [List.mem_singleton.1 hy]
    exact (rangeL_mem.1 hx).2
theorem rangeL_isV {s : Int} {k : Nat} (hs : 100 ≤ s) : ∀ x ∈ rangeL s k, isV x = true := fun x hx => by
  have := rangeL_mem.1 hx
  unfold isV
  rw [decide_eq_true (show 100 ≤ x by omega)]
  rfl
theorem varsOf_range {s : Int} {k : Nat} (hs : 100 ≤ s) : varsOf (rangeL s k) = rangeL s k := (isVars_one ⟨rangeL_up s k, fun x => ⟨fun h => ⟨h, rangeL_isV hs x h⟩, fun h => h.1⟩, Nat.le_refl _⟩).symm
theorem any_range {s : Int} {k : Nat} (hs : 100 ≤ s) : ((rangeL s k).any fun v => !isV v) = false := by
  rw [List.any_eq_false]
  intro x hx
  rw [rangeL_isV hs x hx]
  decide
/-- How many pairs of a list stand not in another one: cut from the front. -/
theorem count_gen (F : Pp → Bool) : ∀ (m : List Int) (j : Nat), j ≤ m.length → (∀ p, p ∈ allP m → (F p = true ↔ ∃ i k, i < k ∧ k < j ∧ m[i]? = some p.1 ∧ m[k]? = some p.2)) → m.Nodup → ((allP m).filter fun p => !F p).length + two j = two m.length
  | [], j, hj, _, _ => by
    have : j = 0 := by simpa using hj
    subst this
    rfl
  | a :: m, j, hj, hF, hnd => by
    obtain ⟨hna, hnm⟩ := List.nodup_cons.1 hnd
    have hlen : (a :: m).length = m.length + 1 := rfl
    rw [allP_cons, List.filter_append, List.length_append, hlen, two_succ]
    have idx : ∀ {i k : Nat} {x : Int}, m[i]? = some x → m[k]? = some x → i = k := fun {i k x} h1 h2 => by
      have hi := (List.getElem?_eq_some_iff.1 h1).1
      exact (List.getElem?_inj hi hnm).1 (h1.trans h2.symm)
    cases j with
    | zero =>
      have h0 := count_gen F m 0 (Nat.zero_le _) (fun p hp => ⟨fun h => by
        obtain ⟨i, k, _, hk, _⟩ := (hF p (by rw [allP_cons]; exact List.mem_append_right _ hp)).1 h
        omega, fun ⟨i, k, _, hk, _⟩ => by omega⟩) hnm
      have hrow : ((m.map fun b => (a, b)).filter fun p => !F p) = m.map fun b => (a, b) := List.filter_eq_self.2 fun p hp => by
        cases e : F p with
        | false => rfl
        | true =>
          obtain ⟨i, k, _, hk, _⟩ := (hF p (by rw [allP_cons]; exact List.mem_append_left _ hp)).1 e
          omega
      rw [hrow, List.length_map]
      have z : two 0 = 0 := rfl
      rw [z] at h0 ⊢
      omega
    | succ j =>
      have hjm : j ≤ m.length := by simpa using hj
      have h0 := count_gen F m j hjm (fun p hp => by
        rw [hF p (by rw [allP_cons]; exact List.mem_append_right _ hp)]
        constructor
        · rintro ⟨i, k, hik, hk, h1, h2⟩
          have hp1 : p.1 ∈ m := by
            have := allP_sub m p hp
            exact this.1
          cases i with
          | zero =>
            simp at h1
            rw [← h1] at hp1
            exact absurd hp1 hna
          | succ i =>
            cases k with
            | zero => omega
            | succ k => exact ⟨i, k, by omega, by omega, by simpa using h1, by simpa using h2⟩
        · rintro ⟨i, k, hik, hk, h1, h2⟩
          exact ⟨i + 1, k + 1, by omega, by omega, by simpa using h1, by simpa using h2⟩) hnm
      have hrow : ((m.map fun b => (a, b)).filter fun p => !F p).length = m.length - j := by
        rw [List.filter_map, List.length_map]
        have e1 : (m.filter ((fun p => !F p) ∘ fun b => (a, b))) = m.drop j := by
          conv => lhs; rw [← List.take_append_drop j m]
          rw [List.filter_append]
          have f1 : (m.take j).filter ((fun p => !F p) ∘ fun b => (a, b)) = [] := List.filter_eq_nil_iff.2 fun b hb => by
            obtain ⟨i, hi, rfl⟩ := List.mem_iff_getElem.1 hb
            rw [List.length_take] at hi
            rw [List.getElem_take]
            have hm : m[i] ∈ m := List.getElem_mem _
            have : F (a, m[i]) = true := (hF (a, m[i]) (by rw [allP_cons]; exact List.mem_append_left _ (List.mem_map.2 ⟨_, hm, rfl⟩))).2 ⟨0, i + 1, by omega, by omega, rfl, by simp⟩
            simp [this]
          have f2 : (m.drop j).filter ((fun p => !F p) ∘ fun b => (a, b)) = m.drop j := List.filter_eq_self.2 fun b hb => by
            obtain ⟨i, hi, rfl⟩ := List.mem_iff_getElem.1 hb
            rw [List.length_drop] at hi
            rw [List.getElem_drop]
            have hm : m[j + i] ∈ m := List.getElem_mem _
            cases e : F (a, m[j + i]) with
            | false => simp [e]
            | true =>
              obtain ⟨i', k, hik, hk, h1, h2⟩ := (hF (a, m[j + i]) (by rw [allP_cons]; exact List.mem_append_left _ (List.mem_map.2 ⟨_, hm, rfl⟩))).1 e
              cases k with
              | zero => omega
              | succ k =>
                have h3 : m[k]? = some m[j + i] := by simpa using h2
                have := idx h3 (List.getElem?_eq_getElem (by omega))
                omega
          rw [f1, f2, List.nil_append]
        rw [e1, List.length_drop]
      rw [hrow, two_succ]
      omega
where
  allP_sub : ∀ (m : List Int) (p : Pp), p ∈ allP m → p.1 ∈ m ∧ p.2 ∈ m
    | [], p, h => by simp [allP, frontP] at h
    | a :: m, p, h => by
      rw [allP_cons, List.mem_append] at h
      rcases h with h | h
      · obtain ⟨b, hb, rfl⟩ := List.mem_map.1 h
        exact ⟨by simp, by simp [hb]⟩
      · obtain ⟨h1, h2⟩ := allP_sub m p h
        exact ⟨by simp [h1], by simp [h2]⟩
theorem all_count (m : List Int) (hm : m.Nodup) : (allP m).length = two m.length := by
  have h := count_gen (fun _ => false) m 0 (Nat.zero_le _) (fun p _ => ⟨fun h => (by cases h), fun ⟨i, k, _, hk, _⟩ => (by omega)⟩) hm
  have h2 : ((allP m).filter fun _ => !false) = allP m := List.filter_eq_self.2 fun _ _ => rfl
  exact (congrArg List.length h2).symm.trans h
theorem upN {l : List Int} (h : l.Pairwise (· < ·)) : l.Nodup := h.imp fun h => Int.ne_of_lt h
theorem hasP_all {m : List Int} (hm : m.Pairwise (· < ·)) {p : Pp} (hp : p.1 < p.2) : hasP (allP m) p = true ↔ p.1 ∈ m ∧ p.2 ∈ m := by
  unfold hasP
  rw [List.any_eq_true]
  constructor
  · rintro ⟨q, hq, he⟩
    obtain ⟨h1, h2, h3⟩ := (allP_mem hm q).1 hq
    rw [Bool.and_eq_true, beq_iff_eq, beq_iff_eq, turn_id (by omega), turn_id (by omega)] at he
    rw [← he.1, ← he.2]
    exact ⟨h1, h2⟩
  · rintro ⟨h1, h2⟩
    exact ⟨p, (allP_mem hm p).2 ⟨h1, h2, hp⟩, by simp⟩
theorem rangeL_at {s : Int} {k i : Nat} {x : Int} : (rangeL s k)[i]? = some x ↔ i < k ∧ x = s + (i : Int) := by
  unfold rangeL
  rw [List.getElem?_map]
  rcases Nat.lt_or_ge i k with h | h
  · rw [List.getElem?_range h]
    simp only [Option.map_some, Option.some.injEq]
    exact ⟨fun e => ⟨h, e.symm⟩, fun e => e.2.symm⟩
  · rw [List.getElem?_eq_none (by simpa using h)]
    simp only [Option.map_none]
    exact ⟨fun e => (by cases e), fun e => (by omega)⟩
/-- Fresh pairs of a second run of numbers. -/
def freshB (f fr s : Nat) : List Pp := (allP (rangeL (100 + (fr : Int)) s)).filter fun p => !hasP (allP (rangeL 100 f)) p
theorem fresh_count (f fr s : Nat) : (freshB f fr s).length + two (min (f - fr) s) = two s := by
  have h := count_gen (fun p => hasP (allP (rangeL 100 f)) p) (rangeL (100 + (fr : Int)) s) (min (f - fr) s) (by rw [rangeL_len]; exact Nat.min_le_right _ _) (fun p hp => by
    obtain ⟨h1, h2, h3⟩ := (allP_mem (rangeL_up _ _) p).1 hp
    rw [hasP_all (rangeL_up _ _) h3, rangeL_mem, rangeL_mem]
    rw [rangeL_mem] at h1 h2
    constructor
    · rintro ⟨a1, a2⟩
      refine ⟨(p.1 - 100 - fr).toNat, (p.2 - 100 - fr).toNat, by omega, ?_, rangeL_at.2 ⟨by omega, by omega⟩, rangeL_at.2 ⟨by omega, by omega⟩⟩
      rw [Nat.lt_min]
      omega
    · rintro ⟨i, k, hik, hk, e1, e2⟩
      obtain ⟨_, e1⟩ := rangeL_at.1 e1
      obtain ⟨_, e2⟩ := rangeL_at.1 e2
      rw [Nat.lt_min] at hk
      omega) (upN (rangeL_up _ _))
  rw [rangeL_len] at h
  exact h
theorem norm_of {l m : List Pp} (hl : l.Nodup) (hlt : ∀ p ∈ l, p.1 < p.2) (h : IsNorm l m) : m.length = l.length := by
  have mem : ∀ p, p ∈ m ↔ p ∈ l := fun p => by
    rw [h.mem p]
    constructor
    · rintro ⟨_, q, hq, e⟩
      rw [turn_id (by have := hlt q hq; omega)] at e
      rw [← e]; exact hq
    · intro hp
      exact ⟨hlt p hp, p, hp, turn_id (by have := hlt p hp; omega)⟩
  have hm : m.Nodup := h.up.imp fun {a b} hab e => by subst e; exact ltP_irrefl _ hab
  exact Nat.le_antisymm (nodup_le hm fun x hx => (mem x).1 hx) (nodup_le hl fun x hx => (mem x).2 hx)
theorem all_nodup {m : List Int} (hm : m.Pairwise (· < ·)) : (allP m).Nodup := (allP_up hm).imp fun {a b} hab e => by subst e; exact ltP_irrefl _ hab
/-- The stack along the law. -/
def scL (k : Nat) (q : List Pp) : List Sa := List.replicate (min k 16) ⟨[], []⟩ ++ [⟨[], q⟩]
theorem scL_len (k : Nat) (q : List Pp) : (scL k q).length = min k 16 + 1 := by simp [scL]
theorem scL_aps (k : Nat) (q : List Pp) : apsA (scL k q) = q := by
  unfold apsA scL
  rw [List.flatMap_append, List.flatMap_replicate]
  simp
theorem scL_hyps (k : Nat) (q : List Pp) : hypsA (scL k q) = [] := by
  unfold hypsA scL
  rw [List.flatMap_append, List.flatMap_replicate]
  simp
theorem scL_ok (k : Nat) (q : List Pp) (h : q.length ≤ 1000000) (hw : ∀ p ∈ q, wfP p) : SaOk (scL k q) := ⟨by rw [scL_len]; omega, by rw [scL_len]; omega, by rw [scL_hyps]; simp, by rw [scL_hyps]; simp, by rw [scL_aps]; exact h, by rw [scL_aps]; exact hw⟩
theorem scL_open (k : Nat) : openE (scL k []) = (if 16 ≤ k then 23 else 0) ∧ openL (scL k []) = scL (k + 1) [] := by
  unfold openE openL
  rw [scL_len]
  by_cases h : 16 ≤ k
  · rw [if_pos (by omega), if_pos h, if_pos (by omega)]
    refine ⟨rfl, ?_⟩
    unfold scL
    rw [Nat.min_eq_right h, Nat.min_eq_right (by omega)]
  · rw [if_neg (by omega), if_neg h, if_neg (by omega)]
    refine ⟨rfl, ?_⟩
    unfold scL
    rw [Nat.min_eq_left (by omega), Nat.min_eq_left (by omega), List.replicate_succ']
theorem scL_last (k : Nat) (q f : List Pp) : inLast (fun a => ⟨a.hs, a.ps ++ f⟩) (scL k q) = scL k (q ++ f) := by unfold scL; rw [inLast_snoc]
theorem dist_first (k f : Nat) : distE (scL k []) (rangeL 100 f) = (if 256 < two f then 22 else 0) ∧ (¬ 256 < two f → distL (scL k []) (rangeL 100 f) = scL k (allP (rangeL 100 f))) := by
  have hfr : freshA (scL k []) (rangeL 100 f) = allP (rangeL 100 f) := by
    unfold freshA
    rw [varsOf_range (by omega), scL_aps]
    exact List.filter_eq_self.2 fun _ _ => rfl
  have hE : distE (scL k []) (rangeL 100 f) = (if 256 < two f then 22 else 0) := by
    unfold distE
    rw [hfr, varsOf_range (by omega), any_range (by omega), scL_aps, all_count _ (upN (rangeL_up _ _)), rangeL_len, if_neg (by decide), if_neg (Nat.lt_irrefl _)]
    show (if 256 < two f then (22 : Int) else if 256 < ([] : List Pp).length + two f then 22 else 0) = _
    simp
  refine ⟨hE, fun h => ?_⟩
  unfold distL
  rw [hE, if_neg h, if_pos rfl, hfr, scL_last]
  rfl
theorem dist_second (k f fr s : Nat) (_ : ¬ 256 < two f) : distE (scL k (allP (rangeL 100 f))) (rangeL (100 + (fr : Int)) s) = (if 256 < two f + two s - two (min (f - fr) s) then 22 else 0) ∧ (¬ 256 < two f + two s - two (min (f - fr) s) → distL (scL k (allP (rangeL 100 f))) (rangeL (100 + (fr : Int)) s) = scL k (allP (rangeL 100 f) ++ freshB f fr s)) := by
  have hc := fresh_count f fr s
  have hfr : freshA (scL k (allP (rangeL 100 f))) (rangeL (100 + (fr : Int)) s) = freshB f fr s := by
    unfold freshA freshB
    rw [varsOf_range (by omega), scL_aps]
  have hmono : two (min (f - fr) s) ≤ two f := by
    have : ∀ a b, a ≤ b → two a ≤ two b := fun a b hab => by
      induction hab with
      | refl => exact Nat.le_refl _
      | step _ ih => rw [Nat.succ_eq_add_one, two_succ]; omega
    exact this _ _ (by omega)
  have hE : distE (scL k (allP (rangeL 100 f))) (rangeL (100 + (fr : Int)) s) = (if 256 < two f + two s - two (min (f - fr) s) then 22 else 0) := by
    unfold distE
    rw [hfr, varsOf_range (by omega), any_range (by omega), scL_aps, all_count _ (upN (rangeL_up _ _)), rangeL_len, rangeL_len, if_neg (by decide), if_neg (Nat.lt_irrefl _)]
    have e : (freshB f fr s).length = two s - two (min (f - fr) s) := by omega
    rw [e]
    show (if 256 < two s then (22 : Int) else _) = _
    by_cases h1 : 256 < two s
    · rw [if_pos h1, if_pos (by omega)]
    · rw [if_neg h1]
      by_cases h2 : 256 < two f + two s - two (min (f - fr) s)
      · rw [if_pos h2, if_pos (by omega)]
      · rw [if_neg h2, if_neg (by omega)]
  refine ⟨hE, fun h => ?_⟩
  unfold distL
  rw [hE, if_neg h, if_pos rfl, hfr, scL_last]
theorem second_len (f fr s : Nat) {m : List Pp} (h : IsNorm (allP (rangeL 100 f) ++ freshB f fr s) m) : m.length = two f + two s - two (min (f - fr) s) := by
  have hc := fresh_count f fr s
  rw [norm_of ?_ ?_ h, List.length_append, all_count _ (upN (rangeL_up _ _)), rangeL_len]
  · omega
  · refine List.nodup_append.2 ⟨all_nodup (rangeL_up _ _), (all_nodup (rangeL_up _ _)).filter _, fun p hp q hq e => ?_⟩
    subst e
    obtain ⟨h1, h2, h3⟩ := (allP_mem (rangeL_up _ _) p).1 hp
    have hq2 := (List.mem_filter.1 hq).2
    rw [(hasP_all (rangeL_up _ _) h3).2 ⟨h1, h2⟩] at hq2
    cases hq2
  · intro p hp
    rcases List.mem_append.1 hp with hp | hp
    · exact ((allP_mem (rangeL_up _ _) p).1 hp).2.2
    · exact ((allP_mem (rangeL_up _ _) p).1 (List.mem_filter.1 hp).1).2.2
theorem first_len (f : Nat) {m : List Pp} (h : IsNorm (allP (rangeL 100 f)) m) : m.length = two f := by
  rw [norm_of (all_nodup (rangeL_up _ _)) (fun p hp => ((allP_mem (rangeL_up _ _) p).1 hp).2.2) h, all_count _ (upN (rangeL_up _ _)), rangeL_len]
theorem none_len {m : List Pp} (h : IsNorm [] m) : m.length = 0 := norm_of List.nodup_nil (by simp) h
theorem all_wf {s : Int} {k : Nat} (hs : 0 ≤ s ∧ s ≤ 1000) (hk : k ≤ 1000) : ∀ p ∈ allP (rangeL s k), wfP p := fun p hp => by
  obtain ⟨h1, h2, _⟩ := (allP_mem (rangeL_up _ _) p).1 hp
  rw [rangeL_mem] at h1 h2
  exact ⟨wfN_wf ⟨by omega, by omega⟩, wfN_wf ⟨by omega, by omega⟩⟩
theorem dist_bad (l : List Sa) : distE l [100, 5, 5] = 71 ∧ distL l [100, 5, 5] = l := by
  have h : distE l [100, 5, 5] = 71 := by unfold distE; rw [if_pos (by decide)]
  exact ⟨h, distL_no h (by decide)⟩
theorem dist_same (l : List Sa) : distE l [100, 100] = 50 := by
  have h : varsOf [100, 100] = [100] := (isVars_one ⟨by simp, fun x => by
    constructor
    · intro h; rw [List.mem_singleton.1 h]; exact ⟨by simp, rfl⟩
    · intro h; simpa using h.1, by decide⟩).symm
  unfold distE
  rw [h, if_neg (by decide), if_pos (by decide)]
theorem two_le {k : Nat} (h : k ≤ 60) : two k ≤ 1770 := by
  unfold two
  have h2 : k * (k - 1) ≤ 60 * 59 := Nat.mul_le_mul h (by omega)
  omega
end Go.Proofs.YtkejjiilcoacfaaGreat
