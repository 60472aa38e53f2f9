/- Laid together: RfR, RfS, RfT, RfU, RfV, RfX. -/
import Derived.Test.YtkejjiilcoacfaaGreatRfQb
namespace Go.Proofs.YtkejjiilcoacfaaGreat
open Go.Maps Go.RowKit Go.WideMaps

theorem hypsR_app (a b : List Sd) : hypsR (a ++ b) = hypsR a ++ hypsR b := by unfold hypsR; rw [List.filter_append, List.map_append]
theorem apR_app (a b : List Sd) : apR (a ++ b) = apR a ++ apR b := by unfold apR; rw [List.filter_append, List.map_append]
theorem deepR_app (k : Nat) (a b : List Sd) : deepR k (a ++ b) = deepR k a ++ deepR k b := List.filter_append ..
theorem deepR_deepR {k D : Nat} (h : k ≤ D) (xs : List Sd) : deepR k (deepR D xs) = deepR k xs := by
  unfold deepR
  rw [List.filter_filter]
  refine List.filter_congr fun x _ => ?_
  by_cases h1 : x.d ≤ k
  · simp [h1, Nat.le_trans h1 h]
  · simp [h1]
theorem deepR_all {D : Nat} {xs : List Sd} (h : ∀ x ∈ xs, x.d ≤ D) : deepR D xs = xs := List.filter_eq_self.2 fun x hx => decide_eq_true (h x hx)
theorem tyR_flat (v : Int) : ∀ xs : List Sd, tyR xs v = tyOf (hypsR xs) v
  | [] => rfl
  | x :: xs => by
    have ih := tyR_flat v xs
    unfold tyR tyOf hypsR at ih ⊢
    rw [List.find?_cons, List.filter_cons]
    cases hp : x.pd with
    | true =>
      simp only [Bool.not_true, Bool.false_and]
      exact ih
    | false =>
      simp only [Bool.not_false, Bool.true_and, if_true, List.map_cons, List.find?_cons]
      cases hf : (x.h.fl && decide (x.h.var = v)) with
      | true => rfl
      | false => exact ih
structure Alike (i : Nat) (l : List Sa) (xs : List Sd) (D : Nat) : Prop where
  d : D + 1 = l.length
  h : ∀ k, k < l.length → hypsR (deepR k xs) = hypsA (l.take (k + 1))
  p : ∀ k, k < l.length → ∀ q, q ∈ apR (deepR k xs) ↔ q ∈ apsA (l.take (k + 1))
  t : ∀ x ∈ xs, x.d ≤ D
  n : xs.length ≤ 300 * i
  nd : (apsA l).Nodup
  e : ∀ x ∈ xs, x.h.ex.length ≤ 1048578
theorem Alike.mono {i j : Nat} {l : List Sa} {xs : List Sd} {D : Nat} (h : Alike i l xs D) (hij : i ≤ j) : Alike j l xs D := ⟨h.d, h.h, h.p, h.t, by have := h.n; omega, h.nd, h.e⟩
theorem Alike.hyps {i : Nat} {l : List Sa} {xs : List Sd} {D : Nat} (h : Alike i l xs D) : hypsR xs = hypsA l := by
  have h1 := h.h D (by have := h.d; omega)
  rw [deepR_all h.t, h.d, List.take_length] at h1
  exact h1
theorem Alike.aps {i : Nat} {l : List Sa} {xs : List Sd} {D : Nat} (h : Alike i l xs D) : ∀ q, q ∈ apR xs ↔ q ∈ apsA l := by
  have h1 := h.p D (by have := h.d; omega)
  rw [deepR_all h.t, h.d, List.take_length] at h1
  exact h1
theorem Alike.ty {i : Nat} {l : List Sa} {xs : List Sd} {D : Nat} (h : Alike i l xs D) (v : Int) : tyR xs v = tyA l v := by rw [tyR_flat, tyA_flat, h.hyps]
theorem Alike.typed {i : Nat} {l : List Sa} {xs : List Sd} {D : Nat} (h : Alike i l xs D) (e : List Int) : typedR xs e = judgeE l e := by
  cases e with
  | nil => rfl
  | cons x r =>
    unfold typedR judgeE
    have hb : badR xs = fun v => isV v && (tyA l v).isNone := funext fun v => by unfold badR; rw [h.ty]
    rw [hb, if_neg (by simp)]
    rfl
theorem Alike.float {i : Nat} {l : List Sa} {xs : List Sd} {D : Nat} (h : Alike i l xs D) (typ v : Int) : floatR xs typ v = floatE l typ v := by unfold floatR floatE; rw [h.ty]
theorem Alike.norm {i : Nat} {l : List Sa} {xs : List Sd} {D : Nat} (h : Alike i l xs D) (hps : ∀ q ∈ apsA l, q.1 < q.2) {m : List Pp} (hm : Sorted2 (apR xs) m) : IsNorm (apsA l) m := ⟨hm.up, fun q => by
  rw [hm.mem, h.aps]
  constructor
  · intro hq
    exact ⟨hps q hq, q, hq, turn_id (by have := hps q hq; omega)⟩
  · rintro ⟨_, q', hq', e⟩
    rw [turn_id (by have := hps q' hq'; omega)] at e
    rw [← e]; exact hq'⟩
/-- A hypothesis is said. -/
theorem Alike.hyp {i : Nat} {l : List Sa} {xs : List Sd} {D : Nat} (h : Alike i l xs D) (y : Hy) (ve : Value) (hy : y.ex.length ≤ 1048578) : Alike (i + 1) (inLast (fun a => ⟨a.hs ++ [y], a.ps⟩) l) (xs ++ [sdH D y ve]) D := by
  have hd := h.d
  obtain ⟨r, z, rfl⟩ : ∃ r z, l = r ++ [z] := by
    rcases List.eq_nil_or_concat l with e | ⟨r, z, e⟩
    · rw [e] at hd; simp at hd
    · exact ⟨r, z, by rw [e, List.concat_eq_append]⟩
  rw [inLast_snoc]
  rw [List.length_append, List.length_singleton] at hd
  have hD : D = r.length := by omega
  subst hD
  refine ⟨by simp, fun k hk => ?_, fun k hk q => ?_, fun x hx => ?_, ?_, ?_, fun x hx => ?_⟩
  · rw [List.length_append, List.length_singleton] at hk
    have h1 := h.h k (by simpa using hk)
    rw [deepR_app, hypsR_app]
    by_cases hkr : k = r.length
    · subst hkr
      rw [h1]
      have e1 : (r ++ [z]).take (r.length + 1) = r ++ [z] := List.take_of_length_le (by simp)
      have e2 : (r ++ [(⟨z.hs ++ [y], z.ps⟩ : Sa)]).take (r.length + 1) = r ++ [⟨z.hs ++ [y], z.ps⟩] := List.take_of_length_le (by simp)
      have e3 : deepR r.length [sdH r.length y ve] = [sdH r.length y ve] := deepR_all fun x hx => by rw [List.mem_singleton.1 hx]; exact Nat.le_refl _
      rw [e1, e2, e3]
      simp [hypsA, hypsR, sdH]
    · rw [h1]
      have e1 : (r ++ [z]).take (k + 1) = r.take (k + 1) := List.take_append_of_le_length (by omega)
      have e2 : (r ++ [(⟨z.hs ++ [y], z.ps⟩ : Sa)]).take (k + 1) = r.take (k + 1) := List.take_append_of_le_length (by omega)
      have e3 : deepR k [sdH r.length y ve] = [] := by unfold deepR; simp [sdH]; omega
      rw [e1, e2, e3]
      simp [hypsR]
  · rw [List.length_append, List.length_singleton] at hk
    have h1 := h.p k (by simpa using hk) q
    rw [deepR_app, apR_app]
    have e3 : apR (deepR k [sdH r.length y ve]) = [] := by unfold apR deepR; by_cases h5 : r.length ≤ k <;> simp [sdH, h5]
    rw [e3, List.append_nil, h1]
    by_cases hkr : k = r.length
    · subst hkr
      have e1 : (r ++ [z]).take (r.length + 1) = r ++ [z] := List.take_of_length_le (by simp)
      have e2 : (r ++ [(⟨z.hs ++ [y], z.ps⟩ : Sa)]).take (r.length + 1) = r ++ [⟨z.hs ++ [y], z.ps⟩] := List.take_of_length_le (by simp)
      rw [e1, e2]
      simp [apsA]
    · have e1 : (r ++ [z]).take (k + 1) = r.take (k + 1) := List.take_append_of_le_length (by omega)
      have e2 : (r ++ [(⟨z.hs ++ [y], z.ps⟩ : Sa)]).take (k + 1) = r.take (k + 1) := List.take_append_of_le_length (by omega)
      rw [e1, e2]
  · rcases List.mem_append.1 hx with hx | hx
    · exact h.t x hx
    · rw [List.mem_singleton.1 hx]; exact Nat.le_refl _
  · rw [List.length_append, List.length_singleton]; have := h.n; omega
  · have := h.nd
    simpa [apsA] using this
  · rcases List.mem_append.1 hx with hx | hx
    · exact h.e x hx
    · rw [List.mem_singleton.1 hx]; exact hy
theorem Alike.open {i : Nat} {l : List Sa} {xs : List Sd} {D : Nat} (h : Alike i l xs D) : Alike i (l ++ [⟨[], []⟩]) xs (D + 1) := by
  have hd := h.d
  refine ⟨by simp; omega, fun k hk => ?_, fun k hk q => ?_, fun x hx => by have := h.t x hx; omega, h.n, by simpa [apsA] using h.nd, h.e⟩
  · rw [List.length_append, List.length_singleton] at hk
    by_cases hkl : k = l.length
    · subst hkl
      rw [List.take_of_length_le (by simp), deepR_all (fun x hx => by have := h.t x hx; omega), h.hyps]
      simp [hypsA]
    · rw [List.take_append_of_le_length (by omega)]; exact h.h k (by omega)
  · rw [List.length_append, List.length_singleton] at hk
    by_cases hkl : k = l.length
    · subst hkl
      rw [List.take_of_length_le (by simp), deepR_all (fun x hx => by have := h.t x hx; omega), h.aps]
      simp [apsA]
    · rw [List.take_append_of_le_length (by omega)]; exact h.p k (by omega) q
theorem Alike.close {i : Nat} {l : List Sa} {xs : List Sd} {D : Nat} (h : Alike i l xs (D + 1)) : Alike i (l.take (l.length - 1)) (deepR D xs) D := by
  have hd := h.d
  refine ⟨by rw [List.length_take]; omega, fun k hk => ?_, fun k hk q => ?_, fun x hx => of_decide_eq_true (List.mem_filter.1 hx).2, Nat.le_trans (List.length_filter_le _ _) h.n, ?_, fun x hx => h.e x (List.mem_filter.1 hx).1⟩
  · rw [List.length_take] at hk
    rw [deepR_deepR (by omega), List.take_take, Nat.min_eq_left (by omega)]
    exact h.h k (by omega)
  · rw [List.length_take] at hk
    rw [deepR_deepR (by omega), List.take_take, Nat.min_eq_left (by omega)]
    exact h.p k (by omega) q
  · unfold apsA
    exact h.nd.sublist (by unfold apsA; exact flat_take _ _ _)
theorem Alike.new : Alike 0 [⟨[], []⟩] [] 0 := ⟨rfl, fun k hk => by have : k = 0 := by simpa using hk
                                                                    subst this; rfl, fun k hk q => by have : k = 0 := by simpa using hk
                                                                                                      subst this; simp [apR, deepR, apsA], (fun x hx => by cases hx), Nat.zero_le _, List.nodup_nil, (fun x hx => by cases hx)⟩
end Go.Proofs.YtkejjiilcoacfaaGreat

namespace Go.Proofs.YtkejjiilcoacfaaGreat
open Go.Maps Go.RowKit Go.WideMaps

theorem pairR_two {x y : Int} : ((pairR x y).1 = x ∧ (pairR x y).2 = y) ∨ ((pairR x y).1 = y ∧ (pairR x y).2 = x) := by
  unfold pairR
  split
  · exact .inl ⟨rfl, rfl⟩
  · exact .inr ⟨rfl, rfl⟩
theorem pairR_lt {x y : Int} (h : x ≠ y) : (pairR x y).1 < (pairR x y).2 := by
  unfold pairR
  split
  · assumption
  · show y < x; omega
theorem pairR_inj {x y z : Int} (h : pairR x y = pairR x z) : y = z := by
  unfold pairR at h
  split at h <;> split at h <;> simp only [Prod.mk.injEq] at h <;> omega
theorem rowR_mem {vs : List Int} {i j : Nat} {x : Int} (hx : vs[i]? = some x) {p : Pp} : p ∈ rowR vs i j ↔ ∃ y ∈ vs.take j, p = pairR x y := by
  unfold rowR
  rw [List.mem_map, List.getD_eq_getElem?_getD, hx]
  exact ⟨fun ⟨y, h1, h2⟩ => ⟨y, h1, h2.symm⟩, fun ⟨y, h1, h2⟩ => ⟨y, h1, h2.symm⟩⟩
/-- The pairs of a list whose numbers are all unlike. -/
theorem allR_is {vs : List Int} (hd : vs.Nodup) : ∀ {i : Nat}, i ≤ vs.length → (allR vs i).Nodup ∧ ∀ p : Pp, p ∈ allR vs i ↔ p.1 ∈ vs.take i ∧ p.2 ∈ vs.take i ∧ p.1 < p.2
  | 0, _ => ⟨List.nodup_nil, fun p => by simp [allR]⟩
  | i + 1, hi => by
    obtain ⟨h1, h2⟩ := allR_is hd (i := i) (by omega)
    obtain ⟨x, hx⟩ : ∃ x, vs[i]? = some x := ⟨_, List.getElem?_eq_getElem (by omega)⟩
    have hnx : x ∉ vs.take i := fun hm => by
      obtain ⟨hlt, e⟩ := List.getElem?_eq_some_iff.1 hx
      have h5 := hd
      rw [← List.take_append_drop i vs, List.drop_eq_getElem_cons hlt, e] at h5
      exact (List.nodup_append.1 h5).2.2 x hm x (by simp) rfl
    have hne : ∀ y ∈ vs.take i, x ≠ y := fun y hy e => hnx (e ▸ hy)
    have hdt : (vs.take i).Nodup := hd.sublist (List.take_sublist _ _)
    constructor
    · show (allR vs i ++ rowR vs i i).Nodup
      refine List.nodup_append.2 ⟨h1, ?_, fun p hp q hq e => ?_⟩
      · unfold rowR
        rw [List.getD_eq_getElem?_getD, hx]
        exact List.pairwise_map.2 (hdt.imp fun {a b} hab e => hab (pairR_inj e))
      · subst e
        obtain ⟨p1, p2, _⟩ := (h2 p).1 hp
        obtain ⟨y, hy, e⟩ := (rowR_mem hx).1 hq
        rcases pairR_two (x := x) (y := y) with ⟨e1, _⟩ | ⟨_, e2⟩
        · rw [e, e1] at p1; exact hnx p1
        · rw [e, e2] at p2; exact hnx p2
    · intro p
      show p ∈ allR vs i ++ rowR vs i i ↔ _
      rw [List.mem_append, h2, rowR_mem hx, List.take_add_one, hx]
      simp only [Option.toList_some, List.mem_append, List.mem_singleton]
      constructor
      · rintro (⟨a1, a2, a3⟩ | ⟨y, hy, rfl⟩)
        · exact ⟨.inl a1, .inl a2, a3⟩
        · rcases pairR_two (x := x) (y := y) with ⟨e1, e2⟩ | ⟨e1, e2⟩
          · exact ⟨.inr e1, .inl (by rw [e2]; exact hy), pairR_lt (hne y hy)⟩
          · exact ⟨.inl (by rw [e1]; exact hy), .inr e2, pairR_lt (hne y hy)⟩
      · rintro ⟨a1, a2, a3⟩
        rcases a1 with a1 | a1
        · rcases a2 with a2 | a2
          · exact .inl ⟨a1, a2, a3⟩
          · refine .inr ⟨p.1, a1, ?_⟩
            have : ¬ x < p.1 := by rw [← a2]; omega
            unfold pairR
            rw [if_neg this, ← a2]
        · rcases a2 with a2 | a2
          · refine .inr ⟨p.2, a2, ?_⟩
            have : x < p.2 := by rw [← a1]; exact a3
            unfold pairR
            rw [if_pos this, ← a1]
          · rw [a1, a2] at a3; omega
theorem dup_iff (vs : List Int) : dupR vs ↔ ¬ vs.Nodup := by
  unfold dupR
  constructor
  · rintro ⟨i, k, h1, h2, h3⟩ hd
    exact Nat.ne_of_gt h1 ((List.getElem?_inj h2 hd).1 h3 |>.symm ▸ rfl)
  · intro h
    refine Classical.byContradiction fun hc => h (List.pairwise_iff_getElem.2 fun k i hk hi hki e => hc ⟨i, k, hki, hi, by rw [List.getElem?_eq_getElem hi, List.getElem?_eq_getElem hk, e]⟩)
theorem vars_all {vs : List Int} (hv : ∀ x ∈ vs, isV x = true) (x : Int) : x ∈ varsOf vs ↔ x ∈ vs := ((varsOf_is vs).mem x).trans ⟨fun h => h.1, fun h => ⟨h, hv x h⟩⟩
theorem vars_dup {vs : List Int} (hv : ∀ x ∈ vs, isV x = true) : (varsOf vs).length < vs.length ↔ ¬ vs.Nodup := by
  have hn := upN (varsOf_is vs).up
  constructor
  · intro h hd
    have := nodup_le hd fun x hx => (vars_all hv x).2 hx
    omega
  · intro h
    obtain ⟨i, k, h1, h2, h3⟩ := (dup_iff vs).2 h
    have hx : ∃ x, vs[i]? = some x := ⟨_, List.getElem?_eq_getElem h2⟩
    obtain ⟨x, hx⟩ := hx
    have hk : vs[k]? = some x := by rw [← h3]; exact hx
    have h4 := nodup_le (l := varsOf vs) (m := vs.eraseIdx i) hn fun y hy => by
      have hy' := (vars_all hv y).1 hy
      obtain ⟨j, hj⟩ := List.mem_iff_getElem?.1 hy'
      rw [List.mem_eraseIdx_iff_getElem?]
      by_cases hji : j = i
      · refine ⟨k, by omega, ?_⟩
        rw [hji, hx] at hj
        rw [hk]; exact hj
      · exact ⟨j, hji, hj⟩
    rw [List.length_eraseIdx, if_pos h2] at h4
    omega
theorem hasP_mem {l : List Pp} {p : Pp} (hl : ∀ q ∈ l, q.1 < q.2) (hp : p.1 < p.2) : hasP l p = true ↔ p ∈ l := by
  unfold hasP
  rw [List.any_eq_true]
  constructor
  · rintro ⟨q, hq, h⟩
    rw [turn_id (p := q) (by have := hl q hq; omega), turn_id (p := p) (by omega)] at h
    simp only [Bool.and_eq_true, beq_iff_eq] at h
    have : q = p := Prod.ext h.1 h.2
    rw [← this]; exact hq
  · intro h
    exact ⟨p, h, by simp⟩
/-- Pairs that are fresh: those of the list that are not active. -/
theorem fresh_mem {l : List Sa} {vs : List Int} (hv : ∀ x ∈ vs, isV x = true) (hps : ∀ q ∈ apsA l, q.1 < q.2) (p : Pp) : p ∈ freshA l vs ↔ (p.1 ∈ vs ∧ p.2 ∈ vs ∧ p.1 < p.2) ∧ p ∉ apsA l := by
  unfold freshA
  rw [List.mem_filter, allP_mem (varsOf_is vs).up, vars_all hv, vars_all hv]
  constructor
  · rintro ⟨h1, h2⟩
    refine ⟨h1, fun hm => ?_⟩
    rw [(hasP_mem hps h1.2.2).2 hm] at h2
    cases h2
  · rintro ⟨h1, h2⟩
    refine ⟨h1, ?_⟩
    cases hh : hasP (apsA l) p with
    | true => exact absurd ((hasP_mem hps h1.2.2).1 hh) h2
    | false => rfl
theorem fresh_nodup (l : List Sa) (vs : List Int) : (freshA l vs).Nodup := (all_nodup (varsOf_is vs).up).sublist List.filter_sublist
theorem len_same {l m : List Pp} (hl : l.Nodup) (hm : m.Nodup) (h : ∀ p, p ∈ l ↔ p ∈ m) : l.length = m.length := Nat.le_antisymm (nodup_le hl fun p hp => (h p).1 hp) (nodup_le hm fun p hp => (h p).2 hp)
theorem Alike.count {i : Nat} {l : List Sa} {xs : List Sd} {D : Nat} (h : Alike i l xs D) (hps : ∀ q ∈ apsA l, q.1 < q.2) {vs : List Int} (hv : ∀ x ∈ vs, isV x = true) (hd : vs.Nodup) {had : List Pp} (hh : Sorted2 (apR xs) had) : had.length + cntR had (allR vs vs.length) = (apsA l).length + (freshA l vs).length := by
  obtain ⟨a1, a2⟩ := allR_is hd (Nat.le_refl vs.length)
  rw [List.take_length] at a2
  have e1 : had.length = (apsA l).length := len_same (up_nodup hh.up) h.nd fun p => (hh.mem p).trans (h.aps p)
  have e2 : cntR had (allR vs vs.length) = (freshA l vs).length := len_same (a1.sublist List.filter_sublist) (fresh_nodup l vs) fun p => by
    rw [List.mem_filter, a2, fresh_mem hv hps]
    refine and_congr Iff.rfl ?_
    unfold inQ
    rw [← h.aps, ← hh.mem]
    simp
  omega
/-- Dist's answer. -/
theorem Alike.distE {i : Nat} {l : List Sa} {xs : List Sd} {D : Nat} (h : Alike i l xs D) (hps : ∀ q ∈ apsA l, q.1 < q.2) (vs : List Int) :
    ((∃ x ∈ vs, isV x = false) → distE l vs = 71) ∧ ((∀ x ∈ vs, isV x = true) → dupR vs → distE l vs = 50) ∧
      ((∀ x ∈ vs, isV x = true) → ¬ dupR vs → ∀ had, Sorted2 (apR xs) had → distE l vs = if 256 < had.length + cntR had (allR vs vs.length) then 22 else 0) := by
  have hany : (∀ x ∈ vs, isV x = true) → (vs.any fun v => !isV v) = false := fun hv => by rw [List.any_eq_false]; intro x hx; rw [hv x hx]; simp
  refine ⟨fun ⟨x, hx, hf⟩ => ?_, fun hv hd => ?_, fun hv hd had hh => ?_⟩
  · unfold Go.Proofs.YtkejjiilcoacfaaGreat.distE
    rw [if_pos (List.any_eq_true.2 ⟨x, hx, by rw [hf]; rfl⟩)]
  · unfold Go.Proofs.YtkejjiilcoacfaaGreat.distE
    rw [if_neg (by rw [hany hv]; simp), if_pos ((vars_dup hv).2 ((dup_iff vs).1 hd))]
  · have hn : vs.Nodup := Classical.byContradiction fun hc => hd ((dup_iff vs).2 hc)
    have hc := h.count hps hv hn hh
    unfold Go.Proofs.YtkejjiilcoacfaaGreat.distE
    rw [if_neg (by rw [hany hv]; simp), if_neg (fun hc => (vars_dup hv).1 hc hn), hc]
    have h2 : (varsOf vs).length * ((varsOf vs).length - 1) / 2 ≤ (apsA l).length + (freshA l vs).length := by
      have h3 := all_count (varsOf vs) (upN (varsOf_is vs).up)
      have h4 := nodup_le (l := allP (varsOf vs)) (m := apsA l ++ freshA l vs) (all_nodup (varsOf_is vs).up) fun p hp => by
        rw [List.mem_append]
        by_cases hm : p ∈ apsA l
        · exact .inl hm
        · obtain ⟨b1, b2, b3⟩ := (allP_mem (varsOf_is vs).up p).1 hp
          exact .inr ((fresh_mem hv hps p).2 ⟨⟨(vars_all hv _).1 b1, (vars_all hv _).1 b2, b3⟩, hm⟩)
      rw [List.length_append, h3] at h4
      exact h4
    by_cases h5 : 256 < (varsOf vs).length * ((varsOf vs).length - 1) / 2
    · rw [if_pos h5, if_pos (by omega)]
    · rw [if_neg h5]
/-- Pairs are said. -/
theorem Alike.dist {i : Nat} {l : List Sa} {xs : List Sd} {D : Nat} (h : Alike i l xs D) (hps : ∀ q ∈ apsA l, q.1 < q.2) {vs : List Int} (hv : ∀ x ∈ vs, isV x = true) (hd : ¬ dupR vs) (h256 : (apsA l).length + (freshA l vs).length ≤ 256) : Alike (i + 1) (inLast (fun a => ⟨a.hs, a.ps ++ freshA l vs⟩) l) (xs ++ (allR vs vs.length).map (sdP D)) D := by
  have hn : vs.Nodup := Classical.byContradiction fun hc => hd ((dup_iff vs).2 hc)
  obtain ⟨a1, a2⟩ := allR_is hn (Nat.le_refl vs.length)
  rw [List.take_length] at a2
  have hlen : (allR vs vs.length).length ≤ 256 := by
    have h4 := nodup_le (l := allR vs vs.length) (m := apsA l ++ freshA l vs) a1 fun p hp => by
      rw [List.mem_append]
      by_cases hm : p ∈ apsA l
      · exact .inl hm
      · exact .inr ((fresh_mem hv hps p).2 ⟨(a2 p).1 hp, hm⟩)
    rw [List.length_append] at h4
    omega
  obtain ⟨fr, hfr⟩ : ∃ fr, freshA l vs = fr := ⟨_, rfl⟩
  have hfm : ∀ p, p ∈ fr ↔ (p.1 ∈ vs ∧ p.2 ∈ vs ∧ p.1 < p.2) ∧ p ∉ apsA l := fun p => by rw [← hfr]; exact fresh_mem hv hps p
  have hfn : fr.Nodup := by rw [← hfr]; exact fresh_nodup l vs
  have hdd := h.d
  rw [hfr]
  clear hfr
  obtain ⟨r, z, rfl⟩ : ∃ r z, l = r ++ [z] := by
    rcases List.eq_nil_or_concat l with e | ⟨r, z, e⟩
    · rw [e] at hdd; simp at hdd
    · exact ⟨r, z, by rw [e, List.concat_eq_append]⟩
  rw [inLast_snoc]
  rw [List.length_append, List.length_singleton] at hdd
  have hD : D = r.length := by omega
  subst hD
  have hy : ∀ k, hypsR (deepR k ((allR vs vs.length).map (sdP r.length))) = [] := fun k => by
    unfold hypsR deepR
    rw [List.map_eq_nil_iff, List.filter_filter, List.filter_eq_nil_iff]
    intro x hx
    obtain ⟨p, _, rfl⟩ := List.mem_map.1 hx
    simp [sdP]
  have hap : apR ((allR vs vs.length).map (sdP r.length)) = allR vs vs.length := by
    unfold apR
    rw [List.filter_eq_self.2 (fun x hx => by obtain ⟨p, _, rfl⟩ := List.mem_map.1 hx; rfl), List.map_map]
    exact List.map_id' _
  refine ⟨by simp, fun k hk => ?_, fun k hk q => ?_, fun x hx => ?_, ?_, ?_, fun x hx => ?_⟩
  · rw [List.length_append, List.length_singleton] at hk
    rw [deepR_app, hypsR_app, hy, List.append_nil, h.h k (by simpa using hk)]
    by_cases hkr : k = r.length
    · subst hkr
      rw [List.take_of_length_le (by simp), List.take_of_length_le (by simp)]
      simp [hypsA]
    · rw [List.take_append_of_le_length (by omega), List.take_append_of_le_length (by omega)]
  · rw [List.length_append, List.length_singleton] at hk
    have h1 := h.p k (by simpa using hk) q
    rw [deepR_app, apR_app, List.mem_append, h1]
    by_cases hkr : k = r.length
    · subst hkr
      rw [List.take_of_length_le (by simp), List.take_of_length_le (by simp), deepR_all (fun x hx => by obtain ⟨p, _, rfl⟩ := List.mem_map.1 hx; exact Nat.le_refl _), hap, a2]
      have e : apsA (r ++ [(⟨z.hs, z.ps ++ fr⟩ : Sa)]) = apsA (r ++ [z]) ++ fr := by simp [apsA]
      rw [e, List.mem_append, hfm]
      constructor
      · rintro (h3 | h3)
        · exact .inl h3
        · by_cases hm : q ∈ apsA (r ++ [z])
          · exact .inl hm
          · exact .inr ⟨h3, hm⟩
      · rintro (h3 | h3)
        · exact .inl h3
        · exact .inr h3.1
    · have e3 : apR (deepR k ((allR vs vs.length).map (sdP r.length))) = [] := by
        unfold apR deepR
        rw [List.map_eq_nil_iff, List.filter_filter, List.filter_eq_nil_iff]
        intro x hx
        obtain ⟨p, _, rfl⟩ := List.mem_map.1 hx
        intro hc9
        rcases Bool.and_eq_true_iff.1 hc9 with ⟨ha, hb⟩
        have h9 : r.length ≤ k := by first | exact of_decide_eq_true ha | exact of_decide_eq_true hb
        omega
      rw [e3, List.take_append_of_le_length (by omega), List.take_append_of_le_length (by omega)]
      simp
  · rcases List.mem_append.1 hx with hx | hx
    · exact h.t x hx
    · obtain ⟨p, _, rfl⟩ := List.mem_map.1 hx; exact Nat.le_refl _
  · rw [List.length_append, List.length_map]; have := h.n; omega
  · have e : apsA (r ++ [(⟨z.hs, z.ps ++ fr⟩ : Sa)]) = apsA (r ++ [z]) ++ fr := by simp [apsA]
    rw [e]
    exact List.nodup_append.2 ⟨h.nd, hfn, fun p hp q hq e2 => ((hfm q).1 hq).2 (e2 ▸ hp)⟩
  · rcases List.mem_append.1 hx with hx | hx
    · exact h.e x hx
    · obtain ⟨p, _, rfl⟩ := List.mem_map.1 hx; exact Nat.zero_le _
end Go.Proofs.YtkejjiilcoacfaaGreat

namespace Go.Proofs.YtkejjiilcoacfaaGreat
open Go.Maps Go.RowKit Go.WideMaps

theorem RfO.up {O O' : Nat → Prop} {W : World} {P : Nat} {xs : List Sd} {D : Nat} (h : RfO O W P xs D) (ho : ∀ g, O g → O' g) (hl : ∀ g, O' g → g < W.heap.size) : RfO O' W P xs D := by
  obtain ⟨vL, h⟩ := h
  exact ⟨vL, h.up ho hl⟩
theorem RfO.lt {O : Nat → Prop} {W : World} {P : Nat} {xs : List Sd} {D : Nat} (h : RfO O W P xs D) : ∀ g, O g → g < W.heap.size := by
  obtain ⟨vL, h⟩ := h
  exact h.lt
/-- What stands behind a call that was made a little later. -/
theorem RfO.later {R : Nat → Prop} {w w1 w2 : World} {Q : Nat} {xs : List Sd} {D : Nat} (hl : ∀ g, R g → g < w.heap.size) (hb : Below w.heap.size w w1) (hc : M.Ch R w1 w2) (h : RfO (More R w1 w2) w2 Q xs D) : RfO (More R w w2) w2 Q xs D ∧ M.Ch R w w2 :=
  ⟨h.up (fun g e => by rcases e with e | e; exact .inl e; exact .inr ⟨Nat.le_trans hb.size e.1, e.2⟩) (fun g e => by rcases e with e | e; exact Nat.lt_of_lt_of_le (hl g e) (Nat.le_trans hb.size hc.size); exact e.2), (M.Ch.of_below hb).trans hc⟩
/-- What a step says to the document's stack. -/
def DocPost (R : Nat → Prop) (w : World) (Q i : Nat) (l : List Sa) (o : OpA) (e : Ending) (w' : World) : Prop := ∃ xs D, e = .returned (.int .i64 (sayE l o)) ∧ Alike (i + 1) (sayL l o) xs D ∧ RfO (More R w w') w' Q xs D ∧ M.Ch R w w'
section
variable {R : Nat → Prop} {w w1 w2 : World} {Q i D : Nat} {l : List Sa} {xs : List Sd} {o : OpA}
theorem doc1 (ho : o.k = 1) (ha : Alike i l xs D) (h17 : l.length ≤ 17) (hl : ∀ g, R g → g < w.heap.size) (hb : Below w.heap.size w w1) {e : Ending} (h : RfPost R w1 Q (if D = 16 then 23 else 0) xs (if D = 16 then D else D + 1) e w2) : e = .returned (.int .i64 (sayE l o)) ∧ DocPost R w Q i l o (.returned (.int .i64 (sayE l o))) w2 := by
  obtain ⟨rfl, h1, h2⟩ := h
  obtain ⟨h3, h4⟩ := RfO.later hl hb h2 h1
  have hd := ha.d
  unfold DocPost sayE sayL
  rw [if_pos ho, if_pos ho]
  unfold openE openL
  by_cases h16 : D = 16
  · rw [if_pos h16] at h3
    rw [if_pos h16, if_pos (by omega), if_pos (by omega)]
    exact ⟨rfl, xs, D, rfl, ha.mono (by omega), h3, h4⟩
  · rw [if_neg h16] at h3
    rw [if_neg h16, if_neg (by omega), if_neg (by omega)]
    exact ⟨rfl, xs, D + 1, rfl, ha.open.mono (by omega), h3, h4⟩
theorem doc2 (ho : o.k = 2) (ha : Alike i l xs D) (hl : ∀ g, R g → g < w.heap.size) (hb : Below w.heap.size w w1) {e : Ending} (h : RfPost R w1 Q (if D = 0 then 23 else 0) (if D = 0 then xs else deepR (D - 1) xs) (D - 1) e w2) : e = .returned (.int .i64 (sayE l o)) ∧ DocPost R w Q i l o (.returned (.int .i64 (sayE l o))) w2 := by
  obtain ⟨rfl, h1, h2⟩ := h
  obtain ⟨h3, h4⟩ := RfO.later hl hb h2 h1
  have hd := ha.d
  have s1 : sayE l o = closeE l := by unfold sayE; rw [if_neg (by omega), if_pos ho]
  have s2 : sayL l o = closeL l := by unfold sayL; rw [if_neg (by omega), if_pos ho]
  unfold DocPost
  rw [s1, s2]
  by_cases h16 : D = 0
  · have c1 : closeE l = 23 := by unfold closeE; rw [if_pos (by omega)]
    have c2 : closeL l = l := by unfold closeL; rw [if_pos (by omega)]
    rw [if_pos h16] at h3
    rw [c1, c2, if_pos h16]
    subst h16
    exact ⟨rfl, xs, 0, rfl, ha.mono (by omega), h3, h4⟩
  · have c1 : closeE l = 0 := by unfold closeE; rw [if_neg (by omega)]
    have c2 : closeL l = l.take (l.length - 1) := by unfold closeL; rw [if_neg (by omega)]
    rw [if_neg h16] at h3
    rw [c1, c2, if_neg h16]
    obtain ⟨E, rfl⟩ : ∃ E, D = E + 1 := ⟨D - 1, by omega⟩
    exact ⟨rfl, _, E, rfl, ha.close.mono (by omega), h3, h4⟩
theorem doc3 (ho : o.k = 3) (ha : Alike i l xs D) (hl : ∀ g, R g → g < w.heap.size) (hb : Below w.heap.size w w1) {e : Ending} (h : RfSay R w1 Q (floatR xs o.a o.b) xs D ⟨o.lab, true, o.b, [o.a, o.b]⟩ e w2) : e = .returned (.int .i64 (sayE l o)) ∧ DocPost R w Q i l o (.returned (.int .i64 (sayE l o))) w2 := by
  obtain ⟨rfl, h2, h5⟩ := h
  rw [ha.float] at h5 ⊢
  unfold DocPost sayE sayL
  rw [if_neg (by omega), if_neg (by omega), if_pos ho, if_neg (by omega), if_neg (by omega), if_pos ho]
  unfold floatL
  rcases h5 with ⟨h0, h1⟩ | ⟨h0, ve, h1⟩
  · obtain ⟨h3, h4⟩ := RfO.later hl hb h2 h1
    rw [if_neg h0]
    exact ⟨rfl, xs, D, rfl, ha.mono (by omega), h3, h4⟩
  · obtain ⟨h3, h4⟩ := RfO.later hl hb h2 h1
    rw [if_pos h0]
    exact ⟨rfl, _, D, rfl, ha.hyp _ ve (by show (2 : Nat) ≤ _; omega), h3, h4⟩
theorem doc4 (ho : o.k = 4) (ha : Alike i l xs D) (he : o.e.length ≤ 1048576) (hl : ∀ g, R g → g < w.heap.size) (hb : Below w.heap.size w w1) {e : Ending} (h : RfSay R w1 Q (typedR xs o.e) xs D ⟨o.lab, false, -1, o.e⟩ e w2) : e = .returned (.int .i64 (sayE l o)) ∧ DocPost R w Q i l o (.returned (.int .i64 (sayE l o))) w2 := by
  obtain ⟨rfl, h2, h5⟩ := h
  rw [ha.typed] at h5 ⊢
  unfold DocPost sayE sayL
  rw [if_neg (by omega), if_neg (by omega), if_neg (by omega), if_pos ho, if_neg (by omega), if_neg (by omega), if_neg (by omega), if_pos ho]
  unfold essL
  rcases h5 with ⟨h0, h1⟩ | ⟨h0, ve, h1⟩
  · obtain ⟨h3, h4⟩ := RfO.later hl hb h2 h1
    rw [if_neg h0]
    exact ⟨rfl, xs, D, rfl, ha.mono (by omega), h3, h4⟩
  · obtain ⟨h3, h4⟩ := RfO.later hl hb h2 h1
    rw [if_pos h0]
    exact ⟨rfl, _, D, rfl, ha.hyp _ ve (by show o.e.length ≤ _; omega), h3, h4⟩
theorem doc5 (ho : o.k = 5) (ha : Alike i l xs D) (hps : ∀ q ∈ apsA l, q.1 < q.2) (hl : ∀ g, R g → g < w.heap.size) (hb : Below w.heap.size w w1) {e : Ending} (h : RfDist R w1 Q xs D o.e e w2) : e = .returned (.int .i64 (sayE l o)) ∧ DocPost R w Q i l o (.returned (.int .i64 (sayE l o))) w2 := by
  obtain ⟨E, rfl, h2, h5⟩ := h
  obtain ⟨q1, q2, q3⟩ := ha.distE hps o.e
  unfold DocPost sayE sayL
  rw [if_neg (by omega), if_neg (by omega), if_neg (by omega), if_neg (by omega), if_pos ho, if_neg (by omega), if_neg (by omega), if_neg (by omega), if_neg (by omega), if_pos ho]
  unfold distL
  rcases h5 with ⟨h6, rfl, h1⟩ | ⟨h6, h7, rfl, h1⟩ | ⟨h6, h7, had, h8, h9⟩
  · obtain ⟨h3, h4⟩ := RfO.later hl hb h2 h1
    rw [q1 h6, if_neg (by decide)]
    exact ⟨rfl, xs, D, rfl, ha.mono (by omega), h3, h4⟩
  · obtain ⟨h3, h4⟩ := RfO.later hl hb h2 h1
    rw [q2 h6 h7, if_neg (by decide)]
    exact ⟨rfl, xs, D, rfl, ha.mono (by omega), h3, h4⟩
  · have q4 := q3 h6 h7 had h8
    have hc := ha.count hps h6 (Classical.byContradiction fun hc => h7 ((dup_iff o.e).2 hc)) h8
    rcases h9 with ⟨h10, rfl, h1⟩ | ⟨h10, rfl, h1⟩
    · obtain ⟨h3, h4⟩ := RfO.later hl hb h2 h1
      rw [q4, if_pos h10, if_neg (by decide)]
      exact ⟨rfl, xs, D, rfl, ha.mono (by omega), h3, h4⟩
    · obtain ⟨h3, h4⟩ := RfO.later hl hb h2 h1
      rw [q4, if_neg (by omega), if_pos rfl]
      exact ⟨rfl, _, D, rfl, ha.dist hps h6 h7 (by omega), h3, h4⟩
end
set_option maxRecDepth 100000 in
set_option maxHeartbeats 16000000 in
theorem doc_any (w : World) (R : Nat → Prop) (Q i D : Nat) (l : List Sa) (xs : List Sd) (o : OpA) (a : Option Addr) (n c : Nat) (h : RfO R w Q xs D) (ha : Alike i l xs D) (hg : Good i 1048576 l) (hi : i ≤ 1000000) (ho : OpOk 1048576 o) (hn : o.e.length = n) (hE : NsAt w a o.e) :
    Calls Tryz.prog 27 #[.pointer (some ⟨Q, 0, none⟩), .agg #[.int .i64 o.k, .string o.lab, .int .i64 o.a, .int .i64 o.b, .slice a n c]] w (DocPost R w Q i l o) := by
  have hx : xs.length ≤ 1000000000 := by have := ha.n; omega
  have hD : D ≤ 16 := by have h1 := ha.d; have h2 := hg.n1; omega
  have hon : n ≤ 1048576 := by have := ho.n; omega
  obtain ⟨w1, hw1⟩ : ∃ w1, w1 = w.alloc (.cells #[.int .i64 o.k, .string o.lab, .int .i64 o.a, .int .i64 o.b, .slice a n c] 45) := ⟨_, rfl⟩
  obtain ⟨T, hT⟩ : ∃ T, w.heap.size = T := ⟨_, rfl⟩
  have HW1 : Hid (w1 = w.alloc (.cells #[.int .i64 o.k, .string o.lab, .int .i64 o.a, .int .i64 o.b, .slice a n c] 45) ∧ w.heap.size = T) := ⟨hw1, hT⟩
  have b1 : Below w.heap.size w w1 := by rw [hw1]; exact fr_below_alloc _ _
  have k1 : w1.heap[T]? = some (.cells #[.int .i64 o.k, .string o.lab, .int .i64 o.a, .int .i64 o.b, .slice a n c] 45 (0, 0)) := by rw [hw1, ← hT]; exact heap_alloc_new w _
  have B1 : Hid (Below w.heap.size w w1 ∧ ∀ g, R g → g < w.heap.size) := ⟨b1, h.lt⟩
  have x0 := M.cell_whole k1 0
  have x1 := M.cell_whole k1 1
  have x2 := M.cell_whole k1 2
  have x3 := M.cell_whole k1 3
  have x4 := M.cell_whole k1 4
  simp only [List.getElem?_toArray, List.getElem?_cons_zero, List.getElem?_cons_succ] at x0 x1 x2 x3 x4
  have NU : Hid (∀ n wx, Calls Tryz.prog 11 #[.int .i64 n] wx fun e w' => e = .returned (.int .i64 n) ∧ w' = wx) := fun n wx => num_any wx n
  have AL : Hid (Alike i l xs D ∧ Good i 1048576 l) := ⟨ha, hg⟩
  have SM : Hid (RfO (More R w w1) w1 Q xs D ∧ M.Ch R w w1) := RfO.later h.lt b1 (M.Ch.refl _ _) ((h.below b1).up (fun _ => .inl) (fun g e => by rcases e with e | e; exact Nat.lt_of_lt_of_le (h.lt g e) b1.size; exact e.2))
  have R1 := h.below b1
  have C1 : Hid _ := ropen_any w1 R Q xs D R1 hD
  have C2 : Hid _ := rclose_any w1 R Q xs D R1 hD hx
  have C3 : Hid _ := rfloat_any w1 R Q xs D o.lab o.a o.b R1 hx ho.a ho.b
  have C4 : Hid _ := ress_any w1 R Q xs D o.lab a c o.e R1 hx (by omega) (hE.under b1) ho.e
  have C5 : Hid _ := rdist_any w1 R Q xs D a n c o.e R1 hx hn hon (hE.under b1) ho.e
  rw [hn] at C4
  have HON : Hid (o.e.length ≤ 1048576) := ho.n
  obtain ⟨K, hK⟩ : ∃ K, o.k = K := ⟨_, rfl⟩
  obtain ⟨SE, hSE⟩ : ∃ SE, sayE l o = SE := ⟨_, rfl⟩
  have HK : Hid (o.k = K ∧ sayE l o = SE) := ⟨hK, hSE⟩
  rw [hK] at x0 HW1 ⊢
  clear hw1 hT b1 k1 ha hg ho hE R1 h hn hx hD hon hK hSE
  by_cases m1 : K = 1
  · subst m1
    clear C2 C3 C4 C5
    go_enter Tryz.func27, Tryz.ntmps27
    go_upto_region 1 with fail
    rw [← HW1.out.1, HW1.out.2]
    clear HW1
    go_wp2_with fail
    refine Calls.mono C1.out ?_
    intro e w2 hp
    obtain ⟨rfl, hd⟩ := doc1 HK.out.1 AL.out.1 AL.out.2.n1 B1.out.2 B1.out.1 hp
    rw [HK.out.2] at hd ⊢
    have DP : Hid (DocPost R w Q i l o (.returned (.int .i64 SE)) w2) := hd
    clear hp hd C1
    go_wp2_with fail
    refine Calls.mono (NU.out _ _) ?_
    rintro e wz ⟨rfl, hwz⟩
    subst wz
    go_wp2
    go_ret
    exact DP.out
  by_cases m2 : K = 2
  · subst m2
    clear C1 C3 C4 C5
    go_enter Tryz.func27, Tryz.ntmps27
    go_upto_region 1 with fail
    rw [← HW1.out.1, HW1.out.2]
    clear HW1
    go_wp2_with fail
    refine Calls.mono C2.out ?_
    intro e w2 hp
    obtain ⟨rfl, hd⟩ := doc2 HK.out.1 AL.out.1 B1.out.2 B1.out.1 hp
    rw [HK.out.2] at hd ⊢
    have DP : Hid (DocPost R w Q i l o (.returned (.int .i64 SE)) w2) := hd
    clear hp hd C2
    go_wp2_with fail
    refine Calls.mono (NU.out _ _) ?_
    rintro e wz ⟨rfl, hwz⟩
    subst wz
    go_wp2
    go_ret
    exact DP.out
  by_cases m3 : K = 3
  · subst m3
    clear C1 C2 C4 C5
    go_enter Tryz.func27, Tryz.ntmps27
    go_upto_region 1 with fail
    rw [← HW1.out.1, HW1.out.2]
    clear HW1
    go_wp2_with fail
    refine Calls.mono C3.out ?_
    intro e w2 hp
    obtain ⟨rfl, hd⟩ := doc3 HK.out.1 AL.out.1 B1.out.2 B1.out.1 hp
    rw [HK.out.2] at hd ⊢
    have DP : Hid (DocPost R w Q i l o (.returned (.int .i64 SE)) w2) := hd
    clear hp hd C3
    go_wp2_with fail
    refine Calls.mono (NU.out _ _) ?_
    rintro e wz ⟨rfl, hwz⟩
    subst wz
    go_wp2
    go_ret
    exact DP.out
  by_cases m4 : K = 4
  · subst m4
    clear C1 C2 C3 C5
    go_enter Tryz.func27, Tryz.ntmps27
    go_upto_region 1 with fail
    rw [← HW1.out.1, HW1.out.2]
    clear HW1
    go_wp2_with fail
    refine Calls.mono C4.out ?_
    intro e w2 hp
    obtain ⟨rfl, hd⟩ := doc4 HK.out.1 AL.out.1 HON.out B1.out.2 B1.out.1 hp
    rw [HK.out.2] at hd ⊢
    have DP : Hid (DocPost R w Q i l o (.returned (.int .i64 SE)) w2) := hd
    clear hp hd C4
    go_wp2_with fail
    refine Calls.mono (NU.out _ _) ?_
    rintro e wz ⟨rfl, hwz⟩
    subst wz
    go_wp2
    go_ret
    exact DP.out
  by_cases m5 : K = 5
  · subst m5
    clear C1 C2 C3 C4
    go_enter Tryz.func27, Tryz.ntmps27
    go_upto_region 1 with fail
    rw [← HW1.out.1, HW1.out.2]
    clear HW1
    go_wp2_with fail
    refine Calls.mono C5.out ?_
    intro e w2 hp
    obtain ⟨rfl, hd⟩ := doc5 HK.out.1 AL.out.1 (fun q hq => (AL.out.2.ps q hq).2.2.1) B1.out.2 B1.out.1 hp
    rw [HK.out.2] at hd ⊢
    have DP : Hid (DocPost R w Q i l o (.returned (.int .i64 SE)) w2) := hd
    clear hp hd C5
    go_wp2_with fail
    refine Calls.mono (NU.out _ _) ?_
    rintro e wz ⟨rfl, hwz⟩
    subst wz
    go_wp2
    go_ret
    exact DP.out
  have DP : Hid (DocPost R w Q i l o (.returned (.int .i64 0)) w1) := by
    have hk := HK.out.1
    have e1 : sayE l o = 0 := by unfold sayE; rw [if_neg (by omega), if_neg (by omega), if_neg (by omega), if_neg (by omega), if_neg (by omega)]
    have e2 : sayL l o = l := by unfold sayL; rw [if_neg (by omega), if_neg (by omega), if_neg (by omega), if_neg (by omega), if_neg (by omega)]
    unfold DocPost
    rw [e1, e2]
    exact ⟨xs, D, rfl, AL.out.1.mono (by omega), SM.out⟩
  have n1 : (K == 1) = false := by simpa using m1
  have n2 : (K == 2) = false := by simpa using m2
  have n3 : (K == 3) = false := by simpa using m3
  have n4 : (K == 4) = false := by simpa using m4
  have n5 : (K == 5) = false := by simpa using m5
  clear C1 C2 C3 C4 C5
  go_enter Tryz.func27, Tryz.ntmps27
  go_upto_region 1 with fail
  rw [← HW1.out.1, HW1.out.2]
  clear HW1
  go_wp2
  go_ret
  exact DP.out
end Go.Proofs.YtkejjiilcoacfaaGreat

namespace Go.Proofs.YtkejjiilcoacfaaGreat
open Go.Maps Go.RowKit Go.WideMaps

/-- Two answers of one stack are the same. -/
theorem told_same {W : World} {l : List Sa} {i : Nat} (hg : Good i 1048576 l) (hi : i ≤ 1000000) {a b p q : Option Addr} {n k n2 k2 : Nat} {ts us : List HyC} {m m2 : List Pp} (h1 : ScopeL W l a p n k ts m) (h2 : ScopeL W l b q n2 k2 us m2) (c d c2 d2 : Nat) : Calls Tryz.prog 19 #[.agg #[.slice a n c, .slice p k d], .agg #[.slice b n2 c2, .slice q k2 d2]] W fun e w' => e = .returned (.bool true) ∧ Below W.heap.size W w' := by
  have en : n = n2 := by
    have e1 := congrArg List.length h1.h
    have e2 := congrArg List.length h2.h
    rw [List.length_map, h1.n] at e1
    rw [List.length_map, h2.n] at e2
    omega
  have em : m = m2 := norm_one h1.nm h2.nm
  subst em
  have ek : k = k2 := by rw [← h1.k, h2.k]
  subst en
  subst ek
  obtain ⟨f1, f2, f3⟩ := h1.few hg hi
  exact sameScope_t W a b p q n k c d c2 d2 ts us m h1.n f1 f3 (h1.h.trans h2.h.symm) h1.ha h2.ha h1.k f2 h1.hp h2.hp
/-- What a goal needs, in blocks from N on. -/
structure FrameT (N : Nat) (W : World) (l : List Sa) (m : List Pp) (goal : List Int) (a p g : Option Addr) (n c k d z f : Nat) (us : List HyC) : Prop where
  zl : us.length = n
  zk : (needQ (hypsA l) goal m).length = k
  zz : goal.length = z
  zh : us.map (·.h) = needH (hypsA l) goal
  zt : W.ownsRow N 61 4 (.slice a n c) n (rowHy us)
  ze : ∀ y ∈ us, W.ownsRow N 3 1 y.ve y.h.ex.length (rowN y.h.ex)
  zp : W.ownsRow N 64 2 (.slice p k d) k (rowQ (needQ (hypsA l) goal m))
  zg : W.ownsRow N 3 1 (.slice g z f) z (rowN goal)
theorem FrameT.ch {N : Nat} {W W' : World} {l : List Sa} {m : List Pp} {goal : List Int} {a p g : Option Addr} {n c k d z f : Nat} {us : List HyC} {X : Nat → Prop} (h : FrameT N W l m goal a p g n c k d z f us) (hc : M.Ch X W W') (hX : ∀ b, X b → b < N) : FrameT N W' l m goal a p g n c k d z f us := by
  have no : ∀ b, N ≤ b → ¬ X b := fun b h1 h2 => by have := hX b h2; omega
  exact ⟨h.zl, h.zk, h.zz, h.zh, M.owns_ch h.zt hc fun b e => no b (M.own_ge' h.zt b e), fun y hy => M.owns_ch (h.ze y hy) hc fun b e => no b (M.own_ge' (h.ze y hy) b e), M.owns_ch h.zp hc fun b e => no b (M.own_ge' h.zp b e), M.owns_ch h.zg hc fun b e => no b (M.own_ge' h.zg b e)⟩
theorem FrameT.below {N : Nat} {W W' : World} {l : List Sa} {m : List Pp} {goal : List Int} {a p g : Option Addr} {n c k d z f : Nat} {us : List HyC} (h : FrameT N W l m goal a p g n c k d z f us) (hb : Below W.heap.size W W') : FrameT N W' l m goal a p g n c k d z f us := h.ch (M.Ch.of_below (X := fun _ => False) hb) fun _ e => e.elim
def FrameTPost (w : World) (l : List Sa) (m : List Pp) (goal : List Int) (e : Ending) (w' : World) : Prop := Below w.heap.size w w' ∧ ((judgeE l goal ≠ 0 ∧ e = .returned (.tuple #[zeroFr, .int .i64 (judgeE l goal)])) ∨ (judgeE l goal = 0 ∧ ∃ a n c p k d g z f us, e = .returned (.tuple #[.agg #[.slice a n c, .slice p k d, .slice g z f], .int .i64 0]) ∧ FrameT w.heap.size w' l m goal a p g n c k d z f us))
theorem frame_t {N i : Nat} {w : World} {P : Nat} {l : List Sa} (h : StA N w P l) (hg : Good i 1048576 l) (hi : i ≤ 1000000) {m : List Pp} (hm : IsNorm (apsA l) m) (a0 : Option Addr) (n0 c0 : Nat) (goal : List Int) (hl : goal.length = n0) (hle : n0 ≤ 1048576) (hA : NsAt w a0 goal) (hw : ∀ x ∈ goal, wfN x) :
    Calls Tryz.prog 17 #[.pointer (some ⟨P, 0, none⟩), .slice a0 n0 c0] w (FrameTPost w l m goal) :=
  (frame_st h (hg.ok hi (by omega)) a0 n0 c0 goal hl hA hw (by have := hg.ess hi (by omega); omega)).mono fun e w' ⟨hb, hc⟩ => by
    rcases hc with ⟨h0, rfl⟩ | ⟨h0, vh, vp, vg, ts, mv, m', rfl, hf⟩
    · exact ⟨hb, .inl ⟨h0, rfl⟩⟩
    · obtain ⟨a, c, rfl, _, ha⟩ := hf.t.at
      obtain ⟨p, d, rfl, _⟩ := own_shape hf.p
      obtain ⟨g, f, rfl, _, hgn⟩ := own_ns hf.g
      have e2 := need_pairs hg hf.v hm hf.n
      refine ⟨hb, .inr ⟨h0, a, _, c, p, _, d, g, _, f, ts, rfl, rfl, by rw [← e2], rfl, hf.h.trans (need_hyps hg hf.v), hf.t.own, hf.t.e, ?_, hf.g⟩⟩
      rw [← e2]
      exact hf.p
theorem RScope.law {W : World} {i D : Nat} {l : List Sa} {xs : List Sd} {a p : Option Addr} {n k : Nat} {ts : List HyC} {m : List Pp} (h : RScope W xs a p n k ts m) (ha : Alike i l xs D) (hps : ∀ q ∈ apsA l, q.1 < q.2) : ScopeL W l a p n k ts m := ⟨h.zn, h.zk, h.zh.trans ha.hyps, ha.norm hps h.zm, h.ha, h.hp⟩
set_option maxRecDepth 100000 in
set_option maxHeartbeats 32000000 in
theorem asks_any (w : World) (R : Nat → Prop) (Nb P Q i D : Nat) (l : List Sa) (xs : List Sd) (o : OpA) (a : Option Addr) (n c : Nat) (hS : StA Nb w P l) (_ : Nb ≤ w.heap.size) (h : RfO R w Q xs D) (ha : Alike i l xs D) (hg : Good i 1048576 l) (hi : i ≤ 1000000) (ho : OpOk 1048576 o) (hn : o.e.length = n) (hE : NsAt w a o.e) :
    Calls Tryz.prog 28 #[.pointer (some ⟨P, 0, none⟩), .pointer (some ⟨Q, 0, none⟩), .agg #[.int .i64 o.k, .string o.lab, .int .i64 o.a, .int .i64 o.b, .slice a n c]] w fun e w' => e = .returned (.bool true) ∧ Below w.heap.size w w' := by
  have hx : xs.length ≤ 1000000000 := by have := ha.n; omega
  have hex : ∀ x ∈ xs, x.h.ex.length ≤ 17592186043904 := fun x hx => by have := ha.e x hx; omega
  have hps : ∀ q ∈ apsA l, q.1 < q.2 := fun q hq => (hg.ps q hq).2.2.1
  obtain ⟨w1, hw1⟩ : ∃ w1, w1 = w.alloc (.cells #[.int .i64 o.k, .string o.lab, .int .i64 o.a, .int .i64 o.b, .slice a n c] 45) := ⟨_, rfl⟩
  obtain ⟨T, hT⟩ : ∃ T, w.heap.size = T := ⟨_, rfl⟩
  have HW1 : Hid (w1 = w.alloc (.cells #[.int .i64 o.k, .string o.lab, .int .i64 o.a, .int .i64 o.b, .slice a n c] 45) ∧ w.heap.size = T) := ⟨hw1, hT⟩
  have b1 : Below w.heap.size w w1 := by rw [hw1]; exact fr_below_alloc _ _
  have k1 : w1.heap[T]? = some (.cells #[.int .i64 o.k, .string o.lab, .int .i64 o.a, .int .i64 o.b, .slice a n c] 45 (0, 0)) := by rw [hw1, ← hT]; exact heap_alloc_new w _
  have B1 : Hid (Below w.heap.size w w1) := b1
  have CE : Hid (∀ W, Below w1.heap.size w1 W → W.cell? ⟨T, 3, none⟩ = some (.int .i64 o.b) ∧ W.cell? ⟨T, 4, none⟩ = some (.slice a n c)) := fun W hW => by
    have h2 := (hW.block T (Array.getElem?_eq_some_iff.1 k1).1).trans k1
    exact ⟨M.cell_whole h2 3, M.cell_whole h2 4⟩
  have x0 := M.cell_whole k1 0
  simp only [List.getElem?_toArray, List.getElem?_cons_zero] at x0
  have NU : Hid (∀ n wx, Calls Tryz.prog 11 #[.int .i64 n] wx fun e w' => e = .returned (.int .i64 n) ∧ w' = wx) := fun n wx => num_any wx n
  have AL : Hid (Alike i l xs D ∧ Good i 1048576 l ∧ i ≤ 1000000 ∧ (∀ q ∈ apsA l, q.1 < q.2) ∧ xs.length ≤ 1000000000 ∧ ∀ x ∈ xs, x.h.ex.length ≤ 17592186043904) := ⟨ha, hg, hi, hps, hx, hex⟩
  have ST : Hid (StA Nb w1 P l ∧ RfO R w1 Q xs D ∧ NsAt w1 a o.e ∧ o.e.length = n ∧ OpOk 1048576 o) := ⟨hS.below b1, h.below b1, hE.under b1, hn, ho⟩
  obtain ⟨K, hK⟩ : ∃ K, o.k = K := ⟨_, rfl⟩
  rw [hK] at x0 HW1 ⊢
  clear hw1 hT b1 k1 ha hg ho hE h hn hx hex hps hi hS hK
  by_cases m1 : K = 6
  · subst m1
    have C1 : Hid _ := type_st ST.out.1 AL.out.2.1 o.b ST.out.2.2.2.2.b
    have C2 : Hid (∀ W, Below w1.heap.size w1 W → _) := fun W hW => rtype_any W R Q xs D o.b (ST.out.2.1.below hW) AL.out.2.2.2.2.1
    simp only [AL.out.1.ty] at C2
    obtain ⟨tv, htv⟩ : ∃ tv, (tyA l o.b).getD 0 = tv := ⟨_, rfl⟩
    obtain ⟨tb, htb⟩ : ∃ tb, (tyA l o.b).isSome = tb := ⟨_, rfl⟩
    rw [htv, htb] at C1
    simp only [htv, htb] at C2
    clear htv htb
    obtain ⟨q3, q4⟩ := CE.out w1 (Below.refl _ _)
    go_enter Tryz.func28, Tryz.ntmps28
    go_upto_region 1 with fail
    rw [← HW1.out.1, HW1.out.2]
    clear HW1
    go_wp2_with fail
    refine Calls.mono C1.out ?_
    rintro e w2 ⟨rfl, hb2⟩
    have B2 : Hid (Below w1.heap.size w1 w2) := hb2
    clear hb2 q3 q4 x0 C1
    obtain ⟨q3, q4⟩ := CE.out w2 B2.out
    go_wp2_with fail
    refine Calls.mono (C2.out _ B2.out) ?_
    rintro e w3 ⟨rfl, hb3⟩
    have B3 : Hid (Below w.heap.size w w3) := B1.out.trans ((B2.out.trans (hb3.mono B2.out.size)).mono B1.out.size)
    clear hb3 C2 q3 q4
    go_wp2
    go_ret
    exact ⟨by cases tb <;> simp, B3.out⟩
  by_cases m2 : K = 7
  · subst m2
    have n6 : ¬ (7 : Int) = 6 := by decide
    have C1 : Hid _ := scope_law ST.out.1 AL.out.2.1 AL.out.2.2.1
    have C2 : Hid (∀ W, Below w1.heap.size w1 W → _) := fun W hW => rscope_any W R Q xs D (ST.out.2.1.below hW) AL.out.2.2.2.2.1 AL.out.2.2.2.2.2
    go_enter Tryz.func28, Tryz.ntmps28
    go_upto_region 1 with fail
    rw [← HW1.out.1, HW1.out.2]
    clear HW1
    go_wp2_with fail
    refine Calls.mono C1.out ?_
    rintro e w2 ⟨hb2, a2, n2, c2, p2, k2, d2, ts2, m2, rfl, hs2⟩
    have B2 : Hid (Below w1.heap.size w1 w2 ∧ ScopeL w2 l a2 p2 n2 k2 ts2 m2) := ⟨hb2, hs2⟩
    clear hb2 hs2 x0 C1
    go_wp2_with fail
    refine Calls.mono (C2.out _ B2.out.1) ?_
    rintro e w3 ⟨hb3, a3, n3, c3, p3, k3, d3, ts3, m3, rfl, hs3⟩
    have SAM : Hid _ := told_same AL.out.2.1 AL.out.2.2.1 (B2.out.2.under hb3) (hs3.law AL.out.1 AL.out.2.2.2.1) c2 d2 c3 d3
    have B3 : Hid (Below w.heap.size w w3) := B1.out.trans ((B2.out.1.trans (hb3.mono B2.out.1.size)).mono B1.out.size)
    clear hb3 hs3 C2
    go_wp2_with fail
    refine Calls.mono SAM.out ?_
    rintro e w4 ⟨rfl, hb4⟩
    have B4 : Hid (Below w.heap.size w w4) := B3.out.trans (hb4.mono B3.out.size)
    clear hb4 SAM
    go_wp2
    go_ret
    exact ⟨rfl, B4.out⟩
  by_cases m3 : K = 9
  · subst m3
    have n6 : ¬ (9 : Int) = 6 := by decide
    have n7 : ¬ (9 : Int) = 7 := by decide
    have n8 : ¬ (9 : Int) = 8 := by decide
    have C1 : Hid _ := depth_st ST.out.1 (by have := AL.out.2.1.n1; omega)
    rw [show (l.length : Int) - 1 = (D : Int) by have := AL.out.1.d; omega] at C1
    have C2 : Hid _ := rdepth_any w1 R Q xs D ST.out.2.1
    go_enter Tryz.func28, Tryz.ntmps28
    go_upto_region 1 with fail
    rw [← HW1.out.1, HW1.out.2]
    clear HW1
    go_wp2_with fail
    refine Calls.mono C1.out ?_
    rintro e wz ⟨rfl, hwz⟩
    subst wz
    go_wp2_with fail
    refine Calls.mono C2.out ?_
    rintro e wz ⟨rfl, hwz⟩
    subst wz
    go_wp2
    go_ret
    exact ⟨by simp, B1.out⟩
  by_cases m4 : K = 8
  · subst m4
    have n6 : ¬ (8 : Int) = 6 := by decide
    have n7 : ¬ (8 : Int) = 7 := by decide
    have C1 : Hid _ := rframe_any w1 R Q xs D a n c o.e ST.out.2.1 AL.out.2.2.2.2.1 AL.out.2.2.2.2.2 ST.out.2.2.2.1 (by have := ST.out.2.2.2.2.n; have := ST.out.2.2.2.1; omega) ST.out.2.2.1 ST.out.2.2.2.2.e
    obtain ⟨q3, q4⟩ := CE.out w1 (Below.refl _ _)
    go_enter Tryz.func28, Tryz.ntmps28
    go_upto_region 1 with fail
    rw [← HW1.out.1, HW1.out.2]
    clear HW1
    go_wp2_with fail
    refine Calls.mono C1.out ?_
    rintro e w3 ⟨hb3, hp3⟩
    have B3 : Hid (Below w1.heap.size w1 w3) := hb3
    rw [AL.out.1.typed] at hp3
    clear hb3 q3 q4 x0 C1
    obtain ⟨E, hE⟩ : ∃ E, judgeE l o.e = E := ⟨_, rfl⟩
    have HE : Hid (judgeE l o.e = E) := hE
    rw [hE] at hp3
    clear hE
    rcases hp3 with ⟨h0, rfl⟩ | ⟨h0, a2, n2, c2, p2, k2, d2, g2, z2, f2, us2, m2, rfl, hf⟩
    · unfold zeroFr
      obtain ⟨w4, hw4⟩ : ∃ w4, w4 = w3.alloc (.cells #[.slice none 0 0, .slice none 0 0, .slice none 0 0] 47) := ⟨_, rfl⟩
      obtain ⟨T11, hT11⟩ : ∃ T11, w3.heap.size = T11 := ⟨_, rfl⟩
      have HW4 : Hid (w4 = w3.alloc (.cells #[.slice none 0 0, .slice none 0 0, .slice none 0 0] 47) ∧ w3.heap.size = T11) := ⟨hw4, hT11⟩
      have b4 : Below w3.heap.size w3 w4 := by rw [hw4]; exact fr_below_alloc _ _
      have K4 : Hid (w4.heap[T11]? = some (.cells #[.slice none 0 0, .slice none 0 0, .slice none 0 0] 47 (0, 0))) := by rw [hw4, ← hT11]; exact heap_alloc_new w3 _
      have B4 : Hid (Below w1.heap.size w1 w4 ∧ Below w3.heap.size w3 w4) := ⟨B3.out.trans (b4.mono B3.out.size), b4⟩
      have LEN : Hid _ := lent_any w4 a n c o.e ST.out.2.2.2.1 (by have := ST.out.2.2.2.2.n; have := ST.out.2.2.2.1; omega) (ST.out.2.2.1.under B4.out.1)
      obtain ⟨q3, q4⟩ := CE.out w4 B4.out.1
      clear hw4 hT11 b4
      go_upto_region 10 with fail
      rw [← HW4.out.1, HW4.out.2]
      clear HW4
      go_wp2_with fail
      refine Calls.mono LEN.out ?_
      rintro e w5 ⟨L, cap, rfl, hL, hb5⟩
      have HL : Hid (LentAt w4.heap.size w5 L cap o.e) := hL
      have B5 : Hid (Below w1.heap.size w1 w5 ∧ Below w4.heap.size w4 w5) := ⟨B4.out.1.trans (hb5.mono B4.out.1.size), hb5⟩
      have FT : Hid _ := frame_st (ST.out.1.below B5.out.1) (AL.out.2.1.ok AL.out.2.2.1 (by omega)) (some ⟨L, 0, none⟩) n cap o.e ST.out.2.2.2.1 HL.out.ns ST.out.2.2.2.2.e (by have h1 := AL.out.2.1.ess AL.out.2.2.1 (by omega); have h2 := ST.out.2.2.2.2.n; omega)
      clear hL hb5 LEN q3 q4
      go_wp2_with fail
      refine Calls.mono FT.out ?_
      rintro e w6 ⟨hb6, hp6⟩
      have B6 : Hid (Below w5.heap.size w5 w6) := hb6
      rw [HE.out] at hp6
      clear hb6 FT
      have hq6 : e = .returned (.tuple #[zeroFr, .int .i64 E]) := by
        rcases hp6 with ⟨_, he⟩ | ⟨he, _⟩
        · exact he
        · exact absurd he h0
      subst hq6
      unfold zeroFr
      clear hp6
      obtain ⟨w7, hw7⟩ : ∃ w7, w7 = w6.alloc (.cells #[.slice none 0 0, .slice none 0 0, .slice none 0 0] 47) := ⟨_, rfl⟩
      obtain ⟨T14, hT14⟩ : ∃ T14, w6.heap.size = T14 := ⟨_, rfl⟩
      have HW7 : Hid (w7 = w6.alloc (.cells #[.slice none 0 0, .slice none 0 0, .slice none 0 0] 47) ∧ w6.heap.size = T14) := ⟨hw7, hT14⟩
      have b7 : Below w6.heap.size w6 w7 := by rw [hw7]; exact fr_below_alloc _ _
      have K7 : Hid (w7.heap[T14]? = some (.cells #[.slice none 0 0, .slice none 0 0, .slice none 0 0] 47 (0, 0))) := by rw [hw7, ← hT14]; exact heap_alloc_new w6 _
      have B7 : Hid (Below w5.heap.size w5 w7 ∧ Below w6.heap.size w6 w7 ∧ Below w1.heap.size w1 w7) := ⟨B6.out.trans (b7.mono B6.out.size), b7, B5.out.1.trans ((B6.out.trans (b7.mono B6.out.size)).mono B5.out.1.size)⟩
      have HL7 : Hid (LentAt w4.heap.size w7 L cap o.e) := ⟨M.owns_ch HL.out.own (M.Ch.of_below (X := fun _ => False) B7.out.1) fun _ _ e => e⟩
      have KEP : Hid _ := kept_t w7 w4.heap.size L cap a n c o.e HL7.out ST.out.2.2.2.1 (by have := ST.out.2.2.2.2.n; have := ST.out.2.2.2.1; omega) (ST.out.2.2.1.under B7.out.2.2)
      obtain ⟨q3, q4⟩ := CE.out w7 B7.out.2.2
      clear hw7 hT14 b7
      go_upto_region 12 with fail
      rw [← HW7.out.1, HW7.out.2]
      clear HW7
      go_wp2_with fail
      refine Calls.mono KEP.out ?_
      rintro e w8 ⟨rfl, hb8⟩
      have B8 : Hid (Below w5.heap.size w5 w8 ∧ Below w7.heap.size w7 w8) := ⟨B7.out.1.trans (hb8.mono B7.out.1.size), hb8⟩
      have HL8 : Hid (LentAt w4.heap.size w8 L cap o.e) := ⟨M.owns_ch HL7.out.own (M.Ch.of_below (X := fun _ => False) hb8) fun _ _ e => e⟩
      have WIP : Hid _ := wipe_any w8 w4.heap.size L cap n o.e HL8.out ST.out.2.2.2.1 (by have := ST.out.2.2.2.2.n; have := ST.out.2.2.2.1; omega)
      clear hb8 KEP q3 q4
      go_wp2_with fail
      refine Calls.mono WIP.out ?_
      rintro e w9 ⟨rfl, hc9⟩
      have hL4 : w4.heap.size ≤ L := M.own_ge' HL.out.own L rfl
      have hL5 : L < w5.heap.size := M.own_lt HL.out.own L rfl
      have k11 : w8.heap[T11]? = some (.cells #[.slice none 0 0, .slice none 0 0, .slice none 0 0] 47 (0, 0)) := by
        have h1 := (B5.out.2.block T11 (Array.getElem?_eq_some_iff.1 K4.out).1).trans K4.out
        exact (B8.out.1.block T11 (Array.getElem?_eq_some_iff.1 h1).1).trans h1
      have k14 : w8.heap[T14]? = some (.cells #[.slice none 0 0, .slice none 0 0, .slice none 0 0] 47 (0, 0)) := (B8.out.2.block T14 (Array.getElem?_eq_some_iff.1 K7.out).1).trans K7.out
      have K9 : Hid (w9.heap[T11]? = some (.cells #[.slice none 0 0, .slice none 0 0, .slice none 0 0] 47 (0, 0)) ∧ w9.heap[T14]? = some (.cells #[.slice none 0 0, .slice none 0 0, .slice none 0 0] 47 (0, 0))) := ⟨(hc9.block T11 (Array.getElem?_eq_some_iff.1 k11).1 fun e => own_ne HL8.out.own k11 (by decide) (by rw [e]; rfl)).trans k11, (hc9.block T14 (Array.getElem?_eq_some_iff.1 k14).1 fun e => own_ne HL8.out.own k14 (by decide) (by rw [e]; rfl)).trans k14⟩
      have hb49 : Below w4.heap.size w4 w9 := (B5.out.2.trans (B8.out.1.mono B5.out.2.size)).trans (hc9.below (Nat.le_trans B5.out.2.size B8.out.1.size) fun b e => by omega)
      have B9 : Hid (Below w.heap.size w w9) := (B1.out.trans (B4.out.1.mono B1.out.size)).trans (hb49.mono (Nat.le_trans B1.out.size B4.out.1.size))
      have SAM : Hid (Calls Tryz.prog 22 #[.agg #[.slice none 0 0, .slice none 0 0, .slice none 0 0], .agg #[.slice none 0 0, .slice none 0 0, .slice none 0 0]] w9 fun e w' => e = .returned (.bool true) ∧ Below w9.heap.size w9 w') := sameFrame_t w9 none none none none none none 0 0 0 0 0 0 0 0 0 [] [] [] [] rfl (by omega) (fun y hy => by cases hy) rfl (fun i y hy => by simp at hy) (fun i y hy => by simp at hy) rfl (by omega) (fun i y hy => by simp at hy) (fun i y hy => by simp at hy) rfl (by omega) (fun i y hy => by simp at hy) (fun i y hy => by simp at hy)
      have y0 := M.cell_whole K9.out.1 0
      have y1 := M.cell_whole K9.out.1 1
      have y2 := M.cell_whole K9.out.1 2
      have y3 := M.cell_whole K9.out.2 0
      have y4 := M.cell_whole K9.out.2 1
      have y5 := M.cell_whole K9.out.2 2
      simp only [List.getElem?_toArray, List.getElem?_cons_zero, List.getElem?_cons_succ] at y0 y1 y2 y3 y4 y5
      clear hc9 hL4 hL5 k11 k14 hb49 WIP
      go_wp2_with fail
      refine Calls.mono (NU.out _ _) ?_
      rintro e wz ⟨rfl, hwz⟩
      subst wz
      go_wp2_with fail
      refine Calls.mono (NU.out _ _) ?_
      rintro e wz ⟨rfl, hwz⟩
      subst wz
      go_wp2_with fail
      refine Calls.mono SAM.out ?_
      rintro e w10 ⟨rfl, hb10⟩
      have B10 : Hid (Below w.heap.size w w10) := B9.out.trans (hb10.mono B9.out.size)
      clear hb10 SAM
      go_wp2
      go_ret
      exact ⟨rfl, B10.out⟩
    · have RF : Hid (RFrame w3 xs o.e a2 p2 g2 n2 k2 z2 us2 m2) := hf
      subst h0
      clear hf
      obtain ⟨w4, hw4⟩ : ∃ w4, w4 = w3.alloc (.cells #[.slice a2 n2 c2, .slice p2 k2 d2, .slice g2 z2 f2] 47) := ⟨_, rfl⟩
      obtain ⟨T11, hT11⟩ : ∃ T11, w3.heap.size = T11 := ⟨_, rfl⟩
      have HW4 : Hid (w4 = w3.alloc (.cells #[.slice a2 n2 c2, .slice p2 k2 d2, .slice g2 z2 f2] 47) ∧ w3.heap.size = T11) := ⟨hw4, hT11⟩
      have b4 : Below w3.heap.size w3 w4 := by rw [hw4]; exact fr_below_alloc _ _
      have K4 : Hid (w4.heap[T11]? = some (.cells #[.slice a2 n2 c2, .slice p2 k2 d2, .slice g2 z2 f2] 47 (0, 0))) := by rw [hw4, ← hT11]; exact heap_alloc_new w3 _
      have B4 : Hid (Below w1.heap.size w1 w4 ∧ Below w3.heap.size w3 w4) := ⟨B3.out.trans (b4.mono B3.out.size), b4⟩
      have LEN : Hid _ := lent_any w4 a n c o.e ST.out.2.2.2.1 (by have := ST.out.2.2.2.2.n; have := ST.out.2.2.2.1; omega) (ST.out.2.2.1.under B4.out.1)
      obtain ⟨q3, q4⟩ := CE.out w4 B4.out.1
      clear hw4 hT11 b4
      go_upto_region 10 with fail
      rw [← HW4.out.1, HW4.out.2]
      clear HW4
      go_wp2_with fail
      refine Calls.mono LEN.out ?_
      rintro e w5 ⟨L, cap, rfl, hL, hb5⟩
      have HL : Hid (LentAt w4.heap.size w5 L cap o.e) := hL
      have B5 : Hid (Below w1.heap.size w1 w5 ∧ Below w4.heap.size w4 w5) := ⟨B4.out.1.trans (hb5.mono B4.out.1.size), hb5⟩
      have FT : Hid _ := frame_t (ST.out.1.below B5.out.1) AL.out.2.1 AL.out.2.2.1 (AL.out.1.norm AL.out.2.2.2.1 RF.out.zm) (some ⟨L, 0, none⟩) n cap o.e ST.out.2.2.2.1 (by have := ST.out.2.2.2.2.n; have := ST.out.2.2.2.1; omega) HL.out.ns ST.out.2.2.2.2.e
      clear hL hb5 LEN q3 q4
      go_wp2_with fail
      refine Calls.mono FT.out ?_
      rintro e w6 ⟨hb6, hp6⟩
      have B6 : Hid (Below w5.heap.size w5 w6) := hb6
      rw [HE.out] at hp6
      clear hb6 FT
      rcases hp6 with ⟨he, _⟩ | ⟨_, a6, n6, c6, p6, k6, d6, g6, z6, f6, us6, rfl, hf6⟩
      · exact absurd rfl he
      have F6 : Hid (FrameT w5.heap.size w6 l m2 o.e a6 p6 g6 n6 c6 k6 d6 z6 f6 us6) := hf6
      clear hf6
      obtain ⟨w7, hw7⟩ : ∃ w7, w7 = w6.alloc (.cells #[.slice a6 n6 c6, .slice p6 k6 d6, .slice g6 z6 f6] 47) := ⟨_, rfl⟩
      obtain ⟨T14, hT14⟩ : ∃ T14, w6.heap.size = T14 := ⟨_, rfl⟩
      have HW7 : Hid (w7 = w6.alloc (.cells #[.slice a6 n6 c6, .slice p6 k6 d6, .slice g6 z6 f6] 47) ∧ w6.heap.size = T14) := ⟨hw7, hT14⟩
      have b7 : Below w6.heap.size w6 w7 := by rw [hw7]; exact fr_below_alloc _ _
      have K7 : Hid (w7.heap[T14]? = some (.cells #[.slice a6 n6 c6, .slice p6 k6 d6, .slice g6 z6 f6] 47 (0, 0))) := by rw [hw7, ← hT14]; exact heap_alloc_new w6 _
      have B7 : Hid (Below w5.heap.size w5 w7 ∧ Below w6.heap.size w6 w7 ∧ Below w1.heap.size w1 w7) := ⟨B6.out.trans (b7.mono B6.out.size), b7, B5.out.1.trans ((B6.out.trans (b7.mono B6.out.size)).mono B5.out.1.size)⟩
      have HL7 : Hid (LentAt w4.heap.size w7 L cap o.e) := ⟨M.owns_ch HL.out.own (M.Ch.of_below (X := fun _ => False) B7.out.1) fun _ _ e => e⟩
      have KEP : Hid _ := kept_t w7 w4.heap.size L cap a n c o.e HL7.out ST.out.2.2.2.1 (by have := ST.out.2.2.2.2.n; have := ST.out.2.2.2.1; omega) (ST.out.2.2.1.under B7.out.2.2)
      obtain ⟨q3, q4⟩ := CE.out w7 B7.out.2.2
      clear hw7 hT14 b7
      go_upto_region 12 with fail
      rw [← HW7.out.1, HW7.out.2]
      clear HW7
      go_wp2_with fail
      refine Calls.mono KEP.out ?_
      rintro e w8 ⟨rfl, hb8⟩
      have B8 : Hid (Below w5.heap.size w5 w8 ∧ Below w7.heap.size w7 w8) := ⟨B7.out.1.trans (hb8.mono B7.out.1.size), hb8⟩
      have HL8 : Hid (LentAt w4.heap.size w8 L cap o.e) := ⟨M.owns_ch HL7.out.own (M.Ch.of_below (X := fun _ => False) hb8) fun _ _ e => e⟩
      have WIP : Hid _ := wipe_any w8 w4.heap.size L cap n o.e HL8.out ST.out.2.2.2.1 (by have := ST.out.2.2.2.2.n; have := ST.out.2.2.2.1; omega)
      clear hb8 KEP q3 q4
      go_wp2_with fail
      refine Calls.mono WIP.out ?_
      rintro e w9 ⟨rfl, hc9⟩
      have hL4 : w4.heap.size ≤ L := M.own_ge' HL.out.own L rfl
      have hL5 : L < w5.heap.size := M.own_lt HL.out.own L rfl
      have k11 : w8.heap[T11]? = some (.cells #[.slice a2 n2 c2, .slice p2 k2 d2, .slice g2 z2 f2] 47 (0, 0)) := by
        have h1 := (B5.out.2.block T11 (Array.getElem?_eq_some_iff.1 K4.out).1).trans K4.out
        exact (B8.out.1.block T11 (Array.getElem?_eq_some_iff.1 h1).1).trans h1
      have k14 : w8.heap[T14]? = some (.cells #[.slice a6 n6 c6, .slice p6 k6 d6, .slice g6 z6 f6] 47 (0, 0)) := (B8.out.2.block T14 (Array.getElem?_eq_some_iff.1 K7.out).1).trans K7.out
      have K9 : Hid (w9.heap[T11]? = some (.cells #[.slice a2 n2 c2, .slice p2 k2 d2, .slice g2 z2 f2] 47 (0, 0)) ∧ w9.heap[T14]? = some (.cells #[.slice a6 n6 c6, .slice p6 k6 d6, .slice g6 z6 f6] 47 (0, 0))) := ⟨(hc9.block T11 (Array.getElem?_eq_some_iff.1 k11).1 fun e => own_ne HL8.out.own k11 (by decide) (by rw [e]; rfl)).trans k11, (hc9.block T14 (Array.getElem?_eq_some_iff.1 k14).1 fun e => own_ne HL8.out.own k14 (by decide) (by rw [e]; rfl)).trans k14⟩
      have hb49 : Below w4.heap.size w4 w9 := (B5.out.2.trans (B8.out.1.mono B5.out.2.size)).trans (hc9.below (Nat.le_trans B5.out.2.size B8.out.1.size) fun b e => by omega)
      have B9 : Hid (Below w.heap.size w w9) := (B1.out.trans (B4.out.1.mono B1.out.size)).trans (hb49.mono (Nat.le_trans B1.out.size B4.out.1.size))
      have SAM : Hid (Calls Tryz.prog 22 #[.agg #[.slice a6 n6 c6, .slice p6 k6 d6, .slice g6 z6 f6], .agg #[.slice a2 n2 c2, .slice p2 k2 d2, .slice g2 z2 f2]] w9 fun e w' => e = .returned (.bool true) ∧ Below w9.heap.size w9 w') := (by
        have hf9 := ((F6.out.below B7.out.2.1).below B8.out.2).ch hc9 (fun b e => by omega)
        have hr9 : RFrame w9 xs o.e a2 p2 g2 n2 k2 z2 us2 m2 := by
          have hb39 : Below w3.heap.size w3 w9 := B4.out.2.trans (hb49.mono B4.out.2.size)
          exact ⟨RF.out.zn, RF.out.zk, RF.out.zz, RF.out.zh, RF.out.zm, RF.out.ha.under hb39, RF.out.hp.under hb39, RF.out.hg.under hb39⟩
        have hh := AL.out.1.hyps
        have zk2 := hr9.zk
        have zh2 := hr9.zh
        have hp2 := hr9.hp
        rw [hh] at zk2 zh2 hp2
        have en : n6 = n2 := by
          have h1 := congrArg List.length hf9.zh
          have h2 := congrArg List.length zh2
          rw [List.length_map, hf9.zl] at h1
          rw [List.length_map, hr9.zn] at h2
          omega
        have ek : k6 = k2 := by rw [← hf9.zk, zk2]
        have ez : z6 = z2 := by rw [← hf9.zz, hr9.zz]
        subst en
        subst ek
        subst ez
        have hnl : n6 ≤ 1048576 := by
          have h1 := congrArg List.length zh2
          rw [List.length_map, hr9.zn] at h1
          have h3 : (needH (hypsA l) o.e).length ≤ (hypsA l).length := List.length_filter_le _ _
          have := AL.out.2.1.hn
          have := AL.out.2.2.1
          omega
        have hkl : k6 ≤ 1048576 := by
          have h3 : (needQ (hypsA l) o.e m2).length ≤ m2.length := List.length_filter_le _ _
          have h4 := norm_few AL.out.2.1 (AL.out.1.norm AL.out.2.2.2.1 RF.out.zm)
          omega
        exact sameFrame_t w9 a6 a2 p6 p2 g6 g2 n6 k6 z6 c6 d6 c2 d2 f6 f2 us6 us2 (needQ (hypsA l) o.e m2) o.e hf9.zl hnl (fun y hy => by
          have h1 : y.h ∈ needH (hypsA l) o.e := by rw [← hf9.zh]; exact List.mem_map.2 ⟨y, hy, rfl⟩
          have h2 := (AL.out.2.1.wf _ (List.mem_filter.1 h1).1).2.2
          omega) (hf9.zh.trans zh2.symm) (rhys_of hf9.zt (fun y hy => M.owns_mono (hf9.ze y hy) (Nat.zero_le _)) hf9.zl) hr9.ha zk2 hkl (own_pairs hf9.zp) hp2 hr9.zz (by have h1 := ST.out.2.2.2.2.n; have h2 := hr9.zz; omega) (by obtain ⟨a', c', e, _, h1⟩ := own_ns hf9.zg; cases e; exact h1) hr9.hg)
      have y0 := M.cell_whole K9.out.1 0
      have y1 := M.cell_whole K9.out.1 1
      have y2 := M.cell_whole K9.out.1 2
      have y3 := M.cell_whole K9.out.2 0
      have y4 := M.cell_whole K9.out.2 1
      have y5 := M.cell_whole K9.out.2 2
      simp only [List.getElem?_toArray, List.getElem?_cons_zero, List.getElem?_cons_succ] at y0 y1 y2 y3 y4 y5
      clear hc9 hL4 hL5 k11 k14 hb49 WIP
      go_wp2_with fail
      refine Calls.mono (NU.out _ _) ?_
      rintro e wz ⟨rfl, hwz⟩
      subst wz
      go_wp2_with fail
      refine Calls.mono (NU.out _ _) ?_
      rintro e wz ⟨rfl, hwz⟩
      subst wz
      go_wp2_with fail
      refine Calls.mono SAM.out ?_
      rintro e w10 ⟨rfl, hb10⟩
      have B10 : Hid (Below w.heap.size w w10) := B9.out.trans (hb10.mono B9.out.size)
      clear hb10 SAM
      go_wp2
      go_ret
      exact ⟨rfl, B10.out⟩
  have n6 : (K == 6) = false := by simpa using m1
  have n7 : (K == 7) = false := by simpa using m2
  have n8 : (K == 8) = false := by simpa using m4
  have n9 : (K == 9) = false := by simpa using m3
  go_enter Tryz.func28, Tryz.ntmps28
  go_upto_region 1 with fail
  rw [← HW1.out.1, HW1.out.2]
  clear HW1
  go_wp2
  go_ret
  exact ⟨rfl, B1.out⟩
end Go.Proofs.YtkejjiilcoacfaaGreat

namespace Go.Proofs.YtkejjiilcoacfaaGreat
open Go.Maps Go.RowKit Go.WideMaps

set_option maxRecDepth 100000 in
set_option maxHeartbeats 8000000 in
theorem rnew_any (w : World) : Calls Tryz.prog 26 #[.agg #[.bool false, .slice none 0 0, .int .i64 100, .bool true, .int .i64 0, .int .i64 0, .slice none 0 0]] w fun e w' => ∃ Q, e = .returned (.pointer (some ⟨Q, 0, none⟩)) ∧ RfO (fun g => w.heap.size ≤ g ∧ g < w'.heap.size) w' Q [] 0 ∧ Below w.heap.size w w' := by
  obtain ⟨w1, hw1⟩ : ∃ w1, w1 = w.alloc (.cells #[.bool false, .slice none 0 0, .int .i64 100, .bool true, .int .i64 0, .int .i64 0, .slice none 0 0] 71) := ⟨_, rfl⟩
  obtain ⟨T, hT⟩ : ∃ T, w.heap.size = T := ⟨_, rfl⟩
  obtain ⟨w2, hw2⟩ : ∃ w2, w2 = w1.alloc (.cells #[.bool false, .slice none 0 0, .int .i64 100, .bool true, .int .i64 0, .int .i64 0, .slice none 0 0, .slice none 0 0, .int .i64 0] 112) := ⟨_, rfl⟩
  have s1 : w1.heap.size = T + 1 := by rw [hw1, al_size, hT]
  have s2 : w2.heap.size = T + 2 := by rw [hw2, al_size, s1]
  have HW1 : Hid (w1 = w.alloc (.cells #[.bool false, .slice none 0 0, .int .i64 100, .bool true, .int .i64 0, .int .i64 0, .slice none 0 0] 71) ∧ w.heap.size = T) := ⟨hw1, hT⟩
  have HW2 : Hid (w2 = w1.alloc (.cells #[.bool false, .slice none 0 0, .int .i64 100, .bool true, .int .i64 0, .int .i64 0, .slice none 0 0, .slice none 0 0, .int .i64 0] 112) ∧ w1.heap.size = T + 1) := ⟨hw2, s1⟩
  have k1 : w1.heap[T]? = some (.cells #[.bool false, .slice none 0 0, .int .i64 100, .bool true, .int .i64 0, .int .i64 0, .slice none 0 0] 71 (0, 0)) := by rw [hw1, ← hT]; exact heap_alloc_new w _
  have k2 : w2.heap[T + 1]? = some (.cells #[.bool false, .slice none 0 0, .int .i64 100, .bool true, .int .i64 0, .int .i64 0, .slice none 0 0, .slice none 0 0, .int .i64 0] 112 (0, 0)) := by rw [hw2, ← s1]; exact heap_alloc_new w1 _
  have b1 : Below w.heap.size w w1 := by rw [hw1]; exact fr_below_alloc _ _
  have b2 : Below w1.heap.size w1 w2 := by rw [hw2]; exact fr_below_alloc _ _
  have FIN : Hid (RfO (fun g => w.heap.size ≤ g ∧ g < w2.heap.size) w2 (T + 1) [] 0 ∧ Below w.heap.size w w2) := ⟨⟨_, k2, ⟨by omega, by omega⟩, World.ownsRow_nil _ _ _ _, fun g e => (by cases e), (fun x hx => by cases hx), fun g e => e.2⟩, b1.trans (b2.mono b1.size)⟩
  have x0 := M.cell_whole k1 0
  have x1 := M.cell_whole k1 1
  have x2 := M.cell_whole k1 2
  have x3 := M.cell_whole k1 3
  have x4 := M.cell_whole k1 4
  have x5 := M.cell_whole k1 5
  have x6 := M.cell_whole k1 6
  simp only [List.getElem?_toArray, List.getElem?_cons_zero, List.getElem?_cons_succ] at x0 x1 x2 x3 x4 x5 x6
  clear hw1 hT hw2 s1 s2 k1 k2 b1 b2
  go_enter Tryz.func26, Tryz.ntmps26
  go_upto_region 1 with fail
  rw [← HW1.out.1, HW1.out.2]
  clear HW1
  go_wp2_with fail
  rw [← HW2.out.1, HW2.out.2]
  go_ret
  exact ⟨_, rfl, FIN.out⟩
theorem Good.rise {n m B : Nat} {l : List Sa} (h : Good n B l) (hm : n ≤ m) : Good m B l := ⟨h.n0, h.n1, Nat.le_trans h.hn hm, h.fl, h.wf, h.es, h.un, h.ps, h.pn⟩
structure Scr (O1 R1 O2 R2 : Nat → Prop) (T5 T6 : Nat) (c5 c6 : Array Value) (w W : World) (P1 Q1 P2 Q2 : Nat) (l1 : List Sa) (x1 : List Sd) (D1 : Nat) (l2 : List Sa) (x2 : List Sd) (D2 : Nat) : Prop where
  s1 : StO O1 W P1 l1
  r1 : RfO R1 W Q1 x1 D1
  s2 : StO O2 W P2 l2
  r2 : RfO R2 W Q2 x2 D2
  a1 : ∀ g, O1 g → ¬ R1 g
  a2 : ∀ g, O1 g → ¬ O2 g
  a3 : ∀ g, O1 g → ¬ R2 g
  a4 : ∀ g, R1 g → ¬ O2 g
  a5 : ∀ g, R1 g → ¬ R2 g
  a6 : ∀ g, O2 g → ¬ R2 g
  n : ∀ g, (O1 g ∨ R1 g ∨ O2 g ∨ R2 g) → w.heap.size ≤ g ∧ g ≠ T5 ∧ g ≠ T6
  k5 : W.heap[T5]? = some (.cells c5 66 (0, 0))
  k6 : W.heap[T6]? = some (.cells c6 72 (0, 0))
  b : Below w.heap.size w W
def Scr4 (T5 T6 : Nat) (c5 c6 : Array Value) (w W : World) (P1 Q1 P2 Q2 : Nat) (l1 : List Sa) (x1 : List Sd) (D1 : Nat) (l2 : List Sa) (x2 : List Sd) (D2 : Nat) : Prop := ∃ O1 R1 O2 R2, Scr O1 R1 O2 R2 T5 T6 c5 c6 w W P1 Q1 P2 Q2 l1 x1 D1 l2 x2 D2
section
variable {T5 T6 : Nat} {c5 c6 : Array Value} {w W : World} {P1 Q1 P2 Q2 : Nat} {l1 l2 : List Sa} {x1 x2 : List Sd} {D1 D2 : Nat}
theorem Scr4.swap (h : Scr4 T5 T6 c5 c6 w W P1 Q1 P2 Q2 l1 x1 D1 l2 x2 D2) : Scr4 T5 T6 c5 c6 w W P2 Q2 P1 Q1 l2 x2 D2 l1 x1 D1 := by
  obtain ⟨O1, R1, O2, R2, h⟩ := h
  exact ⟨O2, R2, O1, R1, h.s2, h.r2, h.s1, h.r1, h.a6, fun g a b => h.a2 g b a, fun g a b => h.a4 g b a, fun g a b => h.a3 g b a, fun g a b => h.a5 g b a, h.a1, fun g e => h.n g (by rcases e with e | e | e | e; exact .inr (.inr (.inl e)); exact .inr (.inr (.inr e)); exact .inl e; exact .inr (.inl e)), h.k5, h.k6, h.b⟩
theorem Scr4.below {W' : World} (h : Scr4 T5 T6 c5 c6 w W P1 Q1 P2 Q2 l1 x1 D1 l2 x2 D2) (hb : Below W.heap.size W W') : Scr4 T5 T6 c5 c6 w W' P1 Q1 P2 Q2 l1 x1 D1 l2 x2 D2 := by
  obtain ⟨O1, R1, O2, R2, h⟩ := h
  exact ⟨O1, R1, O2, R2, h.s1.below hb, h.r1.below hb, h.s2.below hb, h.r2.below hb, h.a1, h.a2, h.a3, h.a4, h.a5, h.a6, h.n, (hb.block T5 (Array.getElem?_eq_some_iff.1 h.k5).1).trans h.k5, (hb.block T6 (Array.getElem?_eq_some_iff.1 h.k6).1).trans h.k6, h.b.trans (hb.mono h.b.size)⟩
theorem Scr4.b (h : Scr4 T5 T6 c5 c6 w W P1 Q1 P2 Q2 l1 x1 D1 l2 x2 D2) : Below w.heap.size w W := by
  obtain ⟨O1, R1, O2, R2, h⟩ := h
  exact h.b
theorem Scr4.k5 (h : Scr4 T5 T6 c5 c6 w W P1 Q1 P2 Q2 l1 x1 D1 l2 x2 D2) : W.heap[T5]? = some (.cells c5 66 (0, 0)) := by
  obtain ⟨O1, R1, O2, R2, h⟩ := h
  exact h.k5
theorem Scr4.k6 (h : Scr4 T5 T6 c5 c6 w W P1 Q1 P2 Q2 l1 x1 D1 l2 x2 D2) : W.heap[T6]? = some (.cells c6 72 (0, 0)) := by
  obtain ⟨O1, R1, O2, R2, h⟩ := h
  exact h.k6
/-- The document's first stack turns. -/
theorem Scr.turnR {O1 R1 O2 R2 : Nat → Prop} {W' : World} {x1' : List Sd} {D1' : Nat} (h : Scr O1 R1 O2 R2 T5 T6 c5 c6 w W P1 Q1 P2 Q2 l1 x1 D1 l2 x2 D2) (hr : RfO (More R1 W W') W' Q1 x1' D1') (hc : M.Ch R1 W W') : Scr4 T5 T6 c5 c6 w W' P1 Q1 P2 Q2 l1 x1' D1' l2 x2 D2 := by
  have hb := h.b.size
  have l1 := h.s1.lt
  have l2 := h.s2.lt
  have l3 := h.r2.lt
  have t5 := (Array.getElem?_eq_some_iff.1 h.k5).1
  have t6 := (Array.getElem?_eq_some_iff.1 h.k6).1
  refine ⟨O1, More R1 W W', O2, R2, h.s1.ch hc fun g a b => h.a1 g a b, hr, h.s2.ch hc fun g a b => h.a4 g b a, h.r2.ch hc fun g a b => h.a5 g b a, fun g a e => ?_, h.a2, h.a3, fun g e a => ?_, fun g e a => ?_, h.a6, fun g e => ?_, (hc.block T5 t5 fun e => (h.n T5 (.inr (.inl e))).2.1 rfl).trans h.k5, (hc.block T6 t6 fun e => (h.n T6 (.inr (.inl e))).2.2 rfl).trans h.k6, h.b.trans (hc.below hb fun g e => (h.n g (.inr (.inl e))).1)⟩
  · rcases e with e | e
    · exact h.a1 g a e
    · have := l1 g a; omega
  · rcases e with e | e
    · exact h.a4 g e a
    · have := l2 g a; omega
  · rcases e with e | e
    · exact h.a5 g e a
    · have := l3 g a; omega
  · rcases e with e | e | e | e
    · exact h.n g (.inl e)
    · rcases e with e | e
      · exact h.n g (.inr (.inl e))
      · exact ⟨by omega, by omega, by omega⟩
    · exact h.n g (.inr (.inr (.inl e)))
    · exact h.n g (.inr (.inr (.inr e)))
/-- The program's first stack turns. -/
theorem Scr.turnS {O1 R1 O2 R2 : Nat → Prop} {W' : World} {l1' : List Sa} (h : Scr O1 R1 O2 R2 T5 T6 c5 c6 w W P1 Q1 P2 Q2 l1 x1 D1 l2 x2 D2) (hr : StO (More O1 W W') W' P1 l1') (hc : M.Ch O1 W W') : Scr4 T5 T6 c5 c6 w W' P1 Q1 P2 Q2 l1' x1 D1 l2 x2 D2 := by
  have hb := h.b.size
  have l1 := h.r1.lt
  have l2 := h.s2.lt
  have l3 := h.r2.lt
  have t5 := (Array.getElem?_eq_some_iff.1 h.k5).1
  have t6 := (Array.getElem?_eq_some_iff.1 h.k6).1
  refine ⟨More O1 W W', R1, O2, R2, hr, h.r1.ch hc fun g a b => h.a1 g b a, h.s2.ch hc fun g a b => h.a2 g b a, h.r2.ch hc fun g a b => h.a3 g b a, fun g e a => ?_, fun g e a => ?_, fun g e a => ?_, h.a4, h.a5, h.a6, fun g e => ?_, (hc.block T5 t5 fun e => (h.n T5 (.inl e)).2.1 rfl).trans h.k5, (hc.block T6 t6 fun e => (h.n T6 (.inl e)).2.2 rfl).trans h.k6, h.b.trans (hc.below hb fun g e => (h.n g (.inl e)).1)⟩
  · rcases e with e | e
    · exact h.a1 g e a
    · have := l1 g a; omega
  · rcases e with e | e
    · exact h.a2 g e a
    · have := l2 g a; omega
  · rcases e with e | e
    · exact h.a3 g e a
    · have := l3 g a; omega
  · rcases e with e | e | e | e
    · rcases e with e | e
      · exact h.n g (.inl e)
      · exact ⟨by omega, by omega, by omega⟩
    · exact h.n g (.inr (.inl e))
    · exact h.n g (.inr (.inr (.inl e)))
    · exact h.n g (.inr (.inr (.inr e)))
/-- A step said to the document's first stack. -/
theorem sc_doc {i : Nat} (h : Scr4 T5 T6 c5 c6 w W P1 Q1 P2 Q2 l1 x1 D1 l2 x2 D2) (ha : Alike i l1 x1 D1) (hg : Good i 1048576 l1) (hi : i ≤ 1000000) (x : OpC) (hx : OpOk 1048576 x.o) (hE : NsAt w x.ea x.o.e) (n : Nat) (hn : x.o.e.length = n) :
    Calls Tryz.prog 27 #[.pointer (some ⟨Q1, 0, none⟩), .agg #[.int .i64 x.o.k, .string x.o.lab, .int .i64 x.o.a, .int .i64 x.o.b, .slice x.ea n x.ec]] W fun e W' => ∃ x1' D1', e = .returned (.int .i64 (sayE l1 x.o)) ∧ Alike (i + 1) (sayL l1 x.o) x1' D1' ∧ Scr4 T5 T6 c5 c6 w W' P1 Q1 P2 Q2 l1 x1' D1' l2 x2 D2 := by
  obtain ⟨O1, R1, O2, R2, h⟩ := h
  exact (doc_any W R1 Q1 i D1 l1 x1 x.o x.ea n x.ec h.r1 ha hg hi hx hn (hE.under h.b)).mono fun e W' ⟨x1', D1', he, hal, hr, hc⟩ => ⟨x1', D1', he, hal, h.turnR hr hc⟩
/-- A step said to the program's first stack. -/
theorem sc_says {i : Nat} (h : Scr4 T5 T6 c5 c6 w W P1 Q1 P2 Q2 l1 x1 D1 l2 x2 D2) (hg : Good i 1048576 l1) (hi : i ≤ 1000000) (x : OpC) (hx : OpOk 1048576 x.o) (hlab : x.o.lab.size ≤ 281474976710656) (hE : NsAt w x.ea x.o.e) (n : Nat) (hn : x.o.e.length = n) :
    Calls Tryz.prog 16 #[.pointer (some ⟨P1, 0, none⟩), .agg #[.int .i64 x.o.k, .string x.o.lab, .int .i64 x.o.a, .int .i64 x.o.b, .slice x.ea n x.ec]] W fun e W' => e = .returned (.tuple #[.int .i64 (sayE l1 x.o), .bool true]) ∧ Scr4 T5 T6 c5 c6 w W' P1 Q1 P2 Q2 (sayL l1 x.o) x1 D1 l2 x2 D2 := by
  obtain ⟨O1, R1, O2, R2, h⟩ := h
  exact (says_so h.s1 (hg.ok hi (by omega)) x.o hx hlab x.ea n x.ec hn (hE.under h.b) (fun W' hW => hE.under (h.b.trans (hW.below h.b.size fun g e => (h.n g (.inl e)).1)))).mono fun e W' ⟨he, hs, hc⟩ => ⟨he, h.turnS hs hc⟩
theorem sc_asks {i : Nat} (h : Scr4 T5 T6 c5 c6 w W P1 Q1 P2 Q2 l1 x1 D1 l2 x2 D2) (ha : Alike i l1 x1 D1) (hg : Good i 1048576 l1) (hi : i ≤ 1000000) (x : OpC) (hx : OpOk 1048576 x.o) (hE : NsAt w x.ea x.o.e) (n : Nat) (hn : x.o.e.length = n) :
    Calls Tryz.prog 28 #[.pointer (some ⟨P1, 0, none⟩), .pointer (some ⟨Q1, 0, none⟩), .agg #[.int .i64 x.o.k, .string x.o.lab, .int .i64 x.o.a, .int .i64 x.o.b, .slice x.ea n x.ec]] W fun e W' => e = .returned (.bool true) ∧ Below W.heap.size W W' := by
  obtain ⟨O1, R1, O2, R2, h⟩ := h
  exact asks_any W R1 w.heap.size P1 Q1 i D1 l1 x1 x.o x.ea n x.ec (h.s1.st fun g e => (h.n g (.inl e)).1) h.b.size h.r1 ha hg hi hx hn (hE.under h.b)
def lastO : OpA := ⟨3, ⟨#[108, 97, 115, 116]⟩, 5, 1099511627776, []⟩
theorem lastO_ok : OpOk 1048576 lastO := ⟨by unfold wfN lastO; decide, by unfold wfN lastO; decide, (fun x hx => by cases hx), Nat.zero_le _⟩
theorem sc_float {i : Nat} (h : Scr4 T5 T6 c5 c6 w W P1 Q1 P2 Q2 l1 x1 D1 l2 x2 D2) (hg : Good i 1048576 l1) (hi : i ≤ 1000000) :
    Calls Tryz.prog 29 #[.pointer (some ⟨P1, 0, none⟩), .string ⟨#[108, 97, 115, 116]⟩, .int .i64 5, .int .i64 1099511627776] W fun e W' => e = .returned (.int .i64 (sayE l1 lastO)) ∧ Scr4 T5 T6 c5 c6 w W' P1 Q1 P2 Q2 (sayL l1 lastO) x1 D1 l2 x2 D2 := by
  obtain ⟨O1, R1, O2, R2, h⟩ := h
  exact (float_so h.s1 (hg.ok hi (by omega)) ⟨#[108, 97, 115, 116]⟩ 5 1099511627776 (by decide) (by unfold wfN; decide) (by unfold wfN; decide)).mono fun e W' ⟨he, hs, hc⟩ => ⟨he, h.turnS hs hc⟩
theorem sc_rfloat {i : Nat} (h : Scr4 T5 T6 c5 c6 w W P1 Q1 P2 Q2 (sayL l1 lastO) x1 D1 l2 x2 D2) (ha : Alike i l1 x1 D1) (hi : i ≤ 1000000) :
    Calls Tryz.prog 30 #[.pointer (some ⟨Q1, 0, none⟩), .string ⟨#[108, 97, 115, 116]⟩, .int .i64 5, .int .i64 1099511627776] W fun e W' => ∃ x1' D1', e = .returned (.int .i64 (sayE l1 lastO)) ∧ Alike (i + 1) (sayL l1 lastO) x1' D1' ∧ Scr4 T5 T6 c5 c6 w W' P1 Q1 P2 Q2 (sayL l1 lastO) x1' D1' l2 x2 D2 := by
  obtain ⟨O1, R1, O2, R2, h⟩ := h
  exact (rfloat_any W R1 Q1 x1 D1 ⟨#[108, 97, 115, 116]⟩ 5 1099511627776 h.r1 (by have := ha.n; omega) (by unfold wfN; decide) (by unfold wfN; decide)).mono fun e W' hp => by
    obtain ⟨rfl, x1', D1', _, hal, hr, hc⟩ := doc3 (o := lastO) rfl ha h.r1.lt (Below.refl _ _) hp
    exact ⟨x1', D1', rfl, hal, h.turnR hr hc⟩
/-- Both sides. -/
def StP (T5 T6 : Nat) (c5 c6 : Array Value) (w : World) (P1 Q1 P2 Q2 i1 i2 : Nat) (W : World) : Prop := ∃ l1 x1 D1 l2 x2 D2, Good i1 1048576 l1 ∧ Alike i1 l1 x1 D1 ∧ Good i2 1048576 l2 ∧ Alike i2 l2 x2 D2 ∧ Scr4 T5 T6 c5 c6 w W P1 Q1 P2 Q2 l1 x1 D1 l2 x2 D2
theorem StP.swap {i1 i2 : Nat} (h : StP T5 T6 c5 c6 w P1 Q1 P2 Q2 i1 i2 W) : StP T5 T6 c5 c6 w P2 Q2 P1 Q1 i2 i1 W := by
  obtain ⟨l1, x1, D1, l2, x2, D2, h1, h2, h3, h4, h5⟩ := h
  exact ⟨l2, x2, D2, l1, x1, D1, h3, h4, h1, h2, h5.swap⟩
theorem StP.up {i1 i2 j1 j2 : Nat} (h : StP T5 T6 c5 c6 w P1 Q1 P2 Q2 i1 i2 W) (hi : i1 ≤ j1) (hj : i2 ≤ j2) : StP T5 T6 c5 c6 w P1 Q1 P2 Q2 j1 j2 W := by
  obtain ⟨l1, x1, D1, l2, x2, D2, h1, h2, h3, h4, h5⟩ := h
  exact ⟨l1, x1, D1, l2, x2, D2, h1.rise hi, h2.mono hi, h3.rise hj, h4.mono hj, h5⟩
theorem StP.below {i1 i2 : Nat} {W' : World} (h : StP T5 T6 c5 c6 w P1 Q1 P2 Q2 i1 i2 W) (hb : Below W.heap.size W W') : StP T5 T6 c5 c6 w P1 Q1 P2 Q2 i1 i2 W' := by
  obtain ⟨l1, x1, D1, l2, x2, D2, h1, h2, h3, h4, h5⟩ := h
  exact ⟨l1, x1, D1, l2, x2, D2, h1, h2, h3, h4, h5.below hb⟩
end
theorem scr_begin {w w1 w2 w3 w4 w5 w6 : World} {T5 T6 : Nat} {c5 c6 : Array Value} {P1 Q1 P2 Q2 : Nat} {l : List Sa} {xs : List Sd} {D : Nat} (h1 : StO (fun g => w.heap.size ≤ g ∧ g < w1.heap.size) w1 P1 l) (b1 : Below w.heap.size w w1) (h2 : StO (fun g => w1.heap.size ≤ g ∧ g < w2.heap.size) w2 P2 l) (b2 : Below w1.heap.size w1 w2) (k3 : w3.heap[T5]? = some (.cells c5 66 (0, 0))) (b3 : Below w2.heap.size w2 w3) (e3 : w2.heap.size = T5) (s3 : w3.heap.size = T5 + 1) (h4 : RfO (fun g => w3.heap.size ≤ g ∧ g < w4.heap.size) w4 Q1 xs D) (b4 : Below w3.heap.size w3 w4) (h5 : RfO (fun g => w4.heap.size ≤ g ∧ g < w5.heap.size) w5 Q2 xs D) (b5 : Below w4.heap.size w4 w5) (k6 : w6.heap[T6]? = some (.cells c6 72 (0, 0))) (b6 : Below w5.heap.size w5 w6) (e6 : w5.heap.size = T6) : Scr4 T5 T6 c5 c6 w w6 P1 Q1 P2 Q2 l xs D l xs D := by
  have z1 := b1.size
  have z2 := b2.size
  have z3 := b3.size
  have z4 := b4.size
  have z5 := b5.size
  have b16 := (b2.trans (b3.mono z2)).trans (((b4.trans (b5.mono z4)).trans (b6.mono (Nat.le_trans z4 z5))).mono (Nat.le_trans z2 z3))
  have b36 := (b4.trans (b5.mono z4)).trans (b6.mono (Nat.le_trans z4 z5))
  have b26 := b3.trans (b36.mono z3)
  have b46 := b5.trans (b6.mono z5)
  exact ⟨_, _, _, _, h1.below b16, h4.below b46, h2.below b26, h5.below b6, fun g a b => by omega, fun g a b => by omega, fun g a b => by omega, fun g a b => by omega, fun g a b => by omega, fun g a b => by omega, fun g e => by rcases e with e | e | e | e <;> exact ⟨by omega, by omega, by omega⟩, (b36.block T5 (by omega)).trans k3, k6, b1.trans (b16.mono z1)⟩
end Go.Proofs.YtkejjiilcoacfaaGreat

namespace Go.Proofs.YtkejjiilcoacfaaGreat
open Go.Maps Go.RowKit Go.WideMaps

def stepN (i k j : Nat) : Nat := if j < k then i + 1 else i
set_option maxRecDepth 100000 in
set_option maxHeartbeats 32000000 in
theorem script_walk (w : World) (a a' : Option Addr) (n n' c c' : Nat) (os os' : List OpC) (hl : os.length = n) (hl' : os'.length = n') (hos : OpsOk os) (hos' : OpsOk os') (hs : n ≤ 262144) (hs' : n' ≤ 262144) (hA : OpsAt w a os) (hA' : OpsAt w a' os') :
    Calls Tryz.prog 7 #[.slice a n c, .slice a' n' c'] w fun e w' => e = .returned (.bool true) ∧ Below w.heap.size w w' := by
  have OPS : Hid (OpsAt w a os ∧ OpsOk os ∧ os.length = n) := ⟨hA, hos, hl⟩
  have OPT : Hid (OpsAt w a' os' ∧ OpsOk os' ∧ os'.length = n') := ⟨hA', hos', hl'⟩
  have NE : Hid (∀ W, Calls Tryz.prog 9 #[.func (.func 10) #[] #[]] W fun e w' => ∃ P, e = .returned (.pointer (some ⟨P, 0, none⟩)) ∧ StO (fun g => W.heap.size ≤ g ∧ g < w'.heap.size) w' P [⟨[], []⟩] ∧ Below W.heap.size W w') := fun W => new_so W
  have RN : Hid (∀ W, _) := fun W => rnew_any W
  have NU : Hid (∀ n wx, Calls Tryz.prog 11 #[.int .i64 n] wx fun e w' => e = .returned (.int .i64 n) ∧ w' = wx) := fun n wx => num_any wx n
  obtain ⟨m, hm⟩ : ∃ m, max n n' = m := ⟨_, rfl⟩
  have hm1 : n ≤ m := by omega
  have hm2 : n' ≤ m := by omega
  have hm3 : m ≤ 262144 := by omega
  have HM : Hid (∀ i, i < m → i < n ∨ i < n') := fun i h => by omega
  clear hl hos hA hl' hos' hA' hm
  go_enter Tryz.func7, Tryz.ntmps7
  go_wp2_with fail
  refine Calls.mono (NE.out _) ?_
  rintro e w1 ⟨P1, rfl, hS1, hb1⟩
  have S1 : Hid (StO (fun g => w.heap.size ≤ g ∧ g < w1.heap.size) w1 P1 [⟨[], []⟩] ∧ Below w.heap.size w w1) := ⟨hS1, hb1⟩
  clear hS1 hb1
  go_wp2_with fail
  refine Calls.mono (NE.out _) ?_
  rintro e w2 ⟨P2, rfl, hS2, hb2⟩
  have S2 : Hid (StO (fun g => w1.heap.size ≤ g ∧ g < w2.heap.size) w2 P2 [⟨[], []⟩] ∧ Below w1.heap.size w1 w2) := ⟨hS2, hb2⟩
  obtain ⟨w3, hw3⟩ : ∃ w3, w3 = w2.alloc (.cells #[.pointer (some ⟨P1, 0, none⟩), .pointer (some ⟨P2, 0, none⟩)] 66) := ⟨_, rfl⟩
  obtain ⟨T5, hT5⟩ : ∃ T5, w2.heap.size = T5 := ⟨_, rfl⟩
  have HW3 : Hid (w3 = w2.alloc (.cells #[.pointer (some ⟨P1, 0, none⟩), .pointer (some ⟨P2, 0, none⟩)] 66) ∧ w2.heap.size = T5) := ⟨hw3, hT5⟩
  have K3 : Hid (w3.heap[T5]? = some (.cells #[.pointer (some ⟨P1, 0, none⟩), .pointer (some ⟨P2, 0, none⟩)] 66 (0, 0)) ∧ Below w2.heap.size w2 w3 ∧ w2.heap.size = T5 ∧ w3.heap.size = T5 + 1) := ⟨by rw [hw3, ← hT5]; exact heap_alloc_new w2 _, by rw [hw3]; exact fr_below_alloc _ _, hT5, by rw [hw3, al_size, hT5]⟩
  clear hS2 hb2 NE hw3 hT5
  go_upto_region 2 with fail
  rw [← HW3.out.1, HW3.out.2]
  clear HW3
  go_wp2_with fail
  refine Calls.mono (RN.out _) ?_
  rintro e w4 ⟨Q1, rfl, hS4, hb4⟩
  have S4 : Hid (RfO (fun g => w3.heap.size ≤ g ∧ g < w4.heap.size) w4 Q1 [] 0 ∧ Below w3.heap.size w3 w4) := ⟨hS4, hb4⟩
  clear hS4 hb4
  go_wp2_with fail
  refine Calls.mono (RN.out _) ?_
  rintro e w5 ⟨Q2, rfl, hS5, hb5⟩
  obtain ⟨w6, hw6⟩ : ∃ w6, w6 = w5.alloc (.cells #[.pointer (some ⟨Q1, 0, none⟩), .pointer (some ⟨Q2, 0, none⟩)] 72) := ⟨_, rfl⟩
  obtain ⟨T6, hT6⟩ : ∃ T6, w5.heap.size = T6 := ⟨_, rfl⟩
  have HW6 : Hid (w6 = w5.alloc (.cells #[.pointer (some ⟨Q1, 0, none⟩), .pointer (some ⟨Q2, 0, none⟩)] 72) ∧ w5.heap.size = T6) := ⟨hw6, hT6⟩
  have SC6 : Hid (Scr4 T5 T6 #[.pointer (some ⟨P1, 0, none⟩), .pointer (some ⟨P2, 0, none⟩)] #[.pointer (some ⟨Q1, 0, none⟩), .pointer (some ⟨Q2, 0, none⟩)] w w6 P1 Q1 P2 Q2 [⟨[], []⟩] [] 0 [⟨[], []⟩] [] 0) := scr_begin S1.out.1 S1.out.2 S2.out.1 S2.out.2 K3.out.1 K3.out.2.1 K3.out.2.2.1 K3.out.2.2.2 S4.out.1 S4.out.2 hS5 hb5 (by rw [hw6, ← hT6]; exact heap_alloc_new w5 _) (by rw [hw6]; exact fr_below_alloc _ _) hT6
  clear hS5 hb5 RN hw6 hT6 S1 S2 K3 S4
  go_upto_region 3 with fail
  rw [← HW6.out.1, HW6.out.2]
  clear HW6
  have y0 := M.cell_whole SC6.out.k5 0
  have y1 := M.cell_whole SC6.out.k5 1
  simp only [List.getElem?_toArray, List.getElem?_cons_zero, List.getElem?_cons_succ] at y0 y1
  go_wp2_with fail
  clear y0 y1
  go_loopw [7] (fun v7 wx => ∃ i : Nat, i ≤ m ∧ v7 = .int .i64 i ∧ Hid (StP T5 T6 #[.pointer (some ⟨P1, 0, none⟩), .pointer (some ⟨P2, 0, none⟩)] #[.pointer (some ⟨Q1, 0, none⟩), .pointer (some ⟨Q2, 0, none⟩)] w P1 Q1 P2 Q2 i i wx)) (fun v7 _ => m - (intOf v7).toNat)
  case atStart => exact ⟨0, Nat.zero_le _, rfl, _, _, _, _, _, _, Good.new _, Alike.new, Good.new _, Alike.new, SC6.out⟩
  case round =>
    clear SC6
    obtain ⟨i, hi, rfl, hI⟩ := hrel
    go_upto_region 6 with fail
    go_cut [41] (fun v41 wx => v41 = .bool (decide (i < m)) ∧ wx = wr)
    case first => as_aux_lemma =>
      by_cases hlt : i < m
      · rcases HM.out i hlt with h1 | h1
        · have n1 : (i : Int) < (n : Int) := by omega
          go_wp2_with fail
          go_meet
          exact ⟨by simp [hlt], rfl⟩
        · have n1 : (i : Int) < (n' : Int) := by omega
          by_cases h2 : i < n
          · have n2 : (i : Int) < (n : Int) := by omega
            go_wp2_with fail
            go_meet
            exact ⟨by simp [hlt], rfl⟩
          · have n2 : ¬ (i : Int) < (n : Int) := by omega
            go_wp2_with fail
            go_meet
            exact ⟨by simp [hlt], rfl⟩
      · have n1 : ¬ (i : Int) < (n : Int) := by omega
        have n2 : ¬ (i : Int) < (n' : Int) := by omega
        go_wp2_with fail
        go_meet
        exact ⟨by simp [hlt], rfl⟩
    case rest =>
      obtain ⟨rfl, rfl⟩ := hcut
      by_cases hlt : i < m
      · rw [show decide (i < m) = true by simpa using hlt]
        go_wp2_with fail
        go_loopw [8] (fun v8 wx => ∃ k : Nat, k ≤ 2 ∧ v8 = .int .i64 k ∧ Hid (StP T5 T6 #[.pointer (some ⟨P1, 0, none⟩), .pointer (some ⟨P2, 0, none⟩)] #[.pointer (some ⟨Q1, 0, none⟩), .pointer (some ⟨Q2, 0, none⟩)] w P1 Q1 P2 Q2 (stepN i k 0) (stepN i k 1) wx)) (fun v8 _ => 2 - (intOf v8).toNat)
        case atStart => exact ⟨0, by omega, rfl, hI.out⟩
        case round =>
          clear hI
          obtain ⟨k, hk, rfl, hK⟩ := hrel
          by_cases k0 : k = 0
          · subst k0
            have HK : Hid (StP T5 T6 #[.pointer (some ⟨P1, 0, none⟩), .pointer (some ⟨P2, 0, none⟩)] #[.pointer (some ⟨Q1, 0, none⟩), .pointer (some ⟨Q2, 0, none⟩)] w P1 Q1 P2 Q2 i i wr) := hK.out
            clear hK
            rw [show ((0 : Nat) : Int) = 0 from rfl]
            by_cases hin : i < n
            · have n1 : (i : Int) < (n : Int) := by omega
              obtain ⟨x, hx⟩ : ∃ x, os[i]? = some x := ⟨_, List.getElem?_eq_getElem (by rw [OPS.out.2.2]; exact hin)⟩
              have hxm := List.mem_of_getElem? hx
              obtain ⟨b, off, ea, q0, q1, q2, q3, q4, q5⟩ := OPS.out.1 i x hx
              have XO : Hid (OpOk 1048576 x.o ∧ x.o.lab.size ≤ 281474976710656 ∧ NsAt w x.ea x.o.e) := ⟨OPS.out.2.1.o x hxm, OPS.out.2.1.l x hxm, q5⟩
              subst ea
              obtain ⟨ne, hne⟩ : ∃ ne, x.o.e.length = ne := ⟨_, rfl⟩
              have HNE : Hid (x.o.e.length = ne) := hne
              rw [hne] at q4
              have CE : Hid (∀ W, Below w.heap.size w W → W.cell? ⟨b, off + i * 5, none⟩ = some (.int .i64 x.o.k) ∧ W.cell? ⟨b, off + i * 5 + 1, none⟩ = some (.string x.o.lab) ∧ W.cell? ⟨b, off + i * 5 + 2, none⟩ = some (.int .i64 x.o.a) ∧ W.cell? ⟨b, off + i * 5 + 3, none⟩ = some (.int .i64 x.o.b) ∧ W.cell? ⟨b, off + i * 5 + 4, none⟩ = some (.slice x.ea ne x.ec)) := fun W hW => ⟨cell_under hW q0, cell_under hW q1, cell_under hW q2, cell_under hW q3, cell_under hW q4⟩
              clear q0 q1 q2 q3 q4 q5 hx hxm hne
              obtain ⟨l1, x1, D1, l2, x2, D2, g1, al1, g2, al2, sc⟩ := HK.out
              have GA : Hid (Good i 1048576 l1 ∧ Alike i l1 x1 D1 ∧ Good i 1048576 l2 ∧ Alike i l2 x2 D2) := ⟨g1, al1, g2, al2⟩
              have SC : Hid (Scr4 T5 T6 #[.pointer (some ⟨P1, 0, none⟩), .pointer (some ⟨P2, 0, none⟩)] #[.pointer (some ⟨Q1, 0, none⟩), .pointer (some ⟨Q2, 0, none⟩)] w wr.drew P1 Q1 P2 Q2 l1 x1 D1 l2 x2 D2) := sc.below (fr_below_drewN (Below.refl _ _) 1)
              clear g1 al1 g2 al2 sc HK
              obtain ⟨lN, hlN⟩ : ∃ lN, sayL l1 x.o = lN := ⟨_, rfl⟩
              obtain ⟨SE, hSE⟩ : ∃ SE, sayE l1 x.o = SE := ⟨_, rfl⟩
              have HSE : Hid (sayL l1 x.o = lN ∧ sayE l1 x.o = SE) := ⟨hlN, hSE⟩
              clear hlN hSE
              have DOC : Hid _ := sc_doc SC.out GA.out.2.1 GA.out.1 (by omega) x XO.out.1 XO.out.2.2 ne HNE.out
              rw [HSE.out.1, HSE.out.2] at DOC
              have S6 : Hid (∀ W : World, W.heap[T6]? = some (.cells #[.pointer (some ⟨Q1, 0, none⟩), .pointer (some ⟨Q2, 0, none⟩)] 72 (0, 0)) → W.cell? ⟨T6, 0, none⟩ = some (.pointer (some ⟨Q1, 0, none⟩))) := fun W h => M.cell_whole h 0
              have S5 : Hid (∀ W : World, W.heap[T5]? = some (.cells #[.pointer (some ⟨P1, 0, none⟩), .pointer (some ⟨P2, 0, none⟩)] 66 (0, 0)) → W.cell? ⟨T5, 0, none⟩ = some (.pointer (some ⟨P1, 0, none⟩))) := fun W h => M.cell_whole h 0
              go_upto_region 15 with fail
              refine wp_region_held_drew (S := fun w' => w'.cell? ⟨T6, 0, none⟩ = some (.pointer (some ⟨Q1, 0, none⟩)) ∧ w'.cell? ⟨b, off + i * 5, none⟩ = some (.int .i64 x.o.k) ∧ w'.cell? ⟨b, off + i * 5 + 1, none⟩ = some (.string x.o.lab) ∧ w'.cell? ⟨b, off + i * 5 + 2, none⟩ = some (.int .i64 x.o.a) ∧ w'.cell? ⟨b, off + i * 5 + 3, none⟩ = some (.int .i64 x.o.b) ∧ w'.cell? ⟨b, off + i * 5 + 4, none⟩ = some (.slice x.ea ne x.ec)) (by kernel_rfl) ?_ (fun hHeld => ?_)
              · exact ⟨S6.out _ SC.out.k6, CE.out _ SC.out.b⟩
              refine wpAnyH_take (i := 0) (oi := { dst := some 56, op := Op.move (Operand.tmp 8), type := 3, pos := "law.go:183", after := #[], guard := none }) (v := ?_) rfl (by kernel_rfl) (by kernel_rfl) (by kernel_rfl) (fun _ _ _ h => h) (Or.inl ⟨by rfl, ?_⟩) hHeld ?_
              rotate_left
              · (intro w hSw; (try dsimp only at hSw); go_simp; try with_reducible rfl)
              try simp only [Act.put, List.setIfInBounds_toArray, List.set_cons_zero, List.set_cons_succ]
              refine wpAnyH_take (i := 1) (oi := { dst := some 57, op := Op.indexAddr 72 (Operand.tmp 6) (Operand.tmp 56), type := 0, pos := "law.go:183", after := #[{ on := 0, ground := Ground.data }], guard := none }) (v := ?_) rfl (by kernel_rfl) (by kernel_rfl) (by kernel_rfl) (fun _ _ _ h => h) (Or.inl ⟨by rfl, ?_⟩) hHeld ?_
              rotate_left
              · (intro w hSw; (try dsimp only at hSw); go_simp; try with_reducible rfl)
              try simp only [Act.put, List.setIfInBounds_toArray, List.set_cons_zero, List.set_cons_succ]
              refine wpAnyH_take (i := 2) (oi := { dst := some 58, op := Op.load 67 (Operand.tmp 57), type := 67, pos := "law.go:183", after := #[{ on := 1, ground := Ground.data }], guard := none }) (v := ?_) rfl (by kernel_rfl) (by kernel_rfl) (by kernel_rfl) (fun _ _ _ h => h) (Or.inl ⟨by rfl, ?_⟩) hHeld ?_
              rotate_left
              · (intro w hSw; (try dsimp only at hSw); go_simp; try with_reducible rfl)
              try simp only [Act.put, List.setIfInBounds_toArray, List.set_cons_zero, List.set_cons_succ]
              refine wpAnyH_take (i := 3) (oi := { dst := some 59, op := Op.move (Operand.tmp 9), type := 40, pos := "law.go:183", after := #[], guard := none }) (v := ?_) rfl (by kernel_rfl) (by kernel_rfl) (by kernel_rfl) (fun _ _ _ h => h) (Or.inl ⟨by rfl, ?_⟩) hHeld ?_
              rotate_left
              · (intro w hSw; (try dsimp only at hSw); go_simp; try with_reducible rfl)
              try simp only [Act.put, List.setIfInBounds_toArray, List.set_cons_zero, List.set_cons_succ]
              refine wpAnyH_take (i := 4) (oi := { dst := some 60, op := Op.move (Operand.tmp 7), type := 3, pos := "law.go:183", after := #[], guard := none }) (v := ?_) rfl (by kernel_rfl) (by kernel_rfl) (by kernel_rfl) (fun _ _ _ h => h) (Or.inl ⟨by rfl, ?_⟩) hHeld ?_
              rotate_left
              · (intro w hSw; (try dsimp only at hSw); go_simp; try with_reducible rfl)
              try simp only [Act.put, List.setIfInBounds_toArray, List.set_cons_zero, List.set_cons_succ]
              refine wpAnyH_take (i := 5) (oi := { dst := some 61, op := Op.indexAddr 40 (Operand.tmp 59) (Operand.tmp 60), type := 0, pos := "law.go:183", after := #[{ on := 3, ground := Ground.data }, { on := 4, ground := Ground.data }], guard := none }) (v := ?_) rfl (by kernel_rfl) (by kernel_rfl) (by kernel_rfl) (fun _ _ _ h => h) (Or.inl ⟨by rfl, ?_⟩) hHeld ?_
              rotate_left
              · (intro w hSw; (try dsimp only at hSw); go_simp; try with_reducible rfl)
              try simp only [Act.put, List.setIfInBounds_toArray, List.set_cons_zero, List.set_cons_succ]
              refine wpAnyH_take (i := 6) (oi := { dst := some 62, op := Op.load 45 (Operand.tmp 61), type := 45, pos := "law.go:183", after := #[{ on := 5, ground := Ground.data }], guard := none }) (v := ?_) rfl (by kernel_rfl) (by kernel_rfl) (by kernel_rfl) (fun _ _ _ h => h) (Or.inl ⟨by rfl, ?_⟩) hHeld ?_
              rotate_left
              · (intro w hSw; (try dsimp only at hSw); go_simp; try with_reducible rfl)
              try simp only [Act.put, List.setIfInBounds_toArray, List.set_cons_zero, List.set_cons_succ]
              refine wpAnyH_ready (rs := [7]) (by kernel_rfl) (by simp) ?_
              refine AllReadyH.cons (o := { dst := some 63, op := Op.call { callee := Callee.value (Operand.func 27), args := #[Operand.tmp 58, Operand.tmp 62], argTypes := #[67, 45] }, type := 3, pos := "law.go:183", after := #[{ on := 2, ground := Ground.data }, { on := 6, ground := Ground.data }], guard := none }) rfl (fun K hK => ?_) AllReadyH.nil
              go_simp
              go_at_call 27
              refine Calls.mono DOC.out ?_
              rintro e w2 ⟨xN, DN, rfl, hal, hsc⟩
              have AN : Hid (Alike (i + 1) lN xN DN) := hal
              have SC2 : Hid (Scr4 T5 T6 #[.pointer (some ⟨P1, 0, none⟩), .pointer (some ⟨P2, 0, none⟩)] #[.pointer (some ⟨Q1, 0, none⟩), .pointer (some ⟨Q2, 0, none⟩)] w w2 P1 Q1 P2 Q2 l1 xN DN l2 x2 D2) := hsc
              clear hal hsc DOC SC
              try go_wp2_with fail
              refine hK.out _ _ ?_ (fun hHeld_7 => ?_)
              · exact ⟨S6.out _ SC2.out.k6, CE.out _ SC2.out.b⟩
              clear hK K
              try simp only [Act.put, List.setIfInBounds_toArray, List.set_cons_zero, List.set_cons_succ]
              refine wpAnyH_take (i := 8) (oi := { dst := some 10, op := Op.assign (Operand.tmp 63), type := 3, pos := "law.go:183", after := #[{ on := 7, ground := Ground.data }, { on := 7, ground := Ground.chain }, { on := 0, ground := Ground.phase }, { on := 1, ground := Ground.phase }, { on := 2, ground := Ground.phase }, { on := 3, ground := Ground.phase }, { on := 4, ground := Ground.phase }, { on := 5, ground := Ground.phase }, { on := 6, ground := Ground.phase }, { on := 7, ground := Ground.phase }], guard := none }) (v := ?_) rfl (by kernel_rfl) (by kernel_rfl) (by kernel_rfl) (fun _ _ _ h => h) (Or.inl ⟨by rfl, ?_⟩) hHeld_7 ?_
              rotate_left
              · (intro w hSw; (try dsimp only at hSw); go_simp; try with_reducible rfl)
              try simp only [Act.put, List.setIfInBounds_toArray, List.set_cons_zero, List.set_cons_succ]
              refine wpAnyH_done (by kernel_rfl) ?_ _
              have SC3 : Hid (Scr4 T5 T6 #[.pointer (some ⟨P1, 0, none⟩), .pointer (some ⟨P2, 0, none⟩)] #[.pointer (some ⟨Q1, 0, none⟩), .pointer (some ⟨Q2, 0, none⟩)] w w2.drew P1 Q1 P2 Q2 l1 xN DN l2 x2 D2) := SC2.out.below (fr_below_drewN (Below.refl _ _) 1)
              have SAY : Hid _ := sc_says SC3.out GA.out.1 (by omega) x XO.out.1 XO.out.2.1 XO.out.2.2 ne HNE.out
              rw [HSE.out.1, HSE.out.2] at SAY
              clear SC2
              go_upto_region 16 with fail
              refine wp_region_held_drew (S := fun w' => w'.cell? ⟨T5, 0, none⟩ = some (.pointer (some ⟨P1, 0, none⟩)) ∧ w'.cell? ⟨b, off + i * 5, none⟩ = some (.int .i64 x.o.k) ∧ w'.cell? ⟨b, off + i * 5 + 1, none⟩ = some (.string x.o.lab) ∧ w'.cell? ⟨b, off + i * 5 + 2, none⟩ = some (.int .i64 x.o.a) ∧ w'.cell? ⟨b, off + i * 5 + 3, none⟩ = some (.int .i64 x.o.b) ∧ w'.cell? ⟨b, off + i * 5 + 4, none⟩ = some (.slice x.ea ne x.ec)) (by kernel_rfl) ?_ (fun hHeld => ?_)
              · exact ⟨S5.out _ SC3.out.k5, CE.out _ SC3.out.b⟩
              refine wpAnyH_take (i := 0) (oi := { dst := some 65, op := Op.move (Operand.tmp 8), type := 3, pos := "law.go:184", after := #[], guard := none }) (v := ?_) rfl (by kernel_rfl) (by kernel_rfl) (by kernel_rfl) (fun _ _ _ h => h) (Or.inl ⟨by rfl, ?_⟩) hHeld ?_
              rotate_left
              · (intro w hSw; (try dsimp only at hSw); go_simp; try with_reducible rfl)
              try simp only [Act.put, List.setIfInBounds_toArray, List.set_cons_zero, List.set_cons_succ]
              refine wpAnyH_take (i := 1) (oi := { dst := some 66, op := Op.indexAddr 66 (Operand.tmp 5) (Operand.tmp 65), type := 0, pos := "law.go:184", after := #[{ on := 0, ground := Ground.data }], guard := none }) (v := ?_) rfl (by kernel_rfl) (by kernel_rfl) (by kernel_rfl) (fun _ _ _ h => h) (Or.inl ⟨by rfl, ?_⟩) hHeld ?_
              rotate_left
              · (intro w hSw; (try dsimp only at hSw); go_simp; try with_reducible rfl)
              try simp only [Act.put, List.setIfInBounds_toArray, List.set_cons_zero, List.set_cons_succ]
              refine wpAnyH_take (i := 2) (oi := { dst := some 67, op := Op.load 25 (Operand.tmp 66), type := 25, pos := "law.go:184", after := #[{ on := 1, ground := Ground.data }], guard := none }) (v := ?_) rfl (by kernel_rfl) (by kernel_rfl) (by kernel_rfl) (fun _ _ _ h => h) (Or.inl ⟨by rfl, ?_⟩) hHeld ?_
              rotate_left
              · (intro w hSw; (try dsimp only at hSw); go_simp; try with_reducible rfl)
              try simp only [Act.put, List.setIfInBounds_toArray, List.set_cons_zero, List.set_cons_succ]
              refine wpAnyH_take (i := 3) (oi := { dst := some 68, op := Op.move (Operand.tmp 9), type := 40, pos := "law.go:184", after := #[], guard := none }) (v := ?_) rfl (by kernel_rfl) (by kernel_rfl) (by kernel_rfl) (fun _ _ _ h => h) (Or.inl ⟨by rfl, ?_⟩) hHeld ?_
              rotate_left
              · (intro w hSw; (try dsimp only at hSw); go_simp; try with_reducible rfl)
              try simp only [Act.put, List.setIfInBounds_toArray, List.set_cons_zero, List.set_cons_succ]
              refine wpAnyH_take (i := 4) (oi := { dst := some 69, op := Op.move (Operand.tmp 7), type := 3, pos := "law.go:184", after := #[], guard := none }) (v := ?_) rfl (by kernel_rfl) (by kernel_rfl) (by kernel_rfl) (fun _ _ _ h => h) (Or.inl ⟨by rfl, ?_⟩) hHeld ?_
              rotate_left
              · (intro w hSw; (try dsimp only at hSw); go_simp; try with_reducible rfl)
              try simp only [Act.put, List.setIfInBounds_toArray, List.set_cons_zero, List.set_cons_succ]
              refine wpAnyH_take (i := 5) (oi := { dst := some 70, op := Op.indexAddr 40 (Operand.tmp 68) (Operand.tmp 69), type := 0, pos := "law.go:184", after := #[{ on := 3, ground := Ground.data }, { on := 4, ground := Ground.data }], guard := none }) (v := ?_) rfl (by kernel_rfl) (by kernel_rfl) (by kernel_rfl) (fun _ _ _ h => h) (Or.inl ⟨by rfl, ?_⟩) hHeld ?_
              rotate_left
              · (intro w hSw; (try dsimp only at hSw); go_simp; try with_reducible rfl)
              try simp only [Act.put, List.setIfInBounds_toArray, List.set_cons_zero, List.set_cons_succ]
              refine wpAnyH_take (i := 6) (oi := { dst := some 71, op := Op.load 45 (Operand.tmp 70), type := 45, pos := "law.go:184", after := #[{ on := 5, ground := Ground.data }], guard := none }) (v := ?_) rfl (by kernel_rfl) (by kernel_rfl) (by kernel_rfl) (fun _ _ _ h => h) (Or.inl ⟨by rfl, ?_⟩) hHeld ?_
              rotate_left
              · (intro w hSw; (try dsimp only at hSw); go_simp; try with_reducible rfl)
              try simp only [Act.put, List.setIfInBounds_toArray, List.set_cons_zero, List.set_cons_succ]
              refine wpAnyH_ready (rs := [7]) (by kernel_rfl) (by simp) ?_
              refine AllReadyH.cons (o := { dst := some 72, op := Op.call { callee := Callee.value (Operand.func 16), args := #[Operand.tmp 67, Operand.tmp 71], argTypes := #[25, 45] }, type := 42, pos := "law.go:184", after := #[{ on := 2, ground := Ground.data }, { on := 6, ground := Ground.data }], guard := none }) rfl (fun K hK => ?_) AllReadyH.nil
              go_simp
              go_at_call 16
              refine Calls.mono SAY.out ?_
              rintro e w4 ⟨rfl, hsc⟩
              have SC4 : Hid (Scr4 T5 T6 #[.pointer (some ⟨P1, 0, none⟩), .pointer (some ⟨P2, 0, none⟩)] #[.pointer (some ⟨Q1, 0, none⟩), .pointer (some ⟨Q2, 0, none⟩)] w w4 P1 Q1 P2 Q2 lN xN DN l2 x2 D2) := hsc
              clear hsc SAY SC3
              try go_wp2_with fail
              refine hK.out _ _ ?_ (fun hHeld_7 => ?_)
              · exact ⟨S5.out _ SC4.out.k5, CE.out _ SC4.out.b⟩
              clear hK K
              try simp only [Act.put, List.setIfInBounds_toArray, List.set_cons_zero, List.set_cons_succ]
              refine wpAnyH_take (i := 8) (oi := { dst := some 64, op := Op.move (Operand.tmp 72), type := 42, pos := "law.go:184", after := #[{ on := 7, ground := Ground.data }], guard := none }) (v := ?_) rfl (by kernel_rfl) (by kernel_rfl) (by kernel_rfl) (fun _ _ _ h => h) (Or.inl ⟨by rfl, ?_⟩) hHeld_7 ?_
              rotate_left
              · (intro w hSw; (try dsimp only at hSw); go_simp; try with_reducible rfl)
              try simp only [Act.put, List.setIfInBounds_toArray, List.set_cons_zero, List.set_cons_succ]
              refine wpAnyH_take (i := 9) (oi := { dst := some 73, op := Op.extract (Operand.tmp 64) 0, type := 3, pos := "law.go:184", after := #[{ on := 8, ground := Ground.data }], guard := none }) (v := ?_) rfl (by kernel_rfl) (by kernel_rfl) (by kernel_rfl) (fun _ _ _ h => h) (Or.inl ⟨by rfl, ?_⟩) hHeld_7 ?_
              rotate_left
              · (intro w hSw; (try dsimp only at hSw); go_simp; try with_reducible rfl)
              try simp only [Act.put, List.setIfInBounds_toArray, List.set_cons_zero, List.set_cons_succ]
              refine wpAnyH_take (i := 10) (oi := { dst := some 74, op := Op.extract (Operand.tmp 64) 1, type := 4, pos := "law.go:184", after := #[{ on := 8, ground := Ground.data }, { on := 11, ground := Ground.gcOnly Departure.lateStores }], guard := none }) (v := ?_) rfl (by kernel_rfl) (by kernel_rfl) (by kernel_rfl) (fun _ _ _ h => h) (Or.inl ⟨by rfl, ?_⟩) hHeld_7 ?_
              rotate_left
              · (intro w hSw; (try dsimp only at hSw); go_simp; try with_reducible rfl)
              try simp only [Act.put, List.setIfInBounds_toArray, List.set_cons_zero, List.set_cons_succ]
              refine wpAnyH_take (i := 11) (oi := { dst := some 11, op := Op.assign (Operand.tmp 73), type := 3, pos := "law.go:184", after := #[{ on := 9, ground := Ground.data }, { on := 7, ground := Ground.chain }, { on := 0, ground := Ground.phase }, { on := 1, ground := Ground.phase }, { on := 2, ground := Ground.phase }, { on := 3, ground := Ground.phase }, { on := 4, ground := Ground.phase }, { on := 5, ground := Ground.phase }, { on := 6, ground := Ground.phase }, { on := 7, ground := Ground.phase }, { on := 8, ground := Ground.phase }, { on := 9, ground := Ground.phase }, { on := 10, ground := Ground.textOnly Departure.lateStores }], guard := none }) (v := ?_) rfl (by kernel_rfl) (by kernel_rfl) (by kernel_rfl) (fun _ _ _ h => h) (Or.inl ⟨by rfl, ?_⟩) hHeld_7 ?_
              rotate_left
              · (intro w hSw; (try dsimp only at hSw); go_simp; try with_reducible rfl)
              try simp only [Act.put, List.setIfInBounds_toArray, List.set_cons_zero, List.set_cons_succ]
              refine wpAnyH_take (i := 12) (oi := { dst := some 12, op := Op.assign (Operand.tmp 74), type := 4, pos := "law.go:184", after := #[{ on := 10, ground := Ground.data }, { on := 11, ground := Ground.chain }, { on := 0, ground := Ground.phase }, { on := 1, ground := Ground.phase }, { on := 2, ground := Ground.phase }, { on := 3, ground := Ground.phase }, { on := 4, ground := Ground.phase }, { on := 5, ground := Ground.phase }, { on := 6, ground := Ground.phase }, { on := 7, ground := Ground.phase }, { on := 8, ground := Ground.phase }, { on := 9, ground := Ground.phase }, { on := 10, ground := Ground.phase }, { on := 11, ground := Ground.phase }], guard := none }) (v := ?_) rfl (by kernel_rfl) (by kernel_rfl) (by kernel_rfl) (fun _ _ _ h => h) (Or.inl ⟨by rfl, ?_⟩) hHeld_7 ?_
              rotate_left
              · (intro w hSw; (try dsimp only at hSw); go_simp; try with_reducible rfl)
              try simp only [Act.put, List.setIfInBounds_toArray, List.set_cons_zero, List.set_cons_succ]
              refine wpAnyH_done (by kernel_rfl) ?_ _
              have SC5 : Hid (Scr4 T5 T6 #[.pointer (some ⟨P1, 0, none⟩), .pointer (some ⟨P2, 0, none⟩)] #[.pointer (some ⟨Q1, 0, none⟩), .pointer (some ⟨Q2, 0, none⟩)] w w4.drew P1 Q1 P2 Q2 lN xN DN l2 x2 D2) := SC4.out.below (fr_below_drewN (Below.refl _ _) 1)
              have GN : Hid (Good (i + 1) 1048576 lN) := by have h := GA.out.1.step x.o XO.out.1; rw [HSE.out.1] at h; exact h
              have ASK : Hid _ := sc_asks SC5.out AN.out GN.out (by omega) x XO.out.1 XO.out.2.2 ne HNE.out
              clear SC4
              go_upto_region 17 with fail
              refine wp_region_held_drew (S := fun w' => w'.cell? ⟨T5, 0, none⟩ = some (.pointer (some ⟨P1, 0, none⟩)) ∧ w'.cell? ⟨T6, 0, none⟩ = some (.pointer (some ⟨Q1, 0, none⟩)) ∧ w'.cell? ⟨b, off + i * 5, none⟩ = some (.int .i64 x.o.k) ∧ w'.cell? ⟨b, off + i * 5 + 1, none⟩ = some (.string x.o.lab) ∧ w'.cell? ⟨b, off + i * 5 + 2, none⟩ = some (.int .i64 x.o.a) ∧ w'.cell? ⟨b, off + i * 5 + 3, none⟩ = some (.int .i64 x.o.b) ∧ w'.cell? ⟨b, off + i * 5 + 4, none⟩ = some (.slice x.ea ne x.ec)) (by kernel_rfl) ?_ (fun hHeld => ?_)
              · exact ⟨S5.out _ SC5.out.k5, S6.out _ SC5.out.k6, CE.out _ SC5.out.b⟩
              refine wpAnyH_take (i := 0) (oi := { dst := some 75, op := Op.move (Operand.tmp 12), type := 4, pos := "law.go:185", after := #[], guard := none }) (v := ?_) rfl (by kernel_rfl) (by kernel_rfl) (by kernel_rfl) (fun _ _ _ h => h) (Or.inl ⟨by rfl, ?_⟩) hHeld ?_
              rotate_left
              · (intro w hSw; (try dsimp only at hSw); go_simp; try with_reducible rfl)
              try simp only [Act.put, List.setIfInBounds_toArray, List.set_cons_zero, List.set_cons_succ]
              refine wpAnyH_take (i := 1) (oi := { dst := some 76, op := Op.unOp UnOp.not 4 (Operand.tmp 75), type := 4, pos := "law.go:185", after := #[{ on := 0, ground := Ground.data }], guard := none }) (v := ?_) rfl (by kernel_rfl) (by kernel_rfl) (by kernel_rfl) (fun _ _ _ h => h) (Or.inl ⟨by rfl, ?_⟩) hHeld ?_
              rotate_left
              · (intro w hSw; (try dsimp only at hSw); go_simp; try with_reducible rfl)
              try simp only [Act.put, List.setIfInBounds_toArray, List.set_cons_zero, List.set_cons_succ]
              refine wpAnyH_take (i := 2) (oi := { dst := some 77, op := Op.move (Operand.tmp 76), type := 4, pos := "law.go:185", after := #[{ on := 1, ground := Ground.data }], guard := none }) (v := ?_) rfl (by kernel_rfl) (by kernel_rfl) (by kernel_rfl) (fun _ _ _ h => h) (Or.inl ⟨by rfl, ?_⟩) hHeld ?_
              rotate_left
              · (intro w hSw; (try dsimp only at hSw); go_simp; try with_reducible rfl)
              try simp only [Act.put, List.setIfInBounds_toArray, List.set_cons_zero, List.set_cons_succ]
              refine wpAnyH_take (i := 3) (oi := { dst := some 78, op := Op.move (Operand.tmp 11), type := 3, pos := "law.go:185", after := #[{ on := 2, ground := Ground.guard }], guard := some (2, false) }) (v := ?_) rfl (by kernel_rfl) (by kernel_rfl) (by kernel_rfl) (fun _ _ _ h => h) (Or.inl ⟨by rfl, ?_⟩) hHeld ?_
              rotate_left
              · (intro w hSw; (try dsimp only at hSw); go_simp; try with_reducible rfl)
              try simp only [Act.put, List.setIfInBounds_toArray, List.set_cons_zero, List.set_cons_succ]
              refine wpAnyH_take (i := 4) (oi := { dst := some 79, op := Op.move (Operand.tmp 10), type := 3, pos := "law.go:185", after := #[{ on := 2, ground := Ground.guard }], guard := some (2, false) }) (v := ?_) rfl (by kernel_rfl) (by kernel_rfl) (by kernel_rfl) (fun _ _ _ h => h) (Or.inl ⟨by rfl, ?_⟩) hHeld ?_
              rotate_left
              · (intro w hSw; (try dsimp only at hSw); go_simp; try with_reducible rfl)
              try simp only [Act.put, List.setIfInBounds_toArray, List.set_cons_zero, List.set_cons_succ]
              refine wpAnyH_take (i := 5) (oi := { dst := some 80, op := Op.binOp BinOp.neq 3 (Operand.tmp 78) (Operand.tmp 79) 3, type := 4, pos := "law.go:185", after := #[{ on := 3, ground := Ground.data }, { on := 4, ground := Ground.data }, { on := 2, ground := Ground.guard }], guard := some (2, false) }) (v := ?_) rfl (by kernel_rfl) (by kernel_rfl) (by kernel_rfl) (fun _ _ _ h => h) (Or.inl ⟨by rfl, ?_⟩) hHeld ?_
              rotate_left
              · (intro w hSw; (try dsimp only at hSw); go_simp; try with_reducible rfl)
              try simp only [Act.put, List.setIfInBounds_toArray, List.set_cons_zero, List.set_cons_succ]
              refine wpAnyH_take (i := 6) (oi := { dst := some 81, op := Op.pick (Operand.tmp 77) (Operand.const (Value.bool true)) (Operand.tmp 80), type := 4, pos := "law.go:185", after := #[{ on := 2, ground := Ground.data }, { on := 5, ground := Ground.data }], guard := none }) (v := ?_) rfl (by kernel_rfl) (by kernel_rfl) (by kernel_rfl) (fun _ _ _ h => h) (Or.inl ⟨by rfl, ?_⟩) hHeld ?_
              rotate_left
              · (intro w hSw; (try dsimp only at hSw); go_simp; try with_reducible rfl)
              try simp only [Act.put, List.setIfInBounds_toArray, List.set_cons_zero, List.set_cons_succ]
              refine wpAnyH_take (i := 7) (oi := { dst := some 82, op := Op.move (Operand.tmp 81), type := 4, pos := "law.go:185", after := #[{ on := 6, ground := Ground.data }, { on := 2, ground := Ground.chain }], guard := none }) (v := ?_) rfl (by kernel_rfl) (by kernel_rfl) (by kernel_rfl) (fun _ _ _ h => h) (Or.inl ⟨by rfl, ?_⟩) hHeld ?_
              rotate_left
              · (intro w hSw; (try dsimp only at hSw); go_simp; try with_reducible rfl)
              try simp only [Act.put, List.setIfInBounds_toArray, List.set_cons_zero, List.set_cons_succ]
              refine wpAnyH_take (i := 8) (oi := { dst := some 83, op := Op.move (Operand.tmp 8), type := 3, pos := "law.go:185", after := #[{ on := 7, ground := Ground.guard }], guard := some (7, false) }) (v := ?_) rfl (by kernel_rfl) (by kernel_rfl) (by kernel_rfl) (fun _ _ _ h => h) (Or.inl ⟨by rfl, ?_⟩) hHeld ?_
              rotate_left
              · (intro w hSw; (try dsimp only at hSw); go_simp; try with_reducible rfl)
              try simp only [Act.put, List.setIfInBounds_toArray, List.set_cons_zero, List.set_cons_succ]
              refine wpAnyH_take (i := 9) (oi := { dst := some 84, op := Op.indexAddr 66 (Operand.tmp 5) (Operand.tmp 83), type := 0, pos := "law.go:185", after := #[{ on := 8, ground := Ground.data }, { on := 7, ground := Ground.guard }], guard := some (7, false) }) (v := ?_) rfl (by kernel_rfl) (by kernel_rfl) (by kernel_rfl) (fun _ _ _ h => h) (Or.inl ⟨by rfl, ?_⟩) hHeld ?_
              rotate_left
              · (intro w hSw; (try dsimp only at hSw); go_simp; try with_reducible rfl)
              try simp only [Act.put, List.setIfInBounds_toArray, List.set_cons_zero, List.set_cons_succ]
              refine wpAnyH_take (i := 10) (oi := { dst := some 85, op := Op.load 25 (Operand.tmp 84), type := 25, pos := "law.go:185", after := #[{ on := 9, ground := Ground.data }, { on := 7, ground := Ground.guard }], guard := some (7, false) }) (v := ?_) rfl (by kernel_rfl) (by kernel_rfl) (by kernel_rfl) (fun _ _ _ h => h) (Or.inl ⟨by rfl, ?_⟩) hHeld ?_
              rotate_left
              · (intro w hSw; (try dsimp only at hSw); go_simp; try with_reducible rfl)
              try simp only [Act.put, List.setIfInBounds_toArray, List.set_cons_zero, List.set_cons_succ]
              refine wpAnyH_take (i := 11) (oi := { dst := some 86, op := Op.move (Operand.tmp 8), type := 3, pos := "law.go:185", after := #[{ on := 7, ground := Ground.guard }], guard := some (7, false) }) (v := ?_) rfl (by kernel_rfl) (by kernel_rfl) (by kernel_rfl) (fun _ _ _ h => h) (Or.inl ⟨by rfl, ?_⟩) hHeld ?_
              rotate_left
              · (intro w hSw; (try dsimp only at hSw); go_simp; try with_reducible rfl)
              try simp only [Act.put, List.setIfInBounds_toArray, List.set_cons_zero, List.set_cons_succ]
              refine wpAnyH_take (i := 12) (oi := { dst := some 87, op := Op.indexAddr 72 (Operand.tmp 6) (Operand.tmp 86), type := 0, pos := "law.go:185", after := #[{ on := 11, ground := Ground.data }, { on := 7, ground := Ground.guard }], guard := some (7, false) }) (v := ?_) rfl (by kernel_rfl) (by kernel_rfl) (by kernel_rfl) (fun _ _ _ h => h) (Or.inl ⟨by rfl, ?_⟩) hHeld ?_
              rotate_left
              · (intro w hSw; (try dsimp only at hSw); go_simp; try with_reducible rfl)
              try simp only [Act.put, List.setIfInBounds_toArray, List.set_cons_zero, List.set_cons_succ]
              refine wpAnyH_take (i := 13) (oi := { dst := some 88, op := Op.load 67 (Operand.tmp 87), type := 67, pos := "law.go:185", after := #[{ on := 12, ground := Ground.data }, { on := 7, ground := Ground.guard }], guard := some (7, false) }) (v := ?_) rfl (by kernel_rfl) (by kernel_rfl) (by kernel_rfl) (fun _ _ _ h => h) (Or.inl ⟨by rfl, ?_⟩) hHeld ?_
              rotate_left
              · (intro w hSw; (try dsimp only at hSw); go_simp; try with_reducible rfl)
              try simp only [Act.put, List.setIfInBounds_toArray, List.set_cons_zero, List.set_cons_succ]
              refine wpAnyH_take (i := 14) (oi := { dst := some 89, op := Op.move (Operand.tmp 9), type := 40, pos := "law.go:185", after := #[{ on := 7, ground := Ground.guard }], guard := some (7, false) }) (v := ?_) rfl (by kernel_rfl) (by kernel_rfl) (by kernel_rfl) (fun _ _ _ h => h) (Or.inl ⟨by rfl, ?_⟩) hHeld ?_
              rotate_left
              · (intro w hSw; (try dsimp only at hSw); go_simp; try with_reducible rfl)
              try simp only [Act.put, List.setIfInBounds_toArray, List.set_cons_zero, List.set_cons_succ]
              refine wpAnyH_take (i := 15) (oi := { dst := some 90, op := Op.move (Operand.tmp 7), type := 3, pos := "law.go:185", after := #[{ on := 7, ground := Ground.guard }], guard := some (7, false) }) (v := ?_) rfl (by kernel_rfl) (by kernel_rfl) (by kernel_rfl) (fun _ _ _ h => h) (Or.inl ⟨by rfl, ?_⟩) hHeld ?_
              rotate_left
              · (intro w hSw; (try dsimp only at hSw); go_simp; try with_reducible rfl)
              try simp only [Act.put, List.setIfInBounds_toArray, List.set_cons_zero, List.set_cons_succ]
              refine wpAnyH_take (i := 16) (oi := { dst := some 91, op := Op.indexAddr 40 (Operand.tmp 89) (Operand.tmp 90), type := 0, pos := "law.go:185", after := #[{ on := 14, ground := Ground.data }, { on := 15, ground := Ground.data }, { on := 7, ground := Ground.guard }], guard := some (7, false) }) (v := ?_) rfl (by kernel_rfl) (by kernel_rfl) (by kernel_rfl) (fun _ _ _ h => h) (Or.inl ⟨by rfl, ?_⟩) hHeld ?_
              rotate_left
              · (intro w hSw; (try dsimp only at hSw); go_simp; try with_reducible rfl)
              try simp only [Act.put, List.setIfInBounds_toArray, List.set_cons_zero, List.set_cons_succ]
              refine wpAnyH_take (i := 17) (oi := { dst := some 92, op := Op.load 45 (Operand.tmp 91), type := 45, pos := "law.go:185", after := #[{ on := 16, ground := Ground.data }, { on := 7, ground := Ground.guard }], guard := some (7, false) }) (v := ?_) rfl (by kernel_rfl) (by kernel_rfl) (by kernel_rfl) (fun _ _ _ h => h) (Or.inl ⟨by rfl, ?_⟩) hHeld ?_
              rotate_left
              · (intro w hSw; (try dsimp only at hSw); go_simp; try with_reducible rfl)
              try simp only [Act.put, List.setIfInBounds_toArray, List.set_cons_zero, List.set_cons_succ]
              refine wpAnyH_ready (rs := [18]) (by kernel_rfl) (by simp) ?_
              refine AllReadyH.cons (o := { dst := some 93, op := Op.call { callee := Callee.value (Operand.func 28), args := #[Operand.tmp 85, Operand.tmp 88, Operand.tmp 92], argTypes := #[25, 67, 45] }, type := 4, pos := "law.go:185", after := #[{ on := 10, ground := Ground.data }, { on := 13, ground := Ground.data }, { on := 17, ground := Ground.data }, { on := 7, ground := Ground.chain }, { on := 7, ground := Ground.guard }], guard := some (7, false) }) rfl (fun K hK => ?_) AllReadyH.nil
              go_simp
              go_at_call 28
              refine Calls.mono ASK.out ?_
              rintro e w6 ⟨rfl, hb6⟩
              have SC6 : Hid (Scr4 T5 T6 #[.pointer (some ⟨P1, 0, none⟩), .pointer (some ⟨P2, 0, none⟩)] #[.pointer (some ⟨Q1, 0, none⟩), .pointer (some ⟨Q2, 0, none⟩)] w w6 P1 Q1 P2 Q2 lN xN DN l2 x2 D2) := SC5.out.below hb6
              clear hb6 ASK SC5
              try go_wp2_with fail
              refine hK.out _ _ ?_ (fun hHeld_18 => ?_)
              · exact ⟨S5.out _ SC6.out.k5, S6.out _ SC6.out.k6, CE.out _ SC6.out.b⟩
              clear hK K
              try simp only [Act.put, List.setIfInBounds_toArray, List.set_cons_zero, List.set_cons_succ]
              refine wpAnyH_take (i := 19) (oi := { dst := some 94, op := Op.unOp UnOp.not 4 (Operand.tmp 93), type := 4, pos := "law.go:185", after := #[{ on := 18, ground := Ground.data }, { on := 7, ground := Ground.guard }], guard := some (7, false) }) (v := ?_) rfl (by kernel_rfl) (by kernel_rfl) (by kernel_rfl) (fun _ _ _ h => h) (Or.inl ⟨by rfl, ?_⟩) hHeld_18 ?_
              rotate_left
              · (intro w hSw; (try dsimp only at hSw); go_simp; try with_reducible rfl)
              try simp only [Act.put, List.setIfInBounds_toArray, List.set_cons_zero, List.set_cons_succ]
              refine wpAnyH_take (i := 20) (oi := { dst := some 95, op := Op.pick (Operand.tmp 82) (Operand.const (Value.bool true)) (Operand.tmp 94), type := 4, pos := "law.go:185", after := #[{ on := 7, ground := Ground.data }, { on := 19, ground := Ground.data }], guard := none }) (v := ?_) rfl (by kernel_rfl) (by kernel_rfl) (by kernel_rfl) (fun _ _ _ h => h) (Or.inl ⟨by rfl, ?_⟩) hHeld_18 ?_
              rotate_left
              · (intro w hSw; (try dsimp only at hSw); go_simp; try with_reducible rfl)
              try simp only [Act.put, List.setIfInBounds_toArray, List.set_cons_zero, List.set_cons_succ]
              refine wpAnyH_done (by kernel_rfl) ?_ _
              have NX : Hid (StP T5 T6 #[.pointer (some ⟨P1, 0, none⟩), .pointer (some ⟨P2, 0, none⟩)] #[.pointer (some ⟨Q1, 0, none⟩), .pointer (some ⟨Q2, 0, none⟩)] w P1 Q1 P2 Q2 (i + 1) i w6) := ⟨lN, xN, DN, l2, x2, D2, GN.out, AN.out, GA.out.2.2.1, GA.out.2.2.2, SC6.out⟩
              clear S5 S6 CE GA AN GN SC6 HSE XO HNE
              go_wp2
              exact ⟨⟨1, by omega, by go_num, NX.out⟩, by simp [intOf]⟩
            · have n1 : ¬ (i : Int) < (n : Int) := by omega
              have n2 : (n : Int) ≤ (i : Int) := by omega
              have NX : Hid (StP T5 T6 #[.pointer (some ⟨P1, 0, none⟩), .pointer (some ⟨P2, 0, none⟩)] #[.pointer (some ⟨Q1, 0, none⟩), .pointer (some ⟨Q2, 0, none⟩)] w P1 Q1 P2 Q2 (i + 1) i wr) := HK.out.up (by omega) (by omega)
              clear HK
              go_wp2
              exact ⟨⟨1, by omega, by go_num, NX.out⟩, by simp [intOf]⟩
          by_cases k1 : k = 1
          · subst k1
            have HK : Hid (StP T5 T6 #[.pointer (some ⟨P1, 0, none⟩), .pointer (some ⟨P2, 0, none⟩)] #[.pointer (some ⟨Q1, 0, none⟩), .pointer (some ⟨Q2, 0, none⟩)] w P2 Q2 P1 Q1 i (i + 1) wr) := hK.out.swap
            clear hK
            rw [show ((1 : Nat) : Int) = 1 from rfl]
            by_cases hin : i < n'
            · have n1 : (i : Int) < (n' : Int) := by omega
              obtain ⟨x, hx⟩ : ∃ x, os'[i]? = some x := ⟨_, List.getElem?_eq_getElem (by rw [OPT.out.2.2]; exact hin)⟩
              have hxm := List.mem_of_getElem? hx
              obtain ⟨b, off, ea, q0, q1, q2, q3, q4, q5⟩ := OPT.out.1 i x hx
              have XO : Hid (OpOk 1048576 x.o ∧ x.o.lab.size ≤ 281474976710656 ∧ NsAt w x.ea x.o.e) := ⟨OPT.out.2.1.o x hxm, OPT.out.2.1.l x hxm, q5⟩
              subst ea
              obtain ⟨ne, hne⟩ : ∃ ne, x.o.e.length = ne := ⟨_, rfl⟩
              have HNE : Hid (x.o.e.length = ne) := hne
              rw [hne] at q4
              have CE : Hid (∀ W, Below w.heap.size w W → W.cell? ⟨b, off + i * 5, none⟩ = some (.int .i64 x.o.k) ∧ W.cell? ⟨b, off + i * 5 + 1, none⟩ = some (.string x.o.lab) ∧ W.cell? ⟨b, off + i * 5 + 2, none⟩ = some (.int .i64 x.o.a) ∧ W.cell? ⟨b, off + i * 5 + 3, none⟩ = some (.int .i64 x.o.b) ∧ W.cell? ⟨b, off + i * 5 + 4, none⟩ = some (.slice x.ea ne x.ec)) := fun W hW => ⟨cell_under hW q0, cell_under hW q1, cell_under hW q2, cell_under hW q3, cell_under hW q4⟩
              clear q0 q1 q2 q3 q4 q5 hx hxm hne
              obtain ⟨l1, x1, D1, l2, x2, D2, g1, al1, g2, al2, sc⟩ := HK.out
              have GA : Hid (Good i 1048576 l1 ∧ Alike i l1 x1 D1 ∧ Good (i + 1) 1048576 l2 ∧ Alike (i + 1) l2 x2 D2) := ⟨g1, al1, g2, al2⟩
              have SC : Hid (Scr4 T5 T6 #[.pointer (some ⟨P1, 0, none⟩), .pointer (some ⟨P2, 0, none⟩)] #[.pointer (some ⟨Q1, 0, none⟩), .pointer (some ⟨Q2, 0, none⟩)] w wr.drew P2 Q2 P1 Q1 l1 x1 D1 l2 x2 D2) := sc.below (fr_below_drewN (Below.refl _ _) 1)
              clear g1 al1 g2 al2 sc HK
              obtain ⟨lN, hlN⟩ : ∃ lN, sayL l1 x.o = lN := ⟨_, rfl⟩
              obtain ⟨SE, hSE⟩ : ∃ SE, sayE l1 x.o = SE := ⟨_, rfl⟩
              have HSE : Hid (sayL l1 x.o = lN ∧ sayE l1 x.o = SE) := ⟨hlN, hSE⟩
              clear hlN hSE
              have DOC : Hid _ := sc_doc SC.out GA.out.2.1 GA.out.1 (by omega) x XO.out.1 XO.out.2.2 ne HNE.out
              rw [HSE.out.1, HSE.out.2] at DOC
              have S6 : Hid (∀ W : World, W.heap[T6]? = some (.cells #[.pointer (some ⟨Q1, 0, none⟩), .pointer (some ⟨Q2, 0, none⟩)] 72 (0, 0)) → W.cell? ⟨T6, 1, none⟩ = some (.pointer (some ⟨Q2, 0, none⟩))) := fun W h => M.cell_whole h 1
              have S5 : Hid (∀ W : World, W.heap[T5]? = some (.cells #[.pointer (some ⟨P1, 0, none⟩), .pointer (some ⟨P2, 0, none⟩)] 66 (0, 0)) → W.cell? ⟨T5, 1, none⟩ = some (.pointer (some ⟨P2, 0, none⟩))) := fun W h => M.cell_whole h 1
              go_upto_region 15 with fail
              refine wp_region_held_drew (S := fun w' => w'.cell? ⟨T6, 1, none⟩ = some (.pointer (some ⟨Q2, 0, none⟩)) ∧ w'.cell? ⟨b, off + i * 5, none⟩ = some (.int .i64 x.o.k) ∧ w'.cell? ⟨b, off + i * 5 + 1, none⟩ = some (.string x.o.lab) ∧ w'.cell? ⟨b, off + i * 5 + 2, none⟩ = some (.int .i64 x.o.a) ∧ w'.cell? ⟨b, off + i * 5 + 3, none⟩ = some (.int .i64 x.o.b) ∧ w'.cell? ⟨b, off + i * 5 + 4, none⟩ = some (.slice x.ea ne x.ec)) (by kernel_rfl) ?_ (fun hHeld => ?_)
              · exact ⟨S6.out _ SC.out.k6, CE.out _ SC.out.b⟩
              refine wpAnyH_take (i := 0) (oi := { dst := some 56, op := Op.move (Operand.tmp 8), type := 3, pos := "law.go:183", after := #[], guard := none }) (v := ?_) rfl (by kernel_rfl) (by kernel_rfl) (by kernel_rfl) (fun _ _ _ h => h) (Or.inl ⟨by rfl, ?_⟩) hHeld ?_
              rotate_left
              · (intro w hSw; (try dsimp only at hSw); go_simp; try with_reducible rfl)
              try simp only [Act.put, List.setIfInBounds_toArray, List.set_cons_zero, List.set_cons_succ]
              refine wpAnyH_take (i := 1) (oi := { dst := some 57, op := Op.indexAddr 72 (Operand.tmp 6) (Operand.tmp 56), type := 0, pos := "law.go:183", after := #[{ on := 0, ground := Ground.data }], guard := none }) (v := ?_) rfl (by kernel_rfl) (by kernel_rfl) (by kernel_rfl) (fun _ _ _ h => h) (Or.inl ⟨by rfl, ?_⟩) hHeld ?_
              rotate_left
              · (intro w hSw; (try dsimp only at hSw); go_simp; try with_reducible rfl)
              try simp only [Act.put, List.setIfInBounds_toArray, List.set_cons_zero, List.set_cons_succ]
              refine wpAnyH_take (i := 2) (oi := { dst := some 58, op := Op.load 67 (Operand.tmp 57), type := 67, pos := "law.go:183", after := #[{ on := 1, ground := Ground.data }], guard := none }) (v := ?_) rfl (by kernel_rfl) (by kernel_rfl) (by kernel_rfl) (fun _ _ _ h => h) (Or.inl ⟨by rfl, ?_⟩) hHeld ?_
              rotate_left
              · (intro w hSw; (try dsimp only at hSw); go_simp; try with_reducible rfl)
              try simp only [Act.put, List.setIfInBounds_toArray, List.set_cons_zero, List.set_cons_succ]
              refine wpAnyH_take (i := 3) (oi := { dst := some 59, op := Op.move (Operand.tmp 9), type := 40, pos := "law.go:183", after := #[], guard := none }) (v := ?_) rfl (by kernel_rfl) (by kernel_rfl) (by kernel_rfl) (fun _ _ _ h => h) (Or.inl ⟨by rfl, ?_⟩) hHeld ?_
              rotate_left
              · (intro w hSw; (try dsimp only at hSw); go_simp; try with_reducible rfl)
              try simp only [Act.put, List.setIfInBounds_toArray, List.set_cons_zero, List.set_cons_succ]
              refine wpAnyH_take (i := 4) (oi := { dst := some 60, op := Op.move (Operand.tmp 7), type := 3, pos := "law.go:183", after := #[], guard := none }) (v := ?_) rfl (by kernel_rfl) (by kernel_rfl) (by kernel_rfl) (fun _ _ _ h => h) (Or.inl ⟨by rfl, ?_⟩) hHeld ?_
              rotate_left
              · (intro w hSw; (try dsimp only at hSw); go_simp; try with_reducible rfl)
              try simp only [Act.put, List.setIfInBounds_toArray, List.set_cons_zero, List.set_cons_succ]
              refine wpAnyH_take (i := 5) (oi := { dst := some 61, op := Op.indexAddr 40 (Operand.tmp 59) (Operand.tmp 60), type := 0, pos := "law.go:183", after := #[{ on := 3, ground := Ground.data }, { on := 4, ground := Ground.data }], guard := none }) (v := ?_) rfl (by kernel_rfl) (by kernel_rfl) (by kernel_rfl) (fun _ _ _ h => h) (Or.inl ⟨by rfl, ?_⟩) hHeld ?_
              rotate_left
              · (intro w hSw; (try dsimp only at hSw); go_simp; try with_reducible rfl)
              try simp only [Act.put, List.setIfInBounds_toArray, List.set_cons_zero, List.set_cons_succ]
              refine wpAnyH_take (i := 6) (oi := { dst := some 62, op := Op.load 45 (Operand.tmp 61), type := 45, pos := "law.go:183", after := #[{ on := 5, ground := Ground.data }], guard := none }) (v := ?_) rfl (by kernel_rfl) (by kernel_rfl) (by kernel_rfl) (fun _ _ _ h => h) (Or.inl ⟨by rfl, ?_⟩) hHeld ?_
              rotate_left
              · (intro w hSw; (try dsimp only at hSw); go_simp; try with_reducible rfl)
              try simp only [Act.put, List.setIfInBounds_toArray, List.set_cons_zero, List.set_cons_succ]
              refine wpAnyH_ready (rs := [7]) (by kernel_rfl) (by simp) ?_
              refine AllReadyH.cons (o := { dst := some 63, op := Op.call { callee := Callee.value (Operand.func 27), args := #[Operand.tmp 58, Operand.tmp 62], argTypes := #[67, 45] }, type := 3, pos := "law.go:183", after := #[{ on := 2, ground := Ground.data }, { on := 6, ground := Ground.data }], guard := none }) rfl (fun K hK => ?_) AllReadyH.nil
              go_simp
              go_at_call 27
              refine Calls.mono DOC.out ?_
              rintro e w2 ⟨xN, DN, rfl, hal, hsc⟩
              have AN : Hid (Alike (i + 1) lN xN DN) := hal
              have SC2 : Hid (Scr4 T5 T6 #[.pointer (some ⟨P1, 0, none⟩), .pointer (some ⟨P2, 0, none⟩)] #[.pointer (some ⟨Q1, 0, none⟩), .pointer (some ⟨Q2, 0, none⟩)] w w2 P2 Q2 P1 Q1 l1 xN DN l2 x2 D2) := hsc
              clear hal hsc DOC SC
              try go_wp2_with fail
              refine hK.out _ _ ?_ (fun hHeld_7 => ?_)
              · exact ⟨S6.out _ SC2.out.k6, CE.out _ SC2.out.b⟩
              clear hK K
              try simp only [Act.put, List.setIfInBounds_toArray, List.set_cons_zero, List.set_cons_succ]
              refine wpAnyH_take (i := 8) (oi := { dst := some 10, op := Op.assign (Operand.tmp 63), type := 3, pos := "law.go:183", after := #[{ on := 7, ground := Ground.data }, { on := 7, ground := Ground.chain }, { on := 0, ground := Ground.phase }, { on := 1, ground := Ground.phase }, { on := 2, ground := Ground.phase }, { on := 3, ground := Ground.phase }, { on := 4, ground := Ground.phase }, { on := 5, ground := Ground.phase }, { on := 6, ground := Ground.phase }, { on := 7, ground := Ground.phase }], guard := none }) (v := ?_) rfl (by kernel_rfl) (by kernel_rfl) (by kernel_rfl) (fun _ _ _ h => h) (Or.inl ⟨by rfl, ?_⟩) hHeld_7 ?_
              rotate_left
              · (intro w hSw; (try dsimp only at hSw); go_simp; try with_reducible rfl)
              try simp only [Act.put, List.setIfInBounds_toArray, List.set_cons_zero, List.set_cons_succ]
              refine wpAnyH_done (by kernel_rfl) ?_ _
              have SC3 : Hid (Scr4 T5 T6 #[.pointer (some ⟨P1, 0, none⟩), .pointer (some ⟨P2, 0, none⟩)] #[.pointer (some ⟨Q1, 0, none⟩), .pointer (some ⟨Q2, 0, none⟩)] w w2.drew P2 Q2 P1 Q1 l1 xN DN l2 x2 D2) := SC2.out.below (fr_below_drewN (Below.refl _ _) 1)
              have SAY : Hid _ := sc_says SC3.out GA.out.1 (by omega) x XO.out.1 XO.out.2.1 XO.out.2.2 ne HNE.out
              rw [HSE.out.1, HSE.out.2] at SAY
              clear SC2
              go_upto_region 16 with fail
              refine wp_region_held_drew (S := fun w' => w'.cell? ⟨T5, 1, none⟩ = some (.pointer (some ⟨P2, 0, none⟩)) ∧ w'.cell? ⟨b, off + i * 5, none⟩ = some (.int .i64 x.o.k) ∧ w'.cell? ⟨b, off + i * 5 + 1, none⟩ = some (.string x.o.lab) ∧ w'.cell? ⟨b, off + i * 5 + 2, none⟩ = some (.int .i64 x.o.a) ∧ w'.cell? ⟨b, off + i * 5 + 3, none⟩ = some (.int .i64 x.o.b) ∧ w'.cell? ⟨b, off + i * 5 + 4, none⟩ = some (.slice x.ea ne x.ec)) (by kernel_rfl) ?_ (fun hHeld => ?_)
              · exact ⟨S5.out _ SC3.out.k5, CE.out _ SC3.out.b⟩
              refine wpAnyH_take (i := 0) (oi := { dst := some 65, op := Op.move (Operand.tmp 8), type := 3, pos := "law.go:184", after := #[], guard := none }) (v := ?_) rfl (by kernel_rfl) (by kernel_rfl) (by kernel_rfl) (fun _ _ _ h => h) (Or.inl ⟨by rfl, ?_⟩) hHeld ?_
              rotate_left
              · (intro w hSw; (try dsimp only at hSw); go_simp; try with_reducible rfl)
              try simp only [Act.put, List.setIfInBounds_toArray, List.set_cons_zero, List.set_cons_succ]
              refine wpAnyH_take (i := 1) (oi := { dst := some 66, op := Op.indexAddr 66 (Operand.tmp 5) (Operand.tmp 65), type := 0, pos := "law.go:184", after := #[{ on := 0, ground := Ground.data }], guard := none }) (v := ?_) rfl (by kernel_rfl) (by kernel_rfl) (by kernel_rfl) (fun _ _ _ h => h) (Or.inl ⟨by rfl, ?_⟩) hHeld ?_
              rotate_left
              · (intro w hSw; (try dsimp only at hSw); go_simp; try with_reducible rfl)
              try simp only [Act.put, List.setIfInBounds_toArray, List.set_cons_zero, List.set_cons_succ]
              refine wpAnyH_take (i := 2) (oi := { dst := some 67, op := Op.load 25 (Operand.tmp 66), type := 25, pos := "law.go:184", after := #[{ on := 1, ground := Ground.data }], guard := none }) (v := ?_) rfl (by kernel_rfl) (by kernel_rfl) (by kernel_rfl) (fun _ _ _ h => h) (Or.inl ⟨by rfl, ?_⟩) hHeld ?_
              rotate_left
              · (intro w hSw; (try dsimp only at hSw); go_simp; try with_reducible rfl)
              try simp only [Act.put, List.setIfInBounds_toArray, List.set_cons_zero, List.set_cons_succ]
              refine wpAnyH_take (i := 3) (oi := { dst := some 68, op := Op.move (Operand.tmp 9), type := 40, pos := "law.go:184", after := #[], guard := none }) (v := ?_) rfl (by kernel_rfl) (by kernel_rfl) (by kernel_rfl) (fun _ _ _ h => h) (Or.inl ⟨by rfl, ?_⟩) hHeld ?_
              rotate_left
              · (intro w hSw; (try dsimp only at hSw); go_simp; try with_reducible rfl)
              try simp only [Act.put, List.setIfInBounds_toArray, List.set_cons_zero, List.set_cons_succ]
              refine wpAnyH_take (i := 4) (oi := { dst := some 69, op := Op.move (Operand.tmp 7), type := 3, pos := "law.go:184", after := #[], guard := none }) (v := ?_) rfl (by kernel_rfl) (by kernel_rfl) (by kernel_rfl) (fun _ _ _ h => h) (Or.inl ⟨by rfl, ?_⟩) hHeld ?_
              rotate_left
              · (intro w hSw; (try dsimp only at hSw); go_simp; try with_reducible rfl)
              try simp only [Act.put, List.setIfInBounds_toArray, List.set_cons_zero, List.set_cons_succ]
              refine wpAnyH_take (i := 5) (oi := { dst := some 70, op := Op.indexAddr 40 (Operand.tmp 68) (Operand.tmp 69), type := 0, pos := "law.go:184", after := #[{ on := 3, ground := Ground.data }, { on := 4, ground := Ground.data }], guard := none }) (v := ?_) rfl (by kernel_rfl) (by kernel_rfl) (by kernel_rfl) (fun _ _ _ h => h) (Or.inl ⟨by rfl, ?_⟩) hHeld ?_
              rotate_left
              · (intro w hSw; (try dsimp only at hSw); go_simp; try with_reducible rfl)
              try simp only [Act.put, List.setIfInBounds_toArray, List.set_cons_zero, List.set_cons_succ]
              refine wpAnyH_take (i := 6) (oi := { dst := some 71, op := Op.load 45 (Operand.tmp 70), type := 45, pos := "law.go:184", after := #[{ on := 5, ground := Ground.data }], guard := none }) (v := ?_) rfl (by kernel_rfl) (by kernel_rfl) (by kernel_rfl) (fun _ _ _ h => h) (Or.inl ⟨by rfl, ?_⟩) hHeld ?_
              rotate_left
              · (intro w hSw; (try dsimp only at hSw); go_simp; try with_reducible rfl)
              try simp only [Act.put, List.setIfInBounds_toArray, List.set_cons_zero, List.set_cons_succ]
              refine wpAnyH_ready (rs := [7]) (by kernel_rfl) (by simp) ?_
              refine AllReadyH.cons (o := { dst := some 72, op := Op.call { callee := Callee.value (Operand.func 16), args := #[Operand.tmp 67, Operand.tmp 71], argTypes := #[25, 45] }, type := 42, pos := "law.go:184", after := #[{ on := 2, ground := Ground.data }, { on := 6, ground := Ground.data }], guard := none }) rfl (fun K hK => ?_) AllReadyH.nil
              go_simp
              go_at_call 16
              refine Calls.mono SAY.out ?_
              rintro e w4 ⟨rfl, hsc⟩
              have SC4 : Hid (Scr4 T5 T6 #[.pointer (some ⟨P1, 0, none⟩), .pointer (some ⟨P2, 0, none⟩)] #[.pointer (some ⟨Q1, 0, none⟩), .pointer (some ⟨Q2, 0, none⟩)] w w4 P2 Q2 P1 Q1 lN xN DN l2 x2 D2) := hsc
              clear hsc SAY SC3
              try go_wp2_with fail
              refine hK.out _ _ ?_ (fun hHeld_7 => ?_)
              · exact ⟨S5.out _ SC4.out.k5, CE.out _ SC4.out.b⟩
              clear hK K
              try simp only [Act.put, List.setIfInBounds_toArray, List.set_cons_zero, List.set_cons_succ]
              refine wpAnyH_take (i := 8) (oi := { dst := some 64, op := Op.move (Operand.tmp 72), type := 42, pos := "law.go:184", after := #[{ on := 7, ground := Ground.data }], guard := none }) (v := ?_) rfl (by kernel_rfl) (by kernel_rfl) (by kernel_rfl) (fun _ _ _ h => h) (Or.inl ⟨by rfl, ?_⟩) hHeld_7 ?_
              rotate_left
              · (intro w hSw; (try dsimp only at hSw); go_simp; try with_reducible rfl)
              try simp only [Act.put, List.setIfInBounds_toArray, List.set_cons_zero, List.set_cons_succ]
              refine wpAnyH_take (i := 9) (oi := { dst := some 73, op := Op.extract (Operand.tmp 64) 0, type := 3, pos := "law.go:184", after := #[{ on := 8, ground := Ground.data }], guard := none }) (v := ?_) rfl (by kernel_rfl) (by kernel_rfl) (by kernel_rfl) (fun _ _ _ h => h) (Or.inl ⟨by rfl, ?_⟩) hHeld_7 ?_
              rotate_left
              · (intro w hSw; (try dsimp only at hSw); go_simp; try with_reducible rfl)
              try simp only [Act.put, List.setIfInBounds_toArray, List.set_cons_zero, List.set_cons_succ]
              refine wpAnyH_take (i := 10) (oi := { dst := some 74, op := Op.extract (Operand.tmp 64) 1, type := 4, pos := "law.go:184", after := #[{ on := 8, ground := Ground.data }, { on := 11, ground := Ground.gcOnly Departure.lateStores }], guard := none }) (v := ?_) rfl (by kernel_rfl) (by kernel_rfl) (by kernel_rfl) (fun _ _ _ h => h) (Or.inl ⟨by rfl, ?_⟩) hHeld_7 ?_
              rotate_left
              · (intro w hSw; (try dsimp only at hSw); go_simp; try with_reducible rfl)
              try simp only [Act.put, List.setIfInBounds_toArray, List.set_cons_zero, List.set_cons_succ]
              refine wpAnyH_take (i := 11) (oi := { dst := some 11, op := Op.assign (Operand.tmp 73), type := 3, pos := "law.go:184", after := #[{ on := 9, ground := Ground.data }, { on := 7, ground := Ground.chain }, { on := 0, ground := Ground.phase }, { on := 1, ground := Ground.phase }, { on := 2, ground := Ground.phase }, { on := 3, ground := Ground.phase }, { on := 4, ground := Ground.phase }, { on := 5, ground := Ground.phase }, { on := 6, ground := Ground.phase }, { on := 7, ground := Ground.phase }, { on := 8, ground := Ground.phase }, { on := 9, ground := Ground.phase }, { on := 10, ground := Ground.textOnly Departure.lateStores }], guard := none }) (v := ?_) rfl (by kernel_rfl) (by kernel_rfl) (by kernel_rfl) (fun _ _ _ h => h) (Or.inl ⟨by rfl, ?_⟩) hHeld_7 ?_
              rotate_left
              · (intro w hSw; (try dsimp only at hSw); go_simp; try with_reducible rfl)
              try simp only [Act.put, List.setIfInBounds_toArray, List.set_cons_zero, List.set_cons_succ]
              refine wpAnyH_take (i := 12) (oi := { dst := some 12, op := Op.assign (Operand.tmp 74), type := 4, pos := "law.go:184", after := #[{ on := 10, ground := Ground.data }, { on := 11, ground := Ground.chain }, { on := 0, ground := Ground.phase }, { on := 1, ground := Ground.phase }, { on := 2, ground := Ground.phase }, { on := 3, ground := Ground.phase }, { on := 4, ground := Ground.phase }, { on := 5, ground := Ground.phase }, { on := 6, ground := Ground.phase }, { on := 7, ground := Ground.phase }, { on := 8, ground := Ground.phase }, { on := 9, ground := Ground.phase }, { on := 10, ground := Ground.phase }, { on := 11, ground := Ground.phase }], guard := none }) (v := ?_) rfl (by kernel_rfl) (by kernel_rfl) (by kernel_rfl) (fun _ _ _ h => h) (Or.inl ⟨by rfl, ?_⟩) hHeld_7 ?_
              rotate_left
              · (intro w hSw; (try dsimp only at hSw); go_simp; try with_reducible rfl)
              try simp only [Act.put, List.setIfInBounds_toArray, List.set_cons_zero, List.set_cons_succ]
              refine wpAnyH_done (by kernel_rfl) ?_ _
              have SC5 : Hid (Scr4 T5 T6 #[.pointer (some ⟨P1, 0, none⟩), .pointer (some ⟨P2, 0, none⟩)] #[.pointer (some ⟨Q1, 0, none⟩), .pointer (some ⟨Q2, 0, none⟩)] w w4.drew P2 Q2 P1 Q1 lN xN DN l2 x2 D2) := SC4.out.below (fr_below_drewN (Below.refl _ _) 1)
              have GN : Hid (Good (i + 1) 1048576 lN) := by have h := GA.out.1.step x.o XO.out.1; rw [HSE.out.1] at h; exact h
              have ASK : Hid _ := sc_asks SC5.out AN.out GN.out (by omega) x XO.out.1 XO.out.2.2 ne HNE.out
              clear SC4
              go_upto_region 17 with fail
              refine wp_region_held_drew (S := fun w' => w'.cell? ⟨T5, 1, none⟩ = some (.pointer (some ⟨P2, 0, none⟩)) ∧ w'.cell? ⟨T6, 1, none⟩ = some (.pointer (some ⟨Q2, 0, none⟩)) ∧ w'.cell? ⟨b, off + i * 5, none⟩ = some (.int .i64 x.o.k) ∧ w'.cell? ⟨b, off + i * 5 + 1, none⟩ = some (.string x.o.lab) ∧ w'.cell? ⟨b, off + i * 5 + 2, none⟩ = some (.int .i64 x.o.a) ∧ w'.cell? ⟨b, off + i * 5 + 3, none⟩ = some (.int .i64 x.o.b) ∧ w'.cell? ⟨b, off + i * 5 + 4, none⟩ = some (.slice x.ea ne x.ec)) (by kernel_rfl) ?_ (fun hHeld => ?_)
              · exact ⟨S5.out _ SC5.out.k5, S6.out _ SC5.out.k6, CE.out _ SC5.out.b⟩
              refine wpAnyH_take (i := 0) (oi := { dst := some 75, op := Op.move (Operand.tmp 12), type := 4, pos := "law.go:185", after := #[], guard := none }) (v := ?_) rfl (by kernel_rfl) (by kernel_rfl) (by kernel_rfl) (fun _ _ _ h => h) (Or.inl ⟨by rfl, ?_⟩) hHeld ?_
              rotate_left
              · (intro w hSw; (try dsimp only at hSw); go_simp; try with_reducible rfl)
              try simp only [Act.put, List.setIfInBounds_toArray, List.set_cons_zero, List.set_cons_succ]
              refine wpAnyH_take (i := 1) (oi := { dst := some 76, op := Op.unOp UnOp.not 4 (Operand.tmp 75), type := 4, pos := "law.go:185", after := #[{ on := 0, ground := Ground.data }], guard := none }) (v := ?_) rfl (by kernel_rfl) (by kernel_rfl) (by kernel_rfl) (fun _ _ _ h => h) (Or.inl ⟨by rfl, ?_⟩) hHeld ?_
              rotate_left
              · (intro w hSw; (try dsimp only at hSw); go_simp; try with_reducible rfl)
              try simp only [Act.put, List.setIfInBounds_toArray, List.set_cons_zero, List.set_cons_succ]
              refine wpAnyH_take (i := 2) (oi := { dst := some 77, op := Op.move (Operand.tmp 76), type := 4, pos := "law.go:185", after := #[{ on := 1, ground := Ground.data }], guard := none }) (v := ?_) rfl (by kernel_rfl) (by kernel_rfl) (by kernel_rfl) (fun _ _ _ h => h) (Or.inl ⟨by rfl, ?_⟩) hHeld ?_
              rotate_left
              · (intro w hSw; (try dsimp only at hSw); go_simp; try with_reducible rfl)
              try simp only [Act.put, List.setIfInBounds_toArray, List.set_cons_zero, List.set_cons_succ]
              refine wpAnyH_take (i := 3) (oi := { dst := some 78, op := Op.move (Operand.tmp 11), type := 3, pos := "law.go:185", after := #[{ on := 2, ground := Ground.guard }], guard := some (2, false) }) (v := ?_) rfl (by kernel_rfl) (by kernel_rfl) (by kernel_rfl) (fun _ _ _ h => h) (Or.inl ⟨by rfl, ?_⟩) hHeld ?_
              rotate_left
              · (intro w hSw; (try dsimp only at hSw); go_simp; try with_reducible rfl)
              try simp only [Act.put, List.setIfInBounds_toArray, List.set_cons_zero, List.set_cons_succ]
              refine wpAnyH_take (i := 4) (oi := { dst := some 79, op := Op.move (Operand.tmp 10), type := 3, pos := "law.go:185", after := #[{ on := 2, ground := Ground.guard }], guard := some (2, false) }) (v := ?_) rfl (by kernel_rfl) (by kernel_rfl) (by kernel_rfl) (fun _ _ _ h => h) (Or.inl ⟨by rfl, ?_⟩) hHeld ?_
              rotate_left
              · (intro w hSw; (try dsimp only at hSw); go_simp; try with_reducible rfl)
              try simp only [Act.put, List.setIfInBounds_toArray, List.set_cons_zero, List.set_cons_succ]
              refine wpAnyH_take (i := 5) (oi := { dst := some 80, op := Op.binOp BinOp.neq 3 (Operand.tmp 78) (Operand.tmp 79) 3, type := 4, pos := "law.go:185", after := #[{ on := 3, ground := Ground.data }, { on := 4, ground := Ground.data }, { on := 2, ground := Ground.guard }], guard := some (2, false) }) (v := ?_) rfl (by kernel_rfl) (by kernel_rfl) (by kernel_rfl) (fun _ _ _ h => h) (Or.inl ⟨by rfl, ?_⟩) hHeld ?_
              rotate_left
              · (intro w hSw; (try dsimp only at hSw); go_simp; try with_reducible rfl)
              try simp only [Act.put, List.setIfInBounds_toArray, List.set_cons_zero, List.set_cons_succ]
              refine wpAnyH_take (i := 6) (oi := { dst := some 81, op := Op.pick (Operand.tmp 77) (Operand.const (Value.bool true)) (Operand.tmp 80), type := 4, pos := "law.go:185", after := #[{ on := 2, ground := Ground.data }, { on := 5, ground := Ground.data }], guard := none }) (v := ?_) rfl (by kernel_rfl) (by kernel_rfl) (by kernel_rfl) (fun _ _ _ h => h) (Or.inl ⟨by rfl, ?_⟩) hHeld ?_
              rotate_left
              · (intro w hSw; (try dsimp only at hSw); go_simp; try with_reducible rfl)
              try simp only [Act.put, List.setIfInBounds_toArray, List.set_cons_zero, List.set_cons_succ]
              refine wpAnyH_take (i := 7) (oi := { dst := some 82, op := Op.move (Operand.tmp 81), type := 4, pos := "law.go:185", after := #[{ on := 6, ground := Ground.data }, { on := 2, ground := Ground.chain }], guard := none }) (v := ?_) rfl (by kernel_rfl) (by kernel_rfl) (by kernel_rfl) (fun _ _ _ h => h) (Or.inl ⟨by rfl, ?_⟩) hHeld ?_
              rotate_left
              · (intro w hSw; (try dsimp only at hSw); go_simp; try with_reducible rfl)
              try simp only [Act.put, List.setIfInBounds_toArray, List.set_cons_zero, List.set_cons_succ]
              refine wpAnyH_take (i := 8) (oi := { dst := some 83, op := Op.move (Operand.tmp 8), type := 3, pos := "law.go:185", after := #[{ on := 7, ground := Ground.guard }], guard := some (7, false) }) (v := ?_) rfl (by kernel_rfl) (by kernel_rfl) (by kernel_rfl) (fun _ _ _ h => h) (Or.inl ⟨by rfl, ?_⟩) hHeld ?_
              rotate_left
              · (intro w hSw; (try dsimp only at hSw); go_simp; try with_reducible rfl)
              try simp only [Act.put, List.setIfInBounds_toArray, List.set_cons_zero, List.set_cons_succ]
              refine wpAnyH_take (i := 9) (oi := { dst := some 84, op := Op.indexAddr 66 (Operand.tmp 5) (Operand.tmp 83), type := 0, pos := "law.go:185", after := #[{ on := 8, ground := Ground.data }, { on := 7, ground := Ground.guard }], guard := some (7, false) }) (v := ?_) rfl (by kernel_rfl) (by kernel_rfl) (by kernel_rfl) (fun _ _ _ h => h) (Or.inl ⟨by rfl, ?_⟩) hHeld ?_
              rotate_left
              · (intro w hSw; (try dsimp only at hSw); go_simp; try with_reducible rfl)
              try simp only [Act.put, List.setIfInBounds_toArray, List.set_cons_zero, List.set_cons_succ]
              refine wpAnyH_take (i := 10) (oi := { dst := some 85, op := Op.load 25 (Operand.tmp 84), type := 25, pos := "law.go:185", after := #[{ on := 9, ground := Ground.data }, { on := 7, ground := Ground.guard }], guard := some (7, false) }) (v := ?_) rfl (by kernel_rfl) (by kernel_rfl) (by kernel_rfl) (fun _ _ _ h => h) (Or.inl ⟨by rfl, ?_⟩) hHeld ?_
              rotate_left
              · (intro w hSw; (try dsimp only at hSw); go_simp; try with_reducible rfl)
              try simp only [Act.put, List.setIfInBounds_toArray, List.set_cons_zero, List.set_cons_succ]
              refine wpAnyH_take (i := 11) (oi := { dst := some 86, op := Op.move (Operand.tmp 8), type := 3, pos := "law.go:185", after := #[{ on := 7, ground := Ground.guard }], guard := some (7, false) }) (v := ?_) rfl (by kernel_rfl) (by kernel_rfl) (by kernel_rfl) (fun _ _ _ h => h) (Or.inl ⟨by rfl, ?_⟩) hHeld ?_
              rotate_left
              · (intro w hSw; (try dsimp only at hSw); go_simp; try with_reducible rfl)
              try simp only [Act.put, List.setIfInBounds_toArray, List.set_cons_zero, List.set_cons_succ]
              refine wpAnyH_take (i := 12) (oi := { dst := some 87, op := Op.indexAddr 72 (Operand.tmp 6) (Operand.tmp 86), type := 0, pos := "law.go:185", after := #[{ on := 11, ground := Ground.data }, { on := 7, ground := Ground.guard }], guard := some (7, false) }) (v := ?_) rfl (by kernel_rfl) (by kernel_rfl) (by kernel_rfl) (fun _ _ _ h => h) (Or.inl ⟨by rfl, ?_⟩) hHeld ?_
              rotate_left
              · (intro w hSw; (try dsimp only at hSw); go_simp; try with_reducible rfl)
              try simp only [Act.put, List.setIfInBounds_toArray, List.set_cons_zero, List.set_cons_succ]
              refine wpAnyH_take (i := 13) (oi := { dst := some 88, op := Op.load 67 (Operand.tmp 87), type := 67, pos := "law.go:185", after := #[{ on := 12, ground := Ground.data }, { on := 7, ground := Ground.guard }], guard := some (7, false) }) (v := ?_) rfl (by kernel_rfl) (by kernel_rfl) (by kernel_rfl) (fun _ _ _ h => h) (Or.inl ⟨by rfl, ?_⟩) hHeld ?_
              rotate_left
              · (intro w hSw; (try dsimp only at hSw); go_simp; try with_reducible rfl)
              try simp only [Act.put, List.setIfInBounds_toArray, List.set_cons_zero, List.set_cons_succ]
              refine wpAnyH_take (i := 14) (oi := { dst := some 89, op := Op.move (Operand.tmp 9), type := 40, pos := "law.go:185", after := #[{ on := 7, ground := Ground.guard }], guard := some (7, false) }) (v := ?_) rfl (by kernel_rfl) (by kernel_rfl) (by kernel_rfl) (fun _ _ _ h => h) (Or.inl ⟨by rfl, ?_⟩) hHeld ?_
              rotate_left
              · (intro w hSw; (try dsimp only at hSw); go_simp; try with_reducible rfl)
              try simp only [Act.put, List.setIfInBounds_toArray, List.set_cons_zero, List.set_cons_succ]
              refine wpAnyH_take (i := 15) (oi := { dst := some 90, op := Op.move (Operand.tmp 7), type := 3, pos := "law.go:185", after := #[{ on := 7, ground := Ground.guard }], guard := some (7, false) }) (v := ?_) rfl (by kernel_rfl) (by kernel_rfl) (by kernel_rfl) (fun _ _ _ h => h) (Or.inl ⟨by rfl, ?_⟩) hHeld ?_
              rotate_left
              · (intro w hSw; (try dsimp only at hSw); go_simp; try with_reducible rfl)
              try simp only [Act.put, List.setIfInBounds_toArray, List.set_cons_zero, List.set_cons_succ]
              refine wpAnyH_take (i := 16) (oi := { dst := some 91, op := Op.indexAddr 40 (Operand.tmp 89) (Operand.tmp 90), type := 0, pos := "law.go:185", after := #[{ on := 14, ground := Ground.data }, { on := 15, ground := Ground.data }, { on := 7, ground := Ground.guard }], guard := some (7, false) }) (v := ?_) rfl (by kernel_rfl) (by kernel_rfl) (by kernel_rfl) (fun _ _ _ h => h) (Or.inl ⟨by rfl, ?_⟩) hHeld ?_
              rotate_left
              · (intro w hSw; (try dsimp only at hSw); go_simp; try with_reducible rfl)
              try simp only [Act.put, List.setIfInBounds_toArray, List.set_cons_zero, List.set_cons_succ]
              refine wpAnyH_take (i := 17) (oi := { dst := some 92, op := Op.load 45 (Operand.tmp 91), type := 45, pos := "law.go:185", after := #[{ on := 16, ground := Ground.data }, { on := 7, ground := Ground.guard }], guard := some (7, false) }) (v := ?_) rfl (by kernel_rfl) (by kernel_rfl) (by kernel_rfl) (fun _ _ _ h => h) (Or.inl ⟨by rfl, ?_⟩) hHeld ?_
              rotate_left
              · (intro w hSw; (try dsimp only at hSw); go_simp; try with_reducible rfl)
              try simp only [Act.put, List.setIfInBounds_toArray, List.set_cons_zero, List.set_cons_succ]
              refine wpAnyH_ready (rs := [18]) (by kernel_rfl) (by simp) ?_
              refine AllReadyH.cons (o := { dst := some 93, op := Op.call { callee := Callee.value (Operand.func 28), args := #[Operand.tmp 85, Operand.tmp 88, Operand.tmp 92], argTypes := #[25, 67, 45] }, type := 4, pos := "law.go:185", after := #[{ on := 10, ground := Ground.data }, { on := 13, ground := Ground.data }, { on := 17, ground := Ground.data }, { on := 7, ground := Ground.chain }, { on := 7, ground := Ground.guard }], guard := some (7, false) }) rfl (fun K hK => ?_) AllReadyH.nil
              go_simp
              go_at_call 28
              refine Calls.mono ASK.out ?_
              rintro e w6 ⟨rfl, hb6⟩
              have SC6 : Hid (Scr4 T5 T6 #[.pointer (some ⟨P1, 0, none⟩), .pointer (some ⟨P2, 0, none⟩)] #[.pointer (some ⟨Q1, 0, none⟩), .pointer (some ⟨Q2, 0, none⟩)] w w6 P2 Q2 P1 Q1 lN xN DN l2 x2 D2) := SC5.out.below hb6
              clear hb6 ASK SC5
              try go_wp2_with fail
              refine hK.out _ _ ?_ (fun hHeld_18 => ?_)
              · exact ⟨S5.out _ SC6.out.k5, S6.out _ SC6.out.k6, CE.out _ SC6.out.b⟩
              clear hK K
              try simp only [Act.put, List.setIfInBounds_toArray, List.set_cons_zero, List.set_cons_succ]
              refine wpAnyH_take (i := 19) (oi := { dst := some 94, op := Op.unOp UnOp.not 4 (Operand.tmp 93), type := 4, pos := "law.go:185", after := #[{ on := 18, ground := Ground.data }, { on := 7, ground := Ground.guard }], guard := some (7, false) }) (v := ?_) rfl (by kernel_rfl) (by kernel_rfl) (by kernel_rfl) (fun _ _ _ h => h) (Or.inl ⟨by rfl, ?_⟩) hHeld_18 ?_
              rotate_left
              · (intro w hSw; (try dsimp only at hSw); go_simp; try with_reducible rfl)
              try simp only [Act.put, List.setIfInBounds_toArray, List.set_cons_zero, List.set_cons_succ]
              refine wpAnyH_take (i := 20) (oi := { dst := some 95, op := Op.pick (Operand.tmp 82) (Operand.const (Value.bool true)) (Operand.tmp 94), type := 4, pos := "law.go:185", after := #[{ on := 7, ground := Ground.data }, { on := 19, ground := Ground.data }], guard := none }) (v := ?_) rfl (by kernel_rfl) (by kernel_rfl) (by kernel_rfl) (fun _ _ _ h => h) (Or.inl ⟨by rfl, ?_⟩) hHeld_18 ?_
              rotate_left
              · (intro w hSw; (try dsimp only at hSw); go_simp; try with_reducible rfl)
              try simp only [Act.put, List.setIfInBounds_toArray, List.set_cons_zero, List.set_cons_succ]
              refine wpAnyH_done (by kernel_rfl) ?_ _
              have NX : Hid (StP T5 T6 #[.pointer (some ⟨P1, 0, none⟩), .pointer (some ⟨P2, 0, none⟩)] #[.pointer (some ⟨Q1, 0, none⟩), .pointer (some ⟨Q2, 0, none⟩)] w P2 Q2 P1 Q1 (i + 1) (i + 1) w6) := ⟨lN, xN, DN, l2, x2, D2, GN.out, AN.out, GA.out.2.2.1, GA.out.2.2.2, SC6.out⟩
              clear S5 S6 CE GA AN GN SC6 HSE XO HNE
              go_wp2
              exact ⟨⟨2, by omega, by go_num, NX.out.swap⟩, by simp [intOf]⟩
            · have n1 : ¬ (i : Int) < (n' : Int) := by omega
              have n2 : (n' : Int) ≤ (i : Int) := by omega
              have NX : Hid (StP T5 T6 #[.pointer (some ⟨P1, 0, none⟩), .pointer (some ⟨P2, 0, none⟩)] #[.pointer (some ⟨Q1, 0, none⟩), .pointer (some ⟨Q2, 0, none⟩)] w P2 Q2 P1 Q1 (i + 1) (i + 1) wr) := HK.out.up (by omega) (by omega)
              clear HK
              go_wp2
              exact ⟨⟨2, by omega, by go_num, NX.out.swap⟩, by simp [intOf]⟩
          · have k2 : k = 2 := by omega
            subst k2
            have HK : Hid (StP T5 T6 #[.pointer (some ⟨P1, 0, none⟩), .pointer (some ⟨P2, 0, none⟩)] #[.pointer (some ⟨Q1, 0, none⟩), .pointer (some ⟨Q2, 0, none⟩)] w P1 Q1 P2 Q2 (i + 1) (i + 1) wr) := hK.out
            clear hK
            rw [show ((2 : Nat) : Int) = 2 from rfl]
            go_wp2
            exact ⟨⟨i + 1, by omega, by go_num, HK.out⟩, by simp [intOf]; omega⟩
      · rw [show decide (i < m) = false by simpa using hlt]
        have hin : i = m := by omega
        subst hin
        obtain ⟨wl, hwl⟩ : ∃ wl, wl = wc := ⟨_, rfl⟩
        subst hwl
        have HF : Hid (StP T5 T6 #[.pointer (some ⟨P1, 0, none⟩), .pointer (some ⟨P2, 0, none⟩)] #[.pointer (some ⟨Q1, 0, none⟩), .pointer (some ⟨Q2, 0, none⟩)] w P1 Q1 P2 Q2 i i wl) := hI.out
        clear hI
        go_wp2_with fail
        go_loopw [13] (fun v13 wx => ∃ k : Nat, k ≤ 2 ∧ v13 = .int .i64 k ∧ Hid (StP T5 T6 #[.pointer (some ⟨P1, 0, none⟩), .pointer (some ⟨P2, 0, none⟩)] #[.pointer (some ⟨Q1, 0, none⟩), .pointer (some ⟨Q2, 0, none⟩)] w P1 Q1 P2 Q2 (stepN i k 0) (stepN i k 1) wx)) (fun v13 _ => 2 - (intOf v13).toNat)
        case atStart => exact ⟨0, by omega, rfl, HF.out⟩
        case round =>
          clear HF
          obtain ⟨k, hk, rfl, hK⟩ := hrel
          by_cases k0 : k = 0
          · subst k0
            have HK : Hid (StP T5 T6 #[.pointer (some ⟨P1, 0, none⟩), .pointer (some ⟨P2, 0, none⟩)] #[.pointer (some ⟨Q1, 0, none⟩), .pointer (some ⟨Q2, 0, none⟩)] w P1 Q1 P2 Q2 i i wr) := hK.out
            clear hK
            rw [show ((0 : Nat) : Int) = 0 from rfl]
            obtain ⟨l1, x1, D1, l2, x2, D2, g1, al1, g2, al2, sc⟩ := HK.out
            have GA : Hid (Good i 1048576 l1 ∧ Alike i l1 x1 D1 ∧ Good i 1048576 l2 ∧ Alike i l2 x2 D2) := ⟨g1, al1, g2, al2⟩
            obtain ⟨lN, hlN⟩ : ∃ lN, sayL l1 lastO = lN := ⟨_, rfl⟩
            obtain ⟨SE, hSE⟩ : ∃ SE, sayE l1 lastO = SE := ⟨_, rfl⟩
            have HSE : Hid (sayL l1 lastO = lN ∧ sayE l1 lastO = SE) := ⟨hlN, hSE⟩
            have FLO : Hid _ := sc_float sc g1 (by omega)
            rw [hlN, hSE] at FLO
            have y5 := M.cell_whole sc.k5 0
            simp only [List.getElem?_toArray, List.getElem?_cons_zero] at y5
            have S6 : Hid (∀ W : World, W.heap[T6]? = some (.cells #[.pointer (some ⟨Q1, 0, none⟩), .pointer (some ⟨Q2, 0, none⟩)] 72 (0, 0)) → W.cell? ⟨T6, 0, none⟩ = some (.pointer (some ⟨Q1, 0, none⟩))) := fun W h => M.cell_whole h 0
            have S5 : Hid (∀ W : World, W.heap[T5]? = some (.cells #[.pointer (some ⟨P1, 0, none⟩), .pointer (some ⟨P2, 0, none⟩)] 66 (0, 0)) → W.cell? ⟨T5, 0, none⟩ = some (.pointer (some ⟨P1, 0, none⟩))) := fun W h => M.cell_whole h 0
            clear g1 al1 g2 al2 sc HK hlN hSE
            go_wp2_with fail
            refine Calls.mono FLO.out ?_
            rintro e w2 ⟨rfl, hsc⟩
            have SC2 : Hid (Scr4 T5 T6 #[.pointer (some ⟨P1, 0, none⟩), .pointer (some ⟨P2, 0, none⟩)] #[.pointer (some ⟨Q1, 0, none⟩), .pointer (some ⟨Q2, 0, none⟩)] w w2 P1 Q1 P2 Q2 lN x1 D1 l2 x2 D2) := hsc
            have RFL : Hid _ := sc_rfloat (l1 := l1) (by rw [HSE.out.1]; exact SC2.out) GA.out.2.1 (by omega)
            rw [HSE.out.1, HSE.out.2] at RFL
            clear hsc FLO y5
            have y6 := M.cell_whole SC2.out.k6 0
            simp only [List.getElem?_toArray, List.getElem?_cons_zero] at y6
            go_wp2_with fail
            refine Calls.mono RFL.out ?_
            rintro e w3 ⟨xN, DN, rfl, hal, hsc⟩
            have AN : Hid (Alike (i + 1) lN xN DN) := hal
            have GN : Hid (Good (i + 1) 1048576 lN) := by have h := GA.out.1.step lastO lastO_ok; rw [HSE.out.1] at h; exact h
            have SC3 : Hid (Scr4 T5 T6 #[.pointer (some ⟨P1, 0, none⟩), .pointer (some ⟨P2, 0, none⟩)] #[.pointer (some ⟨Q1, 0, none⟩), .pointer (some ⟨Q2, 0, none⟩)] w w3.drew P1 Q1 P2 Q2 lN xN DN l2 x2 D2) := hsc.below (fr_below_drewN (Below.refl _ _) 1)
            clear hsc RFL y6 SC2 hal
            have DEP : Hid (∀ W, Below w3.drew.heap.size w3.drew W → Calls Tryz.prog 13 #[.pointer (some ⟨P1, 0, none⟩)] W fun e w' => e = .returned (.int .i64 DN) ∧ w' = W) := fun W hW => by
              obtain ⟨O1, R1, O2, R2, h⟩ := SC3.out
              have h2 := depth_st (h.s1.sta.below hW) (by have := GN.out.n1; omega)
              rw [show (lN.length : Int) - 1 = (DN : Int) by have := AN.out.d; omega] at h2
              exact h2
            have RDE : Hid (∀ W, Below w3.drew.heap.size w3.drew W → Calls Tryz.prog 31 #[.pointer (some ⟨Q1, 0, none⟩)] W fun e w' => e = .returned (.int .i64 DN) ∧ w' = W) := fun W hW => by
              obtain ⟨O1, R1, O2, R2, h⟩ := SC3.out
              exact rdepth_any W R1 Q1 xN DN (h.r1.below hW)
            have SCO : Hid (∀ W, Below w3.drew.heap.size w3.drew W → _) := fun W hW => by
              obtain ⟨O1, R1, O2, R2, h⟩ := SC3.out
              exact scope_law (h.s1.sta.below hW) GN.out (by omega)
            have RSC : Hid (∀ W, Below w3.drew.heap.size w3.drew W → Calls Tryz.prog 32 #[.pointer (some ⟨Q1, 0, none⟩)] W (RScopePost W xN)) := fun W hW => by
              obtain ⟨O1, R1, O2, R2, h⟩ := SC3.out
              exact rscope_any W R1 Q1 xN DN (h.r1.below hW) (by have := AN.out.n; omega) (fun x hx => by have := AN.out.e x hx; omega)
            go_upto_region 24 with fail
            refine wp_region_held_drew (S := fun w' => w'.cell? ⟨T5, 0, none⟩ = some (.pointer (some ⟨P1, 0, none⟩)) ∧ w'.cell? ⟨T6, 0, none⟩ = some (.pointer (some ⟨Q1, 0, none⟩))) (by kernel_rfl) ?_ (fun hHeld => ?_)
            · exact ⟨S5.out _ SC3.out.k5, S6.out _ SC3.out.k6⟩
            refine wpAnyH_take (i := 0) (oi := { dst := some 108, op := Op.move (Operand.tmp 14), type := 29, pos := "law.go:193", after := #[], guard := none }) (v := ?_) rfl (by kernel_rfl) (by kernel_rfl) (by kernel_rfl) (fun _ _ _ h => h) (Or.inl ⟨by rfl, ?_⟩) hHeld ?_
            rotate_left
            · (intro w hSw; (try dsimp only at hSw); go_simp; try with_reducible rfl)
            try simp only [Act.put, List.setIfInBounds_toArray, List.set_cons_zero, List.set_cons_succ]
            refine wpAnyH_take (i := 2) (oi := { dst := some 110, op := Op.move (Operand.tmp 15), type := 29, pos := "law.go:193", after := #[], guard := none }) (v := ?_) rfl (by kernel_rfl) (by kernel_rfl) (by kernel_rfl) (fun _ _ _ h => h) (Or.inl ⟨by rfl, ?_⟩) hHeld ?_
            rotate_left
            · (intro w hSw; (try dsimp only at hSw); go_simp; try with_reducible rfl)
            try simp only [Act.put, List.setIfInBounds_toArray, List.set_cons_zero, List.set_cons_succ]
            refine wpAnyH_ready (rs := [1]) (by kernel_rfl) (by simp) ?_
            refine AllReadyH.cons (o := { dst := some 109, op := Op.call { callee := Callee.value (Operand.func 11), args := #[Operand.tmp 108], argTypes := #[29] }, type := 3, pos := "law.go:193", after := #[{ on := 0, ground := Ground.data }], guard := none }) rfl (fun K hK => ?_) AllReadyH.nil
            go_simp
            go_at_call 11
            refine Calls.mono (NU.out _ _) ?_
            rintro e wz ⟨rfl, hwz⟩
            subst wz
            try go_wp2_with fail
            refine hK.out _ _ ?_ (fun hHeld_1 => ?_)
            · exact ⟨S5.out _ SC3.out.k5, S6.out _ SC3.out.k6⟩
            clear hK K
            try simp only [Act.put, List.setIfInBounds_toArray, List.set_cons_zero, List.set_cons_succ]
            refine wpAnyH_ready (rs := [3]) (by kernel_rfl) (by simp) ?_
            refine AllReadyH.cons (o := { dst := some 111, op := Op.call { callee := Callee.value (Operand.func 11), args := #[Operand.tmp 110], argTypes := #[29] }, type := 3, pos := "law.go:193", after := #[{ on := 2, ground := Ground.data }, { on := 1, ground := Ground.chain }], guard := none }) rfl (fun K hK => ?_) AllReadyH.nil
            go_simp
            go_at_call 11
            refine Calls.mono (NU.out _ _) ?_
            rintro e wz ⟨rfl, hwz⟩
            subst wz
            try go_wp2_with fail
            refine hK.out _ _ ?_ (fun hHeld_3 => ?_)
            · exact ⟨S5.out _ SC3.out.k5, S6.out _ SC3.out.k6⟩
            clear hK K
            try simp only [Act.put, List.setIfInBounds_toArray, List.set_cons_zero, List.set_cons_succ]
            refine wpAnyH_take (i := 4) (oi := { dst := some 112, op := Op.binOp BinOp.neq 3 (Operand.tmp 109) (Operand.tmp 111) 3, type := 4, pos := "law.go:193", after := #[{ on := 1, ground := Ground.data }, { on := 3, ground := Ground.data }], guard := none }) (v := ?_) rfl (by kernel_rfl) (by kernel_rfl) (by kernel_rfl) (fun _ _ _ h => h) (Or.inl ⟨by rfl, ?_⟩) hHeld_3 ?_
            rotate_left
            · (intro w hSw; (try dsimp only at hSw); go_simp; try with_reducible rfl)
            try simp only [Act.put, List.setIfInBounds_toArray, List.set_cons_zero, List.set_cons_succ]
            refine wpAnyH_take (i := 5) (oi := { dst := some 113, op := Op.move (Operand.tmp 112), type := 4, pos := "law.go:193", after := #[{ on := 4, ground := Ground.data }, { on := 3, ground := Ground.chain }], guard := none }) (v := ?_) rfl (by kernel_rfl) (by kernel_rfl) (by kernel_rfl) (fun _ _ _ h => h) (Or.inl ⟨by rfl, ?_⟩) hHeld_3 ?_
            rotate_left
            · (intro w hSw; (try dsimp only at hSw); go_simp; try with_reducible rfl)
            try simp only [Act.put, List.setIfInBounds_toArray, List.set_cons_zero, List.set_cons_succ]
            refine wpAnyH_take (i := 6) (oi := { dst := some 114, op := Op.move (Operand.tmp 13), type := 3, pos := "law.go:193", after := #[{ on := 5, ground := Ground.guard }], guard := some (5, false) }) (v := ?_) rfl (by kernel_rfl) (by kernel_rfl) (by kernel_rfl) (fun _ _ _ h => h) (Or.inl ⟨by rfl, ?_⟩) hHeld_3 ?_
            rotate_left
            · (intro w hSw; (try dsimp only at hSw); go_simp; try with_reducible rfl)
            try simp only [Act.put, List.setIfInBounds_toArray, List.set_cons_zero, List.set_cons_succ]
            refine wpAnyH_take (i := 7) (oi := { dst := some 115, op := Op.indexAddr 66 (Operand.tmp 5) (Operand.tmp 114), type := 0, pos := "law.go:193", after := #[{ on := 6, ground := Ground.data }, { on := 5, ground := Ground.guard }], guard := some (5, false) }) (v := ?_) rfl (by kernel_rfl) (by kernel_rfl) (by kernel_rfl) (fun _ _ _ h => h) (Or.inl ⟨by rfl, ?_⟩) hHeld_3 ?_
            rotate_left
            · (intro w hSw; (try dsimp only at hSw); go_simp; try with_reducible rfl)
            try simp only [Act.put, List.setIfInBounds_toArray, List.set_cons_zero, List.set_cons_succ]
            refine wpAnyH_take (i := 8) (oi := { dst := some 116, op := Op.load 25 (Operand.tmp 115), type := 25, pos := "law.go:193", after := #[{ on := 7, ground := Ground.data }, { on := 5, ground := Ground.guard }], guard := some (5, false) }) (v := ?_) rfl (by kernel_rfl) (by kernel_rfl) (by kernel_rfl) (fun _ _ _ h => h) (Or.inl ⟨by rfl, ?_⟩) hHeld_3 ?_
            rotate_left
            · (intro w hSw; (try dsimp only at hSw); go_simp; try with_reducible rfl)
            try simp only [Act.put, List.setIfInBounds_toArray, List.set_cons_zero, List.set_cons_succ]
            refine wpAnyH_take (i := 10) (oi := { dst := some 118, op := Op.move (Operand.tmp 13), type := 3, pos := "law.go:193", after := #[{ on := 5, ground := Ground.guard }], guard := some (5, false) }) (v := ?_) rfl (by kernel_rfl) (by kernel_rfl) (by kernel_rfl) (fun _ _ _ h => h) (Or.inl ⟨by rfl, ?_⟩) hHeld_3 ?_
            rotate_left
            · (intro w hSw; (try dsimp only at hSw); go_simp; try with_reducible rfl)
            try simp only [Act.put, List.setIfInBounds_toArray, List.set_cons_zero, List.set_cons_succ]
            refine wpAnyH_take (i := 11) (oi := { dst := some 119, op := Op.indexAddr 72 (Operand.tmp 6) (Operand.tmp 118), type := 0, pos := "law.go:193", after := #[{ on := 10, ground := Ground.data }, { on := 5, ground := Ground.guard }], guard := some (5, false) }) (v := ?_) rfl (by kernel_rfl) (by kernel_rfl) (by kernel_rfl) (fun _ _ _ h => h) (Or.inl ⟨by rfl, ?_⟩) hHeld_3 ?_
            rotate_left
            · (intro w hSw; (try dsimp only at hSw); go_simp; try with_reducible rfl)
            try simp only [Act.put, List.setIfInBounds_toArray, List.set_cons_zero, List.set_cons_succ]
            refine wpAnyH_take (i := 12) (oi := { dst := some 120, op := Op.load 67 (Operand.tmp 119), type := 67, pos := "law.go:193", after := #[{ on := 11, ground := Ground.data }, { on := 5, ground := Ground.guard }], guard := some (5, false) }) (v := ?_) rfl (by kernel_rfl) (by kernel_rfl) (by kernel_rfl) (fun _ _ _ h => h) (Or.inl ⟨by rfl, ?_⟩) hHeld_3 ?_
            rotate_left
            · (intro w hSw; (try dsimp only at hSw); go_simp; try with_reducible rfl)
            try simp only [Act.put, List.setIfInBounds_toArray, List.set_cons_zero, List.set_cons_succ]
            refine wpAnyH_ready (rs := [9]) (by kernel_rfl) (by simp) ?_
            refine AllReadyH.cons (o := { dst := some 117, op := Op.call { callee := Callee.value (Operand.func 13), args := #[Operand.tmp 116], argTypes := #[25] }, type := 3, pos := "law.go:193", after := #[{ on := 8, ground := Ground.data }, { on := 5, ground := Ground.chain }, { on := 5, ground := Ground.guard }], guard := some (5, false) }) rfl (fun K hK => ?_) AllReadyH.nil
            go_simp
            go_at_call 13
            refine Calls.mono (DEP.out _ (Below.refl _ _)) ?_
            rintro e wz ⟨rfl, hwz⟩
            subst wz
            try go_wp2_with fail
            refine hK.out _ _ ?_ (fun hHeld_9 => ?_)
            · exact ⟨S5.out _ SC3.out.k5, S6.out _ SC3.out.k6⟩
            clear hK K
            try simp only [Act.put, List.setIfInBounds_toArray, List.set_cons_zero, List.set_cons_succ]
            refine wpAnyH_ready (rs := [13]) (by kernel_rfl) (by simp) ?_
            refine AllReadyH.cons (o := { dst := some 121, op := Op.call { callee := Callee.value (Operand.func 31), args := #[Operand.tmp 120], argTypes := #[67] }, type := 3, pos := "law.go:193", after := #[{ on := 12, ground := Ground.data }, { on := 9, ground := Ground.chain }, { on := 5, ground := Ground.guard }], guard := some (5, false) }) rfl (fun K hK => ?_) AllReadyH.nil
            go_simp
            go_at_call 31
            refine Calls.mono (RDE.out _ (Below.refl _ _)) ?_
            rintro e wz ⟨rfl, hwz⟩
            subst wz
            try go_wp2_with fail
            refine hK.out _ _ ?_ (fun hHeld_13 => ?_)
            · exact ⟨S5.out _ SC3.out.k5, S6.out _ SC3.out.k6⟩
            clear hK K
            try simp only [Act.put, List.setIfInBounds_toArray, List.set_cons_zero, List.set_cons_succ]
            refine wpAnyH_take (i := 14) (oi := { dst := some 122, op := Op.binOp BinOp.neq 3 (Operand.tmp 117) (Operand.tmp 121) 3, type := 4, pos := "law.go:193", after := #[{ on := 9, ground := Ground.data }, { on := 13, ground := Ground.data }, { on := 5, ground := Ground.guard }], guard := some (5, false) }) (v := ?_) rfl (by kernel_rfl) (by kernel_rfl) (by kernel_rfl) (fun _ _ _ h => h) (Or.inl ⟨by rfl, ?_⟩) hHeld_13 ?_
            rotate_left
            · (intro w hSw; (try dsimp only at hSw); go_simp; try with_reducible rfl)
            try simp only [Act.put, List.setIfInBounds_toArray, List.set_cons_zero, List.set_cons_succ]
            refine wpAnyH_take (i := 15) (oi := { dst := some 123, op := Op.pick (Operand.tmp 113) (Operand.const (Value.bool true)) (Operand.tmp 122), type := 4, pos := "law.go:193", after := #[{ on := 5, ground := Ground.data }, { on := 14, ground := Ground.data }], guard := none }) (v := ?_) rfl (by kernel_rfl) (by kernel_rfl) (by kernel_rfl) (fun _ _ _ h => h) (Or.inl ⟨by rfl, ?_⟩) hHeld_13 ?_
            rotate_left
            · (intro w hSw; (try dsimp only at hSw); go_simp; try with_reducible rfl)
            try simp only [Act.put, List.setIfInBounds_toArray, List.set_cons_zero, List.set_cons_succ]
            refine wpAnyH_take (i := 16) (oi := { dst := some 124, op := Op.move (Operand.tmp 123), type := 4, pos := "law.go:193", after := #[{ on := 15, ground := Ground.data }, { on := 13, ground := Ground.chain }], guard := none }) (v := ?_) rfl (by kernel_rfl) (by kernel_rfl) (by kernel_rfl) (fun _ _ _ h => h) (Or.inl ⟨by rfl, ?_⟩) hHeld_13 ?_
            rotate_left
            · (intro w hSw; (try dsimp only at hSw); go_simp; try with_reducible rfl)
            try simp only [Act.put, List.setIfInBounds_toArray, List.set_cons_zero, List.set_cons_succ]
            refine wpAnyH_take (i := 17) (oi := { dst := some 125, op := Op.move (Operand.tmp 13), type := 3, pos := "law.go:193", after := #[{ on := 16, ground := Ground.guard }], guard := some (16, false) }) (v := ?_) rfl (by kernel_rfl) (by kernel_rfl) (by kernel_rfl) (fun _ _ _ h => h) (Or.inl ⟨by rfl, ?_⟩) hHeld_13 ?_
            rotate_left
            · (intro w hSw; (try dsimp only at hSw); go_simp; try with_reducible rfl)
            try simp only [Act.put, List.setIfInBounds_toArray, List.set_cons_zero, List.set_cons_succ]
            refine wpAnyH_take (i := 18) (oi := { dst := some 126, op := Op.indexAddr 66 (Operand.tmp 5) (Operand.tmp 125), type := 0, pos := "law.go:193", after := #[{ on := 17, ground := Ground.data }, { on := 16, ground := Ground.guard }], guard := some (16, false) }) (v := ?_) rfl (by kernel_rfl) (by kernel_rfl) (by kernel_rfl) (fun _ _ _ h => h) (Or.inl ⟨by rfl, ?_⟩) hHeld_13 ?_
            rotate_left
            · (intro w hSw; (try dsimp only at hSw); go_simp; try with_reducible rfl)
            try simp only [Act.put, List.setIfInBounds_toArray, List.set_cons_zero, List.set_cons_succ]
            refine wpAnyH_take (i := 19) (oi := { dst := some 127, op := Op.load 25 (Operand.tmp 126), type := 25, pos := "law.go:193", after := #[{ on := 18, ground := Ground.data }, { on := 16, ground := Ground.guard }], guard := some (16, false) }) (v := ?_) rfl (by kernel_rfl) (by kernel_rfl) (by kernel_rfl) (fun _ _ _ h => h) (Or.inl ⟨by rfl, ?_⟩) hHeld_13 ?_
            rotate_left
            · (intro w hSw; (try dsimp only at hSw); go_simp; try with_reducible rfl)
            try simp only [Act.put, List.setIfInBounds_toArray, List.set_cons_zero, List.set_cons_succ]
            refine wpAnyH_take (i := 21) (oi := { dst := some 129, op := Op.move (Operand.tmp 13), type := 3, pos := "law.go:193", after := #[{ on := 16, ground := Ground.guard }], guard := some (16, false) }) (v := ?_) rfl (by kernel_rfl) (by kernel_rfl) (by kernel_rfl) (fun _ _ _ h => h) (Or.inl ⟨by rfl, ?_⟩) hHeld_13 ?_
            rotate_left
            · (intro w hSw; (try dsimp only at hSw); go_simp; try with_reducible rfl)
            try simp only [Act.put, List.setIfInBounds_toArray, List.set_cons_zero, List.set_cons_succ]
            refine wpAnyH_take (i := 22) (oi := { dst := some 130, op := Op.indexAddr 72 (Operand.tmp 6) (Operand.tmp 129), type := 0, pos := "law.go:193", after := #[{ on := 21, ground := Ground.data }, { on := 16, ground := Ground.guard }], guard := some (16, false) }) (v := ?_) rfl (by kernel_rfl) (by kernel_rfl) (by kernel_rfl) (fun _ _ _ h => h) (Or.inl ⟨by rfl, ?_⟩) hHeld_13 ?_
            rotate_left
            · (intro w hSw; (try dsimp only at hSw); go_simp; try with_reducible rfl)
            try simp only [Act.put, List.setIfInBounds_toArray, List.set_cons_zero, List.set_cons_succ]
            refine wpAnyH_take (i := 23) (oi := { dst := some 131, op := Op.load 67 (Operand.tmp 130), type := 67, pos := "law.go:193", after := #[{ on := 22, ground := Ground.data }, { on := 16, ground := Ground.guard }], guard := some (16, false) }) (v := ?_) rfl (by kernel_rfl) (by kernel_rfl) (by kernel_rfl) (fun _ _ _ h => h) (Or.inl ⟨by rfl, ?_⟩) hHeld_13 ?_
            rotate_left
            · (intro w hSw; (try dsimp only at hSw); go_simp; try with_reducible rfl)
            try simp only [Act.put, List.setIfInBounds_toArray, List.set_cons_zero, List.set_cons_succ]
            refine wpAnyH_ready (rs := [20]) (by kernel_rfl) (by simp) ?_
            refine AllReadyH.cons (o := { dst := some 128, op := Op.call { callee := Callee.value (Operand.func 15), args := #[Operand.tmp 127], argTypes := #[25] }, type := 37, pos := "law.go:193", after := #[{ on := 19, ground := Ground.data }, { on := 16, ground := Ground.chain }, { on := 16, ground := Ground.guard }], guard := some (16, false) }) rfl (fun K hK => ?_) AllReadyH.nil
            go_simp
            go_at_call 15
            refine Calls.mono (SCO.out _ (Below.refl _ _)) ?_
            rintro e w5 ⟨hb5, a5, n5, c5, p5, k5, d5, ts5, m5, rfl, hs5⟩
            have H5 : Hid (Below w3.drew.heap.size w3.drew w5 ∧ ScopeL w5 lN a5 p5 n5 k5 ts5 m5) := ⟨hb5, hs5⟩
            clear hb5 hs5
            try go_wp2_with fail
            refine hK.out _ _ ?_ (fun hHeld_20 => ?_)
            · exact ⟨S5.out _ (SC3.out.below H5.out.1).k5, S6.out _ (SC3.out.below H5.out.1).k6⟩
            clear hK K
            try simp only [Act.put, List.setIfInBounds_toArray, List.set_cons_zero, List.set_cons_succ]
            refine wpAnyH_ready (rs := [24]) (by kernel_rfl) (by simp) ?_
            refine AllReadyH.cons (o := { dst := some 132, op := Op.call { callee := Callee.value (Operand.func 32), args := #[Operand.tmp 131], argTypes := #[67] }, type := 37, pos := "law.go:193", after := #[{ on := 23, ground := Ground.data }, { on := 20, ground := Ground.chain }, { on := 16, ground := Ground.guard }], guard := some (16, false) }) rfl (fun K hK => ?_) AllReadyH.nil
            go_simp
            go_at_call 32
            refine Calls.mono (RSC.out _ H5.out.1) ?_
            rintro e w6 ⟨hb6, a6, n6, c6, p6, k6, d6, ts6, m6, rfl, hs6⟩
            have H6 : Hid (Below w3.drew.heap.size w3.drew w6) := H5.out.1.trans (hb6.mono H5.out.1.size)
            have SAM : Hid _ := told_same GN.out (by omega) (H5.out.2.under hb6) (hs6.law AN.out fun q hq => (GN.out.ps q hq).2.2.1) c5 d5 c6 d6
            clear hb6 hs6
            try go_wp2_with fail
            refine hK.out _ _ ?_ (fun hHeld_24 => ?_)
            · exact ⟨S5.out _ (SC3.out.below H6.out).k5, S6.out _ (SC3.out.below H6.out).k6⟩
            clear hK K
            try simp only [Act.put, List.setIfInBounds_toArray, List.set_cons_zero, List.set_cons_succ]
            refine wpAnyH_ready (rs := [25]) (by kernel_rfl) (by simp) ?_
            refine AllReadyH.cons (o := { dst := some 133, op := Op.call { callee := Callee.value (Operand.func 19), args := #[Operand.tmp 128, Operand.tmp 132], argTypes := #[37, 37] }, type := 4, pos := "law.go:193", after := #[{ on := 20, ground := Ground.data }, { on := 24, ground := Ground.data }, { on := 24, ground := Ground.chain }, { on := 16, ground := Ground.guard }], guard := some (16, false) }) rfl (fun K hK => ?_) AllReadyH.nil
            go_simp
            go_at_call 19
            refine Calls.mono SAM.out ?_
            rintro e w7 ⟨rfl, hb7⟩
            have H7 : Hid (Below w3.drew.heap.size w3.drew w7) := H6.out.trans (hb7.mono H6.out.size)
            clear hb7 SAM
            try go_wp2_with fail
            refine hK.out _ _ ?_ (fun hHeld_25 => ?_)
            · exact ⟨S5.out _ (SC3.out.below H7.out).k5, S6.out _ (SC3.out.below H7.out).k6⟩
            clear hK K
            try simp only [Act.put, List.setIfInBounds_toArray, List.set_cons_zero, List.set_cons_succ]
            refine wpAnyH_take (i := 26) (oi := { dst := some 134, op := Op.unOp UnOp.not 4 (Operand.tmp 133), type := 4, pos := "law.go:193", after := #[{ on := 25, ground := Ground.data }, { on := 16, ground := Ground.guard }], guard := some (16, false) }) (v := ?_) rfl (by kernel_rfl) (by kernel_rfl) (by kernel_rfl) (fun _ _ _ h => h) (Or.inl ⟨by rfl, ?_⟩) hHeld_25 ?_
            rotate_left
            · (intro w hSw; (try dsimp only at hSw); go_simp; try with_reducible rfl)
            try simp only [Act.put, List.setIfInBounds_toArray, List.set_cons_zero, List.set_cons_succ]
            refine wpAnyH_take (i := 27) (oi := { dst := some 135, op := Op.pick (Operand.tmp 124) (Operand.const (Value.bool true)) (Operand.tmp 134), type := 4, pos := "law.go:193", after := #[{ on := 16, ground := Ground.data }, { on := 26, ground := Ground.data }], guard := none }) (v := ?_) rfl (by kernel_rfl) (by kernel_rfl) (by kernel_rfl) (fun _ _ _ h => h) (Or.inl ⟨by rfl, ?_⟩) hHeld_25 ?_
            rotate_left
            · (intro w hSw; (try dsimp only at hSw); go_simp; try with_reducible rfl)
            try simp only [Act.put, List.setIfInBounds_toArray, List.set_cons_zero, List.set_cons_succ]
            refine wpAnyH_done (by kernel_rfl) ?_ _
            have NX : Hid (StP T5 T6 #[.pointer (some ⟨P1, 0, none⟩), .pointer (some ⟨P2, 0, none⟩)] #[.pointer (some ⟨Q1, 0, none⟩), .pointer (some ⟨Q2, 0, none⟩)] w P1 Q1 P2 Q2 (i + 1) i w7) := ⟨lN, xN, DN, l2, x2, D2, GN.out, AN.out, GA.out.2.2.1, GA.out.2.2.2, SC3.out.below H7.out⟩
            clear S5 S6 GA AN GN SC3 HSE DEP RDE SCO RSC H5 H6 H7
            go_wp2
            exact ⟨⟨1, by omega, by go_num, NX.out⟩, by simp [intOf]⟩
          by_cases k1 : k = 1
          · subst k1
            have HK : Hid (StP T5 T6 #[.pointer (some ⟨P1, 0, none⟩), .pointer (some ⟨P2, 0, none⟩)] #[.pointer (some ⟨Q1, 0, none⟩), .pointer (some ⟨Q2, 0, none⟩)] w P2 Q2 P1 Q1 i (i + 1) wr) := hK.out.swap
            clear hK
            rw [show ((1 : Nat) : Int) = 1 from rfl]
            obtain ⟨l1, x1, D1, l2, x2, D2, g1, al1, g2, al2, sc⟩ := HK.out
            have GA : Hid (Good i 1048576 l1 ∧ Alike i l1 x1 D1 ∧ Good (i + 1) 1048576 l2 ∧ Alike (i + 1) l2 x2 D2) := ⟨g1, al1, g2, al2⟩
            obtain ⟨lN, hlN⟩ : ∃ lN, sayL l1 lastO = lN := ⟨_, rfl⟩
            obtain ⟨SE, hSE⟩ : ∃ SE, sayE l1 lastO = SE := ⟨_, rfl⟩
            have HSE : Hid (sayL l1 lastO = lN ∧ sayE l1 lastO = SE) := ⟨hlN, hSE⟩
            have FLO : Hid _ := sc_float sc g1 (by omega)
            rw [hlN, hSE] at FLO
            have y5 := M.cell_whole sc.k5 1
            simp only [List.getElem?_toArray, List.getElem?_cons_zero, List.getElem?_cons_succ] at y5
            have S6 : Hid (∀ W : World, W.heap[T6]? = some (.cells #[.pointer (some ⟨Q1, 0, none⟩), .pointer (some ⟨Q2, 0, none⟩)] 72 (0, 0)) → W.cell? ⟨T6, 1, none⟩ = some (.pointer (some ⟨Q2, 0, none⟩))) := fun W h => M.cell_whole h 1
            have S5 : Hid (∀ W : World, W.heap[T5]? = some (.cells #[.pointer (some ⟨P1, 0, none⟩), .pointer (some ⟨P2, 0, none⟩)] 66 (0, 0)) → W.cell? ⟨T5, 1, none⟩ = some (.pointer (some ⟨P2, 0, none⟩))) := fun W h => M.cell_whole h 1
            clear g1 al1 g2 al2 sc HK hlN hSE
            go_wp2_with fail
            refine Calls.mono FLO.out ?_
            rintro e w2 ⟨rfl, hsc⟩
            have SC2 : Hid (Scr4 T5 T6 #[.pointer (some ⟨P1, 0, none⟩), .pointer (some ⟨P2, 0, none⟩)] #[.pointer (some ⟨Q1, 0, none⟩), .pointer (some ⟨Q2, 0, none⟩)] w w2 P2 Q2 P1 Q1 lN x1 D1 l2 x2 D2) := hsc
            have RFL : Hid _ := sc_rfloat (l1 := l1) (by rw [HSE.out.1]; exact SC2.out) GA.out.2.1 (by omega)
            rw [HSE.out.1, HSE.out.2] at RFL
            clear hsc FLO y5
            have y6 := M.cell_whole SC2.out.k6 1
            simp only [List.getElem?_toArray, List.getElem?_cons_zero, List.getElem?_cons_succ] at y6
            go_wp2_with fail
            refine Calls.mono RFL.out ?_
            rintro e w3 ⟨xN, DN, rfl, hal, hsc⟩
            have AN : Hid (Alike (i + 1) lN xN DN) := hal
            have GN : Hid (Good (i + 1) 1048576 lN) := by have h := GA.out.1.step lastO lastO_ok; rw [HSE.out.1] at h; exact h
            have SC3 : Hid (Scr4 T5 T6 #[.pointer (some ⟨P1, 0, none⟩), .pointer (some ⟨P2, 0, none⟩)] #[.pointer (some ⟨Q1, 0, none⟩), .pointer (some ⟨Q2, 0, none⟩)] w w3.drew P2 Q2 P1 Q1 lN xN DN l2 x2 D2) := hsc.below (fr_below_drewN (Below.refl _ _) 1)
            clear hsc RFL y6 SC2 hal
            have DEP : Hid (∀ W, Below w3.drew.heap.size w3.drew W → Calls Tryz.prog 13 #[.pointer (some ⟨P2, 0, none⟩)] W fun e w' => e = .returned (.int .i64 DN) ∧ w' = W) := fun W hW => by
              obtain ⟨O1, R1, O2, R2, h⟩ := SC3.out
              have h2 := depth_st (h.s1.sta.below hW) (by have := GN.out.n1; omega)
              rw [show (lN.length : Int) - 1 = (DN : Int) by have := AN.out.d; omega] at h2
              exact h2
            have RDE : Hid (∀ W, Below w3.drew.heap.size w3.drew W → Calls Tryz.prog 31 #[.pointer (some ⟨Q2, 0, none⟩)] W fun e w' => e = .returned (.int .i64 DN) ∧ w' = W) := fun W hW => by
              obtain ⟨O1, R1, O2, R2, h⟩ := SC3.out
              exact rdepth_any W R1 Q2 xN DN (h.r1.below hW)
            have SCO : Hid (∀ W, Below w3.drew.heap.size w3.drew W → _) := fun W hW => by
              obtain ⟨O1, R1, O2, R2, h⟩ := SC3.out
              exact scope_law (h.s1.sta.below hW) GN.out (by omega)
            have RSC : Hid (∀ W, Below w3.drew.heap.size w3.drew W → Calls Tryz.prog 32 #[.pointer (some ⟨Q2, 0, none⟩)] W (RScopePost W xN)) := fun W hW => by
              obtain ⟨O1, R1, O2, R2, h⟩ := SC3.out
              exact rscope_any W R1 Q2 xN DN (h.r1.below hW) (by have := AN.out.n; omega) (fun x hx => by have := AN.out.e x hx; omega)
            go_upto_region 24 with fail
            refine wp_region_held_drew (S := fun w' => w'.cell? ⟨T5, 1, none⟩ = some (.pointer (some ⟨P2, 0, none⟩)) ∧ w'.cell? ⟨T6, 1, none⟩ = some (.pointer (some ⟨Q2, 0, none⟩))) (by kernel_rfl) ?_ (fun hHeld => ?_)
            · exact ⟨S5.out _ SC3.out.k5, S6.out _ SC3.out.k6⟩
            refine wpAnyH_take (i := 0) (oi := { dst := some 108, op := Op.move (Operand.tmp 14), type := 29, pos := "law.go:193", after := #[], guard := none }) (v := ?_) rfl (by kernel_rfl) (by kernel_rfl) (by kernel_rfl) (fun _ _ _ h => h) (Or.inl ⟨by rfl, ?_⟩) hHeld ?_
            rotate_left
            · (intro w hSw; (try dsimp only at hSw); go_simp; try with_reducible rfl)
            try simp only [Act.put, List.setIfInBounds_toArray, List.set_cons_zero, List.set_cons_succ]
            refine wpAnyH_take (i := 2) (oi := { dst := some 110, op := Op.move (Operand.tmp 15), type := 29, pos := "law.go:193", after := #[], guard := none }) (v := ?_) rfl (by kernel_rfl) (by kernel_rfl) (by kernel_rfl) (fun _ _ _ h => h) (Or.inl ⟨by rfl, ?_⟩) hHeld ?_
            rotate_left
            · (intro w hSw; (try dsimp only at hSw); go_simp; try with_reducible rfl)
            try simp only [Act.put, List.setIfInBounds_toArray, List.set_cons_zero, List.set_cons_succ]
            refine wpAnyH_ready (rs := [1]) (by kernel_rfl) (by simp) ?_
            refine AllReadyH.cons (o := { dst := some 109, op := Op.call { callee := Callee.value (Operand.func 11), args := #[Operand.tmp 108], argTypes := #[29] }, type := 3, pos := "law.go:193", after := #[{ on := 0, ground := Ground.data }], guard := none }) rfl (fun K hK => ?_) AllReadyH.nil
            go_simp
            go_at_call 11
            refine Calls.mono (NU.out _ _) ?_
            rintro e wz ⟨rfl, hwz⟩
            subst wz
            try go_wp2_with fail
            refine hK.out _ _ ?_ (fun hHeld_1 => ?_)
            · exact ⟨S5.out _ SC3.out.k5, S6.out _ SC3.out.k6⟩
            clear hK K
            try simp only [Act.put, List.setIfInBounds_toArray, List.set_cons_zero, List.set_cons_succ]
            refine wpAnyH_ready (rs := [3]) (by kernel_rfl) (by simp) ?_
            refine AllReadyH.cons (o := { dst := some 111, op := Op.call { callee := Callee.value (Operand.func 11), args := #[Operand.tmp 110], argTypes := #[29] }, type := 3, pos := "law.go:193", after := #[{ on := 2, ground := Ground.data }, { on := 1, ground := Ground.chain }], guard := none }) rfl (fun K hK => ?_) AllReadyH.nil
            go_simp
            go_at_call 11
            refine Calls.mono (NU.out _ _) ?_
            rintro e wz ⟨rfl, hwz⟩
            subst wz
            try go_wp2_with fail
            refine hK.out _ _ ?_ (fun hHeld_3 => ?_)
            · exact ⟨S5.out _ SC3.out.k5, S6.out _ SC3.out.k6⟩
            clear hK K
            try simp only [Act.put, List.setIfInBounds_toArray, List.set_cons_zero, List.set_cons_succ]
            refine wpAnyH_take (i := 4) (oi := { dst := some 112, op := Op.binOp BinOp.neq 3 (Operand.tmp 109) (Operand.tmp 111) 3, type := 4, pos := "law.go:193", after := #[{ on := 1, ground := Ground.data }, { on := 3, ground := Ground.data }], guard := none }) (v := ?_) rfl (by kernel_rfl) (by kernel_rfl) (by kernel_rfl) (fun _ _ _ h => h) (Or.inl ⟨by rfl, ?_⟩) hHeld_3 ?_
            rotate_left
            · (intro w hSw; (try dsimp only at hSw); go_simp; try with_reducible rfl)
            try simp only [Act.put, List.setIfInBounds_toArray, List.set_cons_zero, List.set_cons_succ]
            refine wpAnyH_take (i := 5) (oi := { dst := some 113, op := Op.move (Operand.tmp 112), type := 4, pos := "law.go:193", after := #[{ on := 4, ground := Ground.data }, { on := 3, ground := Ground.chain }], guard := none }) (v := ?_) rfl (by kernel_rfl) (by kernel_rfl) (by kernel_rfl) (fun _ _ _ h => h) (Or.inl ⟨by rfl, ?_⟩) hHeld_3 ?_
            rotate_left
            · (intro w hSw; (try dsimp only at hSw); go_simp; try with_reducible rfl)
            try simp only [Act.put, List.setIfInBounds_toArray, List.set_cons_zero, List.set_cons_succ]
            refine wpAnyH_take (i := 6) (oi := { dst := some 114, op := Op.move (Operand.tmp 13), type := 3, pos := "law.go:193", after := #[{ on := 5, ground := Ground.guard }], guard := some (5, false) }) (v := ?_) rfl (by kernel_rfl) (by kernel_rfl) (by kernel_rfl) (fun _ _ _ h => h) (Or.inl ⟨by rfl, ?_⟩) hHeld_3 ?_
            rotate_left
            · (intro w hSw; (try dsimp only at hSw); go_simp; try with_reducible rfl)
            try simp only [Act.put, List.setIfInBounds_toArray, List.set_cons_zero, List.set_cons_succ]
            refine wpAnyH_take (i := 7) (oi := { dst := some 115, op := Op.indexAddr 66 (Operand.tmp 5) (Operand.tmp 114), type := 0, pos := "law.go:193", after := #[{ on := 6, ground := Ground.data }, { on := 5, ground := Ground.guard }], guard := some (5, false) }) (v := ?_) rfl (by kernel_rfl) (by kernel_rfl) (by kernel_rfl) (fun _ _ _ h => h) (Or.inl ⟨by rfl, ?_⟩) hHeld_3 ?_
            rotate_left
            · (intro w hSw; (try dsimp only at hSw); go_simp; try with_reducible rfl)
            try simp only [Act.put, List.setIfInBounds_toArray, List.set_cons_zero, List.set_cons_succ]
            refine wpAnyH_take (i := 8) (oi := { dst := some 116, op := Op.load 25 (Operand.tmp 115), type := 25, pos := "law.go:193", after := #[{ on := 7, ground := Ground.data }, { on := 5, ground := Ground.guard }], guard := some (5, false) }) (v := ?_) rfl (by kernel_rfl) (by kernel_rfl) (by kernel_rfl) (fun _ _ _ h => h) (Or.inl ⟨by rfl, ?_⟩) hHeld_3 ?_
            rotate_left
            · (intro w hSw; (try dsimp only at hSw); go_simp; try with_reducible rfl)
            try simp only [Act.put, List.setIfInBounds_toArray, List.set_cons_zero, List.set_cons_succ]
            refine wpAnyH_take (i := 10) (oi := { dst := some 118, op := Op.move (Operand.tmp 13), type := 3, pos := "law.go:193", after := #[{ on := 5, ground := Ground.guard }], guard := some (5, false) }) (v := ?_) rfl (by kernel_rfl) (by kernel_rfl) (by kernel_rfl) (fun _ _ _ h => h) (Or.inl ⟨by rfl, ?_⟩) hHeld_3 ?_
            rotate_left
            · (intro w hSw; (try dsimp only at hSw); go_simp; try with_reducible rfl)
            try simp only [Act.put, List.setIfInBounds_toArray, List.set_cons_zero, List.set_cons_succ]
            refine wpAnyH_take (i := 11) (oi := { dst := some 119, op := Op.indexAddr 72 (Operand.tmp 6) (Operand.tmp 118), type := 0, pos := "law.go:193", after := #[{ on := 10, ground := Ground.data }, { on := 5, ground := Ground.guard }], guard := some (5, false) }) (v := ?_) rfl (by kernel_rfl) (by kernel_rfl) (by kernel_rfl) (fun _ _ _ h => h) (Or.inl ⟨by rfl, ?_⟩) hHeld_3 ?_
            rotate_left
            · (intro w hSw; (try dsimp only at hSw); go_simp; try with_reducible rfl)
            try simp only [Act.put, List.setIfInBounds_toArray, List.set_cons_zero, List.set_cons_succ]
            refine wpAnyH_take (i := 12) (oi := { dst := some 120, op := Op.load 67 (Operand.tmp 119), type := 67, pos := "law.go:193", after := #[{ on := 11, ground := Ground.data }, { on := 5, ground := Ground.guard }], guard := some (5, false) }) (v := ?_) rfl (by kernel_rfl) (by kernel_rfl) (by kernel_rfl) (fun _ _ _ h => h) (Or.inl ⟨by rfl, ?_⟩) hHeld_3 ?_
            rotate_left
            · (intro w hSw; (try dsimp only at hSw); go_simp; try with_reducible rfl)
            try simp only [Act.put, List.setIfInBounds_toArray, List.set_cons_zero, List.set_cons_succ]
            refine wpAnyH_ready (rs := [9]) (by kernel_rfl) (by simp) ?_
            refine AllReadyH.cons (o := { dst := some 117, op := Op.call { callee := Callee.value (Operand.func 13), args := #[Operand.tmp 116], argTypes := #[25] }, type := 3, pos := "law.go:193", after := #[{ on := 8, ground := Ground.data }, { on := 5, ground := Ground.chain }, { on := 5, ground := Ground.guard }], guard := some (5, false) }) rfl (fun K hK => ?_) AllReadyH.nil
            go_simp
            go_at_call 13
            refine Calls.mono (DEP.out _ (Below.refl _ _)) ?_
            rintro e wz ⟨rfl, hwz⟩
            subst wz
            try go_wp2_with fail
            refine hK.out _ _ ?_ (fun hHeld_9 => ?_)
            · exact ⟨S5.out _ SC3.out.k5, S6.out _ SC3.out.k6⟩
            clear hK K
            try simp only [Act.put, List.setIfInBounds_toArray, List.set_cons_zero, List.set_cons_succ]
            refine wpAnyH_ready (rs := [13]) (by kernel_rfl) (by simp) ?_
            refine AllReadyH.cons (o := { dst := some 121, op := Op.call { callee := Callee.value (Operand.func 31), args := #[Operand.tmp 120], argTypes := #[67] }, type := 3, pos := "law.go:193", after := #[{ on := 12, ground := Ground.data }, { on := 9, ground := Ground.chain }, { on := 5, ground := Ground.guard }], guard := some (5, false) }) rfl (fun K hK => ?_) AllReadyH.nil
            go_simp
            go_at_call 31
            refine Calls.mono (RDE.out _ (Below.refl _ _)) ?_
            rintro e wz ⟨rfl, hwz⟩
            subst wz
            try go_wp2_with fail
            refine hK.out _ _ ?_ (fun hHeld_13 => ?_)
            · exact ⟨S5.out _ SC3.out.k5, S6.out _ SC3.out.k6⟩
            clear hK K
            try simp only [Act.put, List.setIfInBounds_toArray, List.set_cons_zero, List.set_cons_succ]
            refine wpAnyH_take (i := 14) (oi := { dst := some 122, op := Op.binOp BinOp.neq 3 (Operand.tmp 117) (Operand.tmp 121) 3, type := 4, pos := "law.go:193", after := #[{ on := 9, ground := Ground.data }, { on := 13, ground := Ground.data }, { on := 5, ground := Ground.guard }], guard := some (5, false) }) (v := ?_) rfl (by kernel_rfl) (by kernel_rfl) (by kernel_rfl) (fun _ _ _ h => h) (Or.inl ⟨by rfl, ?_⟩) hHeld_13 ?_
            rotate_left
            · (intro w hSw; (try dsimp only at hSw); go_simp; try with_reducible rfl)
            try simp only [Act.put, List.setIfInBounds_toArray, List.set_cons_zero, List.set_cons_succ]
            refine wpAnyH_take (i := 15) (oi := { dst := some 123, op := Op.pick (Operand.tmp 113) (Operand.const (Value.bool true)) (Operand.tmp 122), type := 4, pos := "law.go:193", after := #[{ on := 5, ground := Ground.data }, { on := 14, ground := Ground.data }], guard := none }) (v := ?_) rfl (by kernel_rfl) (by kernel_rfl) (by kernel_rfl) (fun _ _ _ h => h) (Or.inl ⟨by rfl, ?_⟩) hHeld_13 ?_
            rotate_left
            · (intro w hSw; (try dsimp only at hSw); go_simp; try with_reducible rfl)
            try simp only [Act.put, List.setIfInBounds_toArray, List.set_cons_zero, List.set_cons_succ]
            refine wpAnyH_take (i := 16) (oi := { dst := some 124, op := Op.move (Operand.tmp 123), type := 4, pos := "law.go:193", after := #[{ on := 15, ground := Ground.data }, { on := 13, ground := Ground.chain }], guard := none }) (v := ?_) rfl (by kernel_rfl) (by kernel_rfl) (by kernel_rfl) (fun _ _ _ h => h) (Or.inl ⟨by rfl, ?_⟩) hHeld_13 ?_
            rotate_left
            · (intro w hSw; (try dsimp only at hSw); go_simp; try with_reducible rfl)
            try simp only [Act.put, List.setIfInBounds_toArray, List.set_cons_zero, List.set_cons_succ]
            refine wpAnyH_take (i := 17) (oi := { dst := some 125, op := Op.move (Operand.tmp 13), type := 3, pos := "law.go:193", after := #[{ on := 16, ground := Ground.guard }], guard := some (16, false) }) (v := ?_) rfl (by kernel_rfl) (by kernel_rfl) (by kernel_rfl) (fun _ _ _ h => h) (Or.inl ⟨by rfl, ?_⟩) hHeld_13 ?_
            rotate_left
            · (intro w hSw; (try dsimp only at hSw); go_simp; try with_reducible rfl)
            try simp only [Act.put, List.setIfInBounds_toArray, List.set_cons_zero, List.set_cons_succ]
            refine wpAnyH_take (i := 18) (oi := { dst := some 126, op := Op.indexAddr 66 (Operand.tmp 5) (Operand.tmp 125), type := 0, pos := "law.go:193", after := #[{ on := 17, ground := Ground.data }, { on := 16, ground := Ground.guard }], guard := some (16, false) }) (v := ?_) rfl (by kernel_rfl) (by kernel_rfl) (by kernel_rfl) (fun _ _ _ h => h) (Or.inl ⟨by rfl, ?_⟩) hHeld_13 ?_
            rotate_left
            · (intro w hSw; (try dsimp only at hSw); go_simp; try with_reducible rfl)
            try simp only [Act.put, List.setIfInBounds_toArray, List.set_cons_zero, List.set_cons_succ]
            refine wpAnyH_take (i := 19) (oi := { dst := some 127, op := Op.load 25 (Operand.tmp 126), type := 25, pos := "law.go:193", after := #[{ on := 18, ground := Ground.data }, { on := 16, ground := Ground.guard }], guard := some (16, false) }) (v := ?_) rfl (by kernel_rfl) (by kernel_rfl) (by kernel_rfl) (fun _ _ _ h => h) (Or.inl ⟨by rfl, ?_⟩) hHeld_13 ?_
            rotate_left
            · (intro w hSw; (try dsimp only at hSw); go_simp; try with_reducible rfl)
            try simp only [Act.put, List.setIfInBounds_toArray, List.set_cons_zero, List.set_cons_succ]
            refine wpAnyH_take (i := 21) (oi := { dst := some 129, op := Op.move (Operand.tmp 13), type := 3, pos := "law.go:193", after := #[{ on := 16, ground := Ground.guard }], guard := some (16, false) }) (v := ?_) rfl (by kernel_rfl) (by kernel_rfl) (by kernel_rfl) (fun _ _ _ h => h) (Or.inl ⟨by rfl, ?_⟩) hHeld_13 ?_
            rotate_left
            · (intro w hSw; (try dsimp only at hSw); go_simp; try with_reducible rfl)
            try simp only [Act.put, List.setIfInBounds_toArray, List.set_cons_zero, List.set_cons_succ]
            refine wpAnyH_take (i := 22) (oi := { dst := some 130, op := Op.indexAddr 72 (Operand.tmp 6) (Operand.tmp 129), type := 0, pos := "law.go:193", after := #[{ on := 21, ground := Ground.data }, { on := 16, ground := Ground.guard }], guard := some (16, false) }) (v := ?_) rfl (by kernel_rfl) (by kernel_rfl) (by kernel_rfl) (fun _ _ _ h => h) (Or.inl ⟨by rfl, ?_⟩) hHeld_13 ?_
            rotate_left
            · (intro w hSw; (try dsimp only at hSw); go_simp; try with_reducible rfl)
            try simp only [Act.put, List.setIfInBounds_toArray, List.set_cons_zero, List.set_cons_succ]
            refine wpAnyH_take (i := 23) (oi := { dst := some 131, op := Op.load 67 (Operand.tmp 130), type := 67, pos := "law.go:193", after := #[{ on := 22, ground := Ground.data }, { on := 16, ground := Ground.guard }], guard := some (16, false) }) (v := ?_) rfl (by kernel_rfl) (by kernel_rfl) (by kernel_rfl) (fun _ _ _ h => h) (Or.inl ⟨by rfl, ?_⟩) hHeld_13 ?_
            rotate_left
            · (intro w hSw; (try dsimp only at hSw); go_simp; try with_reducible rfl)
            try simp only [Act.put, List.setIfInBounds_toArray, List.set_cons_zero, List.set_cons_succ]
            refine wpAnyH_ready (rs := [20]) (by kernel_rfl) (by simp) ?_
            refine AllReadyH.cons (o := { dst := some 128, op := Op.call { callee := Callee.value (Operand.func 15), args := #[Operand.tmp 127], argTypes := #[25] }, type := 37, pos := "law.go:193", after := #[{ on := 19, ground := Ground.data }, { on := 16, ground := Ground.chain }, { on := 16, ground := Ground.guard }], guard := some (16, false) }) rfl (fun K hK => ?_) AllReadyH.nil
            go_simp
            go_at_call 15
            refine Calls.mono (SCO.out _ (Below.refl _ _)) ?_
            rintro e w5 ⟨hb5, a5, n5, c5, p5, k5, d5, ts5, m5, rfl, hs5⟩
            have H5 : Hid (Below w3.drew.heap.size w3.drew w5 ∧ ScopeL w5 lN a5 p5 n5 k5 ts5 m5) := ⟨hb5, hs5⟩
            clear hb5 hs5
            try go_wp2_with fail
            refine hK.out _ _ ?_ (fun hHeld_20 => ?_)
            · exact ⟨S5.out _ (SC3.out.below H5.out.1).k5, S6.out _ (SC3.out.below H5.out.1).k6⟩
            clear hK K
            try simp only [Act.put, List.setIfInBounds_toArray, List.set_cons_zero, List.set_cons_succ]
            refine wpAnyH_ready (rs := [24]) (by kernel_rfl) (by simp) ?_
            refine AllReadyH.cons (o := { dst := some 132, op := Op.call { callee := Callee.value (Operand.func 32), args := #[Operand.tmp 131], argTypes := #[67] }, type := 37, pos := "law.go:193", after := #[{ on := 23, ground := Ground.data }, { on := 20, ground := Ground.chain }, { on := 16, ground := Ground.guard }], guard := some (16, false) }) rfl (fun K hK => ?_) AllReadyH.nil
            go_simp
            go_at_call 32
            refine Calls.mono (RSC.out _ H5.out.1) ?_
            rintro e w6 ⟨hb6, a6, n6, c6, p6, k6, d6, ts6, m6, rfl, hs6⟩
            have H6 : Hid (Below w3.drew.heap.size w3.drew w6) := H5.out.1.trans (hb6.mono H5.out.1.size)
            have SAM : Hid _ := told_same GN.out (by omega) (H5.out.2.under hb6) (hs6.law AN.out fun q hq => (GN.out.ps q hq).2.2.1) c5 d5 c6 d6
            clear hb6 hs6
            try go_wp2_with fail
            refine hK.out _ _ ?_ (fun hHeld_24 => ?_)
            · exact ⟨S5.out _ (SC3.out.below H6.out).k5, S6.out _ (SC3.out.below H6.out).k6⟩
            clear hK K
            try simp only [Act.put, List.setIfInBounds_toArray, List.set_cons_zero, List.set_cons_succ]
            refine wpAnyH_ready (rs := [25]) (by kernel_rfl) (by simp) ?_
            refine AllReadyH.cons (o := { dst := some 133, op := Op.call { callee := Callee.value (Operand.func 19), args := #[Operand.tmp 128, Operand.tmp 132], argTypes := #[37, 37] }, type := 4, pos := "law.go:193", after := #[{ on := 20, ground := Ground.data }, { on := 24, ground := Ground.data }, { on := 24, ground := Ground.chain }, { on := 16, ground := Ground.guard }], guard := some (16, false) }) rfl (fun K hK => ?_) AllReadyH.nil
            go_simp
            go_at_call 19
            refine Calls.mono SAM.out ?_
            rintro e w7 ⟨rfl, hb7⟩
            have H7 : Hid (Below w3.drew.heap.size w3.drew w7) := H6.out.trans (hb7.mono H6.out.size)
            clear hb7 SAM
            try go_wp2_with fail
            refine hK.out _ _ ?_ (fun hHeld_25 => ?_)
            · exact ⟨S5.out _ (SC3.out.below H7.out).k5, S6.out _ (SC3.out.below H7.out).k6⟩
            clear hK K
            try simp only [Act.put, List.setIfInBounds_toArray, List.set_cons_zero, List.set_cons_succ]
            refine wpAnyH_take (i := 26) (oi := { dst := some 134, op := Op.unOp UnOp.not 4 (Operand.tmp 133), type := 4, pos := "law.go:193", after := #[{ on := 25, ground := Ground.data }, { on := 16, ground := Ground.guard }], guard := some (16, false) }) (v := ?_) rfl (by kernel_rfl) (by kernel_rfl) (by kernel_rfl) (fun _ _ _ h => h) (Or.inl ⟨by rfl, ?_⟩) hHeld_25 ?_
            rotate_left
            · (intro w hSw; (try dsimp only at hSw); go_simp; try with_reducible rfl)
            try simp only [Act.put, List.setIfInBounds_toArray, List.set_cons_zero, List.set_cons_succ]
            refine wpAnyH_take (i := 27) (oi := { dst := some 135, op := Op.pick (Operand.tmp 124) (Operand.const (Value.bool true)) (Operand.tmp 134), type := 4, pos := "law.go:193", after := #[{ on := 16, ground := Ground.data }, { on := 26, ground := Ground.data }], guard := none }) (v := ?_) rfl (by kernel_rfl) (by kernel_rfl) (by kernel_rfl) (fun _ _ _ h => h) (Or.inl ⟨by rfl, ?_⟩) hHeld_25 ?_
            rotate_left
            · (intro w hSw; (try dsimp only at hSw); go_simp; try with_reducible rfl)
            try simp only [Act.put, List.setIfInBounds_toArray, List.set_cons_zero, List.set_cons_succ]
            refine wpAnyH_done (by kernel_rfl) ?_ _
            have NX : Hid (StP T5 T6 #[.pointer (some ⟨P1, 0, none⟩), .pointer (some ⟨P2, 0, none⟩)] #[.pointer (some ⟨Q1, 0, none⟩), .pointer (some ⟨Q2, 0, none⟩)] w P2 Q2 P1 Q1 (i + 1) (i + 1) w7) := ⟨lN, xN, DN, l2, x2, D2, GN.out, AN.out, GA.out.2.2.1, GA.out.2.2.2, SC3.out.below H7.out⟩
            clear S5 S6 GA AN GN SC3 HSE DEP RDE SCO RSC H5 H6 H7
            go_wp2
            exact ⟨⟨2, by omega, by go_num, NX.out.swap⟩, by simp [intOf]⟩
          · have k2 : k = 2 := by omega
            subst k2
            have HK : Hid (Below w.heap.size w wr) := by
              obtain ⟨l1, x1, D1, l2, x2, D2, g1, al1, g2, al2, sc⟩ := hK.out
              exact sc.b
            clear hK
            rw [show ((2 : Nat) : Int) = 2 from rfl]
            go_wp2
            go_ret
            exact ⟨rfl, HK.out⟩
end Go.Proofs.YtkejjiilcoacfaaGreat
