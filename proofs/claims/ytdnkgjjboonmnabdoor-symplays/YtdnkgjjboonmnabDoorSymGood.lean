/- What the calls answer, case by case; constants stay active (pure). -/
import Derived.Test.YtdnkgjjboonmnabDoorSymOk
namespace Go.Proofs.YtdnkgjjboonmnabDoor
open Go.RowKit

theorem const_cases (T : Tab) (s : ByteArray) : (∃ e, e ≠ 0 ∧ constR T s = (0, e, T)) ∨ (T.scopes = [] ∧ madeB s 3 = true ∧ numOf T.syms s = none ∧ T.syms.length < 512 ∧ constR T s = (T.syms.length, 0, actT (addT T s false) T.syms.length)) := by
  unfold constR
  split
  · exact .inl ⟨23, by omega, rfl⟩
  · split
    · exact .inl ⟨21, by omega, rfl⟩
    · split
      · exact .inl ⟨20, by omega, rfl⟩
      · unfold declR
        split
        · exact .inl ⟨22, by omega, rfl⟩
        · refine .inr ⟨?_, ?_, ?_, by omega, rfl⟩
          · exact List.eq_nil_of_length_eq_zero (by omega)
          · simpa using ‹¬ madeB s 3 = false›
          · simpa using ‹¬ (numOf T.syms s).isSome = true›
theorem var_cases (T : Tab) (s : ByteArray) : (∃ e, e ≠ 0 ∧ varR T s = (0, e, T)) ∨ (madeB s 3 = true ∧ numOf T.syms s = none ∧ T.syms.length < 512 ∧ varR T s = (T.syms.length, 0, actT (addT T s true) T.syms.length)) ∨ (∃ n b, T.syms[n]? = some (s, b) ∧ n ∉ T.act ∧ varR T s = (n, 0, actT T n)) := by
  unfold varR
  split
  · exact .inl ⟨21, by omega, rfl⟩
  · split
    · exact .inl ⟨20, by omega, rfl⟩
    · have ha : actOf T s = none := by simpa using ‹¬ (actOf T s).isSome = true›
      split
      · rename_i m hm
        obtain ⟨b, hb⟩ := numOf_lt hm
        refine .inr (.inr ⟨m, b, hb, fun hin => ?_, rfl⟩)
        unfold actOf at ha
        rw [hm] at ha
        simp [Option.filter, hin] at ha
      · unfold declR
        split
        · exact .inl ⟨22, by omega, rfl⟩
        · exact .inr (.inl ⟨by simpa using ‹¬ madeB s 3 = false›, by assumption, by omega, rfl⟩)

/-- Constants are active for ever. -/
def Tab.Good (T : Tab) : Prop := ∀ n p, T.syms[n]? = some p → p.2 = false → n ∈ T.act ∧ ∀ l ∈ T.scopes, n ∉ l
theorem getD_mem {l : List (List Nat)} {i : Nat} {x : Nat} (h : x ∈ l.getD i []) : ∃ y ∈ l, x ∈ y := by
  rw [List.getD] at h
  cases e : l[i]? with
  | none => rw [e] at h; simp at h
  | some y => rw [e] at h; exact ⟨y, List.mem_of_getElem? e, by simpa using h⟩
theorem good_act {T : Tab} (h : T.Good) (n : Nat) (hn : ∀ p, T.syms[n]? = some p → p.2 = true ∨ T.scopes = []) : (actT T n).Good := by
  intro m p hp hv
  obtain ⟨h1, h2⟩ := h m p hp hv
  refine ⟨List.mem_cons_of_mem _ h1, fun l hl => ?_⟩
  rcases List.mem_or_eq_of_mem_set hl with h3 | rfl
  · exact h2 l h3
  · intro hm
    rcases List.mem_append.1 hm with hm | hm
    · obtain ⟨y, hy, hx⟩ := getD_mem hm
      exact h2 y hy hx
    · simp at hm
      subst hm
      rcases hn p hp with h4 | h4
      · rw [hv] at h4; cases h4
      · unfold actT at hl
        dsimp only at hl
        rw [h4] at hl
        simp at hl
theorem good_decl {T : Tab} (h : T.Good) (s : ByteArray) (v : Bool) (_hin : ∀ l ∈ T.scopes, ∀ n ∈ l, n < T.syms.length) (hv : v = true ∨ T.scopes = []) : (actT (addT T s v) T.syms.length).Good := by
  intro m p hp hpv
  have hp' : (T.syms ++ [(s, v)])[m]? = some p := hp
  by_cases hlt : m < T.syms.length
  · rw [List.getElem?_append_left hlt] at hp'
    obtain ⟨h1, h2⟩ := h m p hp' hpv
    refine ⟨List.mem_cons_of_mem _ h1, fun l hl => ?_⟩
    rcases List.mem_or_eq_of_mem_set hl with h3 | rfl
    · exact h2 l h3
    · intro hm
      rcases List.mem_append.1 hm with hm | hm
      · obtain ⟨y, hy, hx⟩ := getD_mem hm
        exact h2 y hy hx
      · simp at hm; omega
  · have hm : m = T.syms.length := by
      have := (List.getElem?_eq_some_iff.1 hp').1
      simp at this; omega
    subst hm
    simp at hp'
    subst hp'
    rcases hv with rfl | hv
    · cases hpv
    · refine ⟨List.mem_cons_self, fun l hl => ?_⟩
      have hl' : l ∈ T.scopes.set (T.scopes.length - 1) (T.scopes.getD (T.scopes.length - 1) [] ++ [T.syms.length]) := hl
      rw [hv] at hl'
      simp at hl'
theorem good_open {T : Tab} (h : T.Good) : (openR T).2.Good := by
  unfold openR
  split
  · exact h
  · intro m p hp hv
    obtain ⟨h1, h2⟩ := h m p hp hv
    refine ⟨h1, fun l hl => ?_⟩
    rcases List.mem_append.1 hl with hl | hl
    · exact h2 l hl
    · simp at hl; subst hl; simp
theorem good_close {T : Tab} (h : T.Good) : (closeR T).2.Good := by
  unfold closeR
  split
  · exact h
  · intro m p hp hv
    obtain ⟨h1, h2⟩ := h m p hp hv
    refine ⟨List.mem_filter.2 ⟨h1, ?_⟩, fun l hl => h2 l (List.mem_of_mem_take hl)⟩
    simp only [decide_eq_true_eq]
    intro hm
    obtain ⟨y, hy, hx⟩ := getD_mem hm
    exact h2 y hy hx
theorem good_label {T : Tab} (s : ByteArray) (h : T.Good) : (labelR T s).2.Good := by
  unfold labelR
  split
  · exact h
  · split
    · exact h
    · split <;> exact h
theorem good_const {T : Tab} {k : Nat} (s : ByteArray) (h : T.Good) (hT : T.Ok k) : (constR T s).2.2.Good := by
  rcases const_cases T s with ⟨e, _, h1⟩ | ⟨h0, _, _, _, h1⟩
  · rw [h1]; exact h
  · rw [h1]; exact good_decl h s false hT.inner (.inr h0)
theorem good_var {T : Tab} {k : Nat} (s : ByteArray) (h : T.Good) (hT : T.Ok k) : (varR T s).2.2.Good := by
  rcases var_cases T s with ⟨e, _, h1⟩ | ⟨_, _, _, h1⟩ | ⟨n, b, hb, hn, h1⟩
  · rw [h1]; exact h
  · rw [h1]; exact good_decl h s true hT.inner (.inl rfl)
  · rw [h1]
    refine good_act h n fun p hp => .inl ?_
    rw [hb] at hp
    cases hp
    cases b with
    | true => rfl
    | false => exact absurd (h n _ hb rfl).1 hn
theorem good_do {T : Tab} {k : Nat} (kind : Int) (s : ByteArray) (h : T.Good) (hT : T.Ok k) : (doT T kind s).Good := by
  unfold doT
  split
  · exact good_open h
  · split
    · exact good_close h
    · split
      · exact good_const s h hT
      · split
        · exact good_var s h hT
        · split
          · exact good_label s h
          · exact h
theorem ok_tab0 : tab0.Ok 0 := ⟨by simp [tab0], by simp [tab0], by simp [tab0], by simp [tab0], by simp [tab0], by simp [tab0], by simp [tab0], by simp [tab0]⟩
theorem good_tab0 : tab0.Good := fun n p hp => by simp [tab0] at hp
theorem sym_at {T : Tab} {n : Nat} {p : ByteArray × Bool} (h : T.syms[n]? = some p) : symAt T (n : Int) = some p := by
  unfold symAt
  rw [if_pos (by omega)]
  simpa using h
theorem sym_none {T : Tab} {n : Nat} (h : T.syms.length ≤ n) : symAt T (n : Int) = none := by
  unfold symAt
  rw [if_pos (by omega)]
  simpa using h
theorem act_at {T : Tab} {n : Nat} {p : ByteArray × Bool} (hnd : (T.syms.map (·.1)).Nodup) (h : T.syms[n]? = some p) : actOf T p.1 = if n ∈ T.act then some n else none := by
  unfold actOf
  rw [numOf_at hnd h]
  by_cases hm : n ∈ T.act <;> simp [Option.filter, hm]
theorem active_at {T : Tab} {n : Nat} {p : ByteArray × Bool} (hnd : (T.syms.map (·.1)).Nodup) (h : T.syms[n]? = some p) : activeOf T (n : Int) = decide (n ∈ T.act) := by
  unfold activeOf
  rw [sym_at h]
  show (actOf T p.1).isSome = _
  rw [act_at hnd h]
  by_cases hm : n ∈ T.act <;> simp [hm]


end Go.Proofs.YtdnkgjjboonmnabDoor
