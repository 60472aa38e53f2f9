/- What Carry asks for and Breach breaks (pure). -/
import Derived.Test.YtjaccgkeldabfaaGreatBreach
import Derived.Test.YtjaccgkeldabfaaGreatReads
namespace Go.Proofs.YtjaccgkeldabfaaGreat
open Go.RowKit

theorem turnTwo (a b : Int) : turnP (a, b) = (a, b) ∨ turnP (a, b) = (b, a) := by
  unfold turnP
  simp only [Prod.mk.injEq]
  omega
theorem turnSw (a b : Int) : turnP (a, b) = turnP (b, a) := turn_eq.2 (.inr ⟨rfl, rfl⟩)
theorem eqP_turn {q p : Pr} : eqP q p = true ↔ turnP q = turnP p := by
  rw [turn_eq]
  unfold eqP
  simp
theorem stands_iff {l : List Pr} {p : Pr} : standsL l p = true ↔ ∃ q ∈ l, turnP q = turnP p := by
  unfold standsL
  rw [List.any_eq_true]
  exact ⟨fun ⟨q, h, e⟩ => ⟨q, h, eqP_turn.1 e⟩, fun ⟨q, h, e⟩ => ⟨q, h, eqP_turn.2 e⟩⟩
theorem fine_iff {bl : List (Int × List Int)} {p : Int → Bool} {l : List Pr} : l.find? (badM bl p) = none ↔ ∀ q ∈ l, ∀ a, a ∈ vL bl p q.1 → a ∉ vL bl p q.2 := by
  rw [List.find?_eq_none]
  constructor
  · intro h q hq a h1 h2
    exact h q hq (meet_iff.2 ⟨a, h1, h2⟩)
  · intro h q hq hb
    obtain ⟨a, h1, h2⟩ := meet_iff.1 hb
    exact h q hq a h1 h2
theorem whole_iff {bl : List (Int × List Int)} {p : Int → Bool} {l hv : List Pr} : l.find? (badH bl p hv) = none ↔ ∀ q ∈ l, ∀ a ∈ vL bl p q.1, ∀ b ∈ vL bl p q.2, inN hv (turnP (a, b)) := by
  rw [List.find?_eq_none]
  constructor
  · intro h q hq a ha b hb
    have := h q hq
    unfold badH at this
    simp only [Bool.not_eq_true', Bool.not_eq_false] at this
    exact had_iff.1 (each_iff.1 this a ha b hb)
  · intro h q hq hb
    unfold badH at hb
    rw [Bool.not_eq_true'] at hb
    rw [each_iff.2 fun a ha b hb => had_iff.2 (h q hq a ha b hb)] at hb
    cases hb
section
variable {bl : List (Int × List Int)} {p : Int → Bool} {l mn mm : List Pr} (hwb : ∀ q ∈ bl, ∀ x ∈ q.2, wfI x) (hwl : ∀ q ∈ l, wfP q) (hn : IsNorm l mn) (ht : Told (askS bl p mn) mm) (hf : l.find? (badM bl p) = none)
include hwb hwl hn ht hf
theorem ask_in {q : Pr} (hq : q ∈ l) {a b : Int} (ha : a ∈ vL bl p q.1) (hb : b ∈ vL bl p q.2) : turnP (a, b) ∈ mm ∧ a ≠ b := by
  have hab : a ≠ b := fun e => by subst e; exact fine_iff.1 hf q hq a ha hb
  have hne : q.1 ≠ q.2 := fun e => fine_iff.1 hf q hq a ha (by rw [← e]; exact ha)
  have hw : wfP (turnP (a, b)) := wf_turn ⟨str_wf hwb (hwl q hq).1 a (vL_mem.1 ha).1, str_wf hwb (hwl q hq).2 b (vL_mem.1 hb).1⟩
  have hm : turnP q ∈ mn := (hn.mem _).2 ⟨turn_lt.2 hne, q, hq, rfl⟩
  refine ⟨(ht.mem _ hw).2 ⟨turnP q, hm, ?_⟩, hab⟩
  rcases turnTwo q.1 q.2 with e | e
  · have e' : turnP q = (q.1, q.2) := e
    rw [e']
    exact ⟨a, ha, b, hb, rfl⟩
  · have e' : turnP q = (q.2, q.1) := e
    rw [e']
    exact ⟨b, hb, a, ha, turnSw a b⟩
omit hwb hwl in
theorem ask_from {z : Pr} (hz : z ∈ mm) : ∃ q ∈ l, ∃ a ∈ vL bl p q.1, ∃ b ∈ vL bl p q.2, z = turnP (a, b) ∧ a ≠ b := by
  obtain ⟨pr, hp, a, ha, b, hb, rfl⟩ := (ht.mem z (ht.wf z hz)).1 hz
  obtain ⟨hlt, q, hq, e⟩ := (hn.mem pr).1 hp
  have e1 : turnP q = turnP pr := by rw [e]; exact (turn_id (by omega)).symm
  rcases turn_eq.1 e1 with ⟨g1, g2⟩ | ⟨g1, g2⟩
  · rw [← g1] at ha
    rw [← g2] at hb
    exact ⟨q, hq, a, ha, b, hb, rfl, fun e => by subst e; exact fine_iff.1 hf q hq a ha hb⟩
  · rw [← g2] at ha
    rw [← g1] at hb
    exact ⟨q, hq, b, hb, a, ha, turnSw a b, fun e => by subst e; exact fine_iff.1 hf q hq b hb ha⟩
omit hwb hwl in
theorem ask_lt : ∀ z ∈ mm, z.1 < z.2 := fun z hz => by
  obtain ⟨q, _, a, _, b, _, rfl, hab⟩ := ask_from hn ht hf hz
  exact turn_lt.2 hab
/-- With what is asked for, and more, nothing is broken; and else something is. -/
theorem whole_ask {hv : List Pr} : l.find? (badH bl p hv) = none ↔ ∀ z ∈ mm, standsL hv z = true := by
  rw [whole_iff]
  constructor
  · intro h z hz
    obtain ⟨q, hq, a, ha, b, hb, rfl, hab⟩ := ask_from hn ht hf hz
    obtain ⟨_, r, hr, e⟩ := h q hq a ha b hb
    exact stands_iff.2 ⟨r, hr, by rw [e, turn_turn]⟩
  · intro h q hq a ha b hb
    obtain ⟨hm, hab⟩ := ask_in hwb hwl hn ht hf hq ha hb
    obtain ⟨r, hr, e⟩ := stands_iff.1 (h _ hm)
    rw [turn_turn] at e
    exact ⟨turn_lt.2 hab, r, hr, e⟩
theorem ask_own : l.find? (badH bl p mm) = none := (whole_ask hwb hwl hn ht hf).2 fun z hz => stands_iff.2 ⟨z, hz, rfl⟩
theorem ask_less {k : Nat} (hk : k < mm.length) : (l.find? (badH bl p (mm.take k ++ mm.drop (k + 1)))).isSome = true := by
  rw [Option.isSome_iff_ne_none]
  intro h
  have h2 := (whole_ask hwb hwl hn ht hf).1 h mm[k] (List.getElem_mem hk)
  obtain ⟨r, hr, e⟩ := stands_iff.1 h2
  have hrm : r ∈ mm := by
    rcases List.mem_append.1 hr with hr | hr
    · exact List.mem_of_mem_take hr
    · exact List.mem_of_mem_drop hr
  have l1 := ask_lt hn ht hf r hrm
  have l2 := ask_lt hn ht hf _ (List.getElem_mem hk)
  rw [turn_id (by omega), turn_id (by omega)] at e
  have hnd := up_nodup ht.up
  have hsplit : mm = mm.take k ++ (mm[k] :: mm.drop (k + 1)) := by
    rw [← List.drop_eq_getElem_cons hk, List.take_append_drop]
  rw [hsplit] at hnd
  obtain ⟨_, h4, h5⟩ := List.nodup_append.1 hnd
  rw [e] at hr
  rcases List.mem_append.1 hr with hr | hr
  · exact h5 _ hr _ List.mem_cons_self rfl
  · exact (List.nodup_cons.1 h4).1 hr
end
theorem fine_of_whole {bl : List (Int × List Int)} {p : Int → Bool} {l hv : List Pr} (h : l.find? (badH bl p hv) = none) : l.find? (badM bl p) = none := fine_iff.2 fun q hq a h1 h2 => by
  have := (whole_iff.1 h q hq a h1 a h2).1
  unfold turnP at this
  simp at this
theorem find_one {q : Pr} {f : Pr → Bool} : [q].find? f = if f q then some q else none := by
  simp only [List.find?_cons, List.find?_nil]
  cases f q <;> rfl
end Go.Proofs.YtjaccgkeldabfaaGreat
