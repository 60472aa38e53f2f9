/- What the answers have, of pairs in order (pure). -/
import Derived.Test.YtjaccgkeldabfaaReads
import Derived.Test.YtjaccgkeldabfaaHas
import Derived.Test.YtjaccgkeldabfaaAll
namespace Go.Proofs.Ytjaccgkeldabfaa
open Go.RowKit

theorem turn_eq {q p : Pr} : turnP q = turnP p ↔ (q.1 = p.1 ∧ q.2 = p.2) ∨ (q.1 = p.2 ∧ q.2 = p.1) := by
  unfold turnP
  rw [Prod.mk.injEq]
  omega
theorem eqP_iff {q p : Pr} : eqP q p = true ↔ turnP q = turnP p := by
  rw [turn_eq]
  unfold eqP
  simp
theorem turn_ne {p : Pr} : (turnP p).1 < (turnP p).2 ↔ p.1 ≠ p.2 := by
  unfold turnP
  dsimp only
  omega
theorem stands_has (l : List Pr) (p : Pr) : standsL l p = hasP l p := by
  unfold standsL hasP
  congr 1
  funext q
  rw [Bool.eq_iff_iff, eqP_iff, Bool.and_eq_true, beq_iff_eq, beq_iff_eq, Prod.ext_iff]
theorem has_mem {l : List Pr} {p q : Pr} (h : p ∈ l) (e : turnP p = turnP q) : hasP l q = true := by
  rw [← stands_has]
  exact List.any_eq_true.2 ⟨p, h, eqP_iff.2 e⟩
theorem turn_swap (x y : Int) : turnP (x, y) = turnP (y, x) := turn_eq.2 (.inr ⟨rfl, rfl⟩)
theorem stands_up {m : List Pr} (h : ∀ q ∈ m, q.1 < q.2) (p : Pr) : standsL m p = true ↔ turnP p ∈ m := by
  unfold standsL
  rw [List.any_eq_true]
  constructor
  · rintro ⟨q, hq, e⟩
    rw [eqP_iff, turn_id (by have := h q hq; omega)] at e
    rw [← e]; exact hq
  · intro hp
    exact ⟨_, hp, eqP_iff.2 (turn_turn p)⟩
theorem norm_lt {l m : List Pr} (h : IsNorm l m) : ∀ q ∈ m, q.1 < q.2 := fun q hq => ((h.mem q).1 hq).1
theorem bool_of {b : Bool} {P : Prop} [Decidable P] (h : b = true ↔ P) : b = decide P := by
  rw [Bool.eq_iff_iff, h, decide_eq_true_iff]
theorem stands_norm {l m : List Pr} (h : IsNorm l m) {x y : Int} (hp : (x, y) ∈ l) : standsL m (x, y) = decide (x ≠ y) := bool_of <| by
  rw [stands_up (norm_lt h), h.mem]
  unfold inN
  rw [turn_ne]
  exact ⟨fun g => g.1, fun g => ⟨g, (x, y), hp, rfl⟩⟩
theorem stands_only {l m : List Pr} {vl : List Int} (h : IsNorm (onlyP l vl) m) {x y : Int} (hp : (x, y) ∈ l) : standsL m (x, y) = (hasI vl x && hasI vl y && decide (x ≠ y)) := by
  rw [Bool.eq_iff_iff, stands_up (norm_lt h), h.mem, Bool.and_eq_true, Bool.and_eq_true, decide_eq_true_iff, hasI_iff, hasI_iff]
  unfold inN
  rw [turn_ne]
  constructor
  · rintro ⟨g, q, hq, e⟩
    unfold onlyP at hq
    obtain ⟨_, hb⟩ := List.mem_filter.1 hq
    rw [Bool.and_eq_true, List.contains_iff_mem, List.contains_iff_mem] at hb
    obtain ⟨h1, h2⟩ := hb
    rcases turn_eq.1 e with ⟨e1, e2⟩ | ⟨e1, e2⟩
    · dsimp only at e1 e2
      rw [e1] at h1; rw [e2] at h2
      exact ⟨⟨h1, h2⟩, g⟩
    · dsimp only at e1 e2
      rw [e1] at h1; rw [e2] at h2
      exact ⟨⟨h2, h1⟩, g⟩
  · rintro ⟨⟨h1, h2⟩, g⟩
    refine ⟨g, (x, y), List.mem_filter.2 ⟨hp, ?_⟩, rfl⟩
    rw [Bool.and_eq_true, List.contains_iff_mem, List.contains_iff_mem]
    exact ⟨h1, h2⟩
theorem norm_norm {l m : List Pr} (h : IsNorm l m) : IsNorm m m := ⟨h.up, fun p => by
  constructor
  · intro hp
    have := norm_lt h p hp
    exact ⟨this, p, hp, turn_id (by omega)⟩
  · rintro ⟨_, q, hq, e⟩
    have := norm_lt h q hq
    rw [turn_id (by omega)] at e
    rw [← e]; exact hq⟩
theorem norm_comm {l l' m : List Pr} (h : IsNorm (l ++ l') m) : IsNorm (l' ++ l) m := ⟨h.up, fun p => by
  rw [h.mem p, inN_append, inN_append]
  exact Or.comm⟩
theorem norm_self {l m : List Pr} (h : IsNorm l m) : IsNorm (l ++ l) m := ⟨h.up, fun p => by
  rw [h.mem p, inN_append]
  exact (or_self_iff).symm⟩
theorem stands_of {l m : List Pr} (h : IsNorm l m) {q : Pr} (hq : q ∈ m) : standsL l q = true := by
  obtain ⟨hlt, r, hr, e⟩ := (h.mem q).1 hq
  exact List.any_eq_true.2 ⟨r, hr, eqP_iff.2 (by rw [e, turn_id (by omega)])⟩
theorem stands_append (l l' : List Pr) (q : Pr) : standsL (l ++ l') q = (standsL l q || standsL l' q) := List.any_append
/-- All pairs of a list, from the front. -/
theorem front_cons (a : Int) (m : List Int) (i : Nat) : frontP (a :: m) (i + 1) = (m.map fun b => (a, b)) ++ frontP m i := by
  unfold frontP
  rw [List.range_succ_eq_map, List.flatMap_cons, List.flatMap_map]
  rfl
theorem allP_cons (a : Int) (m : List Int) : allP (a :: m) = (m.map fun b => (a, b)) ++ allP m := front_cons a m m.length
theorem allP_len : ∀ m : List Int, 2 * (allP m).length = m.length * (m.length - 1)
  | [] => rfl
  | a :: m => by
    have ih := allP_len m
    rw [allP_cons, List.length_append, List.length_map, List.length_cons, Nat.add_sub_cancel, Nat.mul_add, ih]
    cases m.length with
    | zero => rfl
    | succ k =>
      rw [Nat.add_sub_cancel, Nat.mul_comm (k + 1 + 1), show k + 1 + 1 = k + 2 from rfl, Nat.mul_add (k + 1) k 2]
      omega
theorem allP_mem : ∀ {m : List Int}, m.Pairwise (· < ·) → ∀ p : Pr, p ∈ allP m ↔ p.1 ∈ m ∧ p.2 ∈ m ∧ p.1 < p.2
  | [], _, p => by simp [allP, frontP]
  | a :: m, h, (x, y) => by
    obtain ⟨h1, h2⟩ := List.pairwise_cons.1 h
    rw [allP_cons, List.mem_append, allP_mem h2]
    simp only [List.mem_map, Prod.mk.injEq, List.mem_cons]
    constructor
    · rintro (⟨b, hb, rfl, rfl⟩ | ⟨g1, g2, g3⟩)
      · exact ⟨.inl rfl, .inr hb, h1 b hb⟩
      · exact ⟨.inr g1, .inr g2, g3⟩
    · rintro ⟨rfl | g1, rfl | g2, g3⟩
      · omega
      · exact .inl ⟨y, g2, rfl, rfl⟩
      · have := h1 x g1; omega
      · exact .inr ⟨g1, g2, g3⟩
theorem allP_up : ∀ {m : List Int}, m.Pairwise (· < ·) → Up (allP m)
  | [], _ => List.Pairwise.nil
  | a :: m, h => by
    obtain ⟨h1, h2⟩ := List.pairwise_cons.1 h
    rw [allP_cons]
    refine List.pairwise_append.2 ⟨?_, allP_up h2, ?_⟩
    · rw [List.pairwise_map]
      exact h2.imp fun hab => .inr ⟨rfl, hab⟩
    · intro p hp q hq
      obtain ⟨b, hb, rfl⟩ := List.mem_map.1 hp
      have := ((allP_mem h2 q).1 hq).1
      exact .inl (h1 _ this)
theorem only_all {vl sl m ms : List Int} {L : List Pr} (hm : IsOnce vl m) (hs : IsOnce sl ms) (hsub : ∀ x ∈ sl, x ∈ vl) (h : IsNorm (onlyP (allP m) sl) L) : L = allP ms := by
  refine up_eq h.up (allP_up hs.up) fun p => ?_
  rw [h.mem p, allP_mem hs.up]
  unfold inN onlyP
  constructor
  · rintro ⟨hlt, q, hq, e⟩
    obtain ⟨hq, hb⟩ := List.mem_filter.1 hq
    have := ((allP_mem hm.up q).1 hq).2.2
    rw [turn_id (by omega)] at e
    subst e
    rw [Bool.and_eq_true, List.contains_iff_mem, List.contains_iff_mem] at hb
    exact ⟨(hs.mem _).2 hb.1, (hs.mem _).2 hb.2, hlt⟩
  · rintro ⟨h1, h2, hlt⟩
    have g1 := (hs.mem _).1 h1
    have g2 := (hs.mem _).1 h2
    refine ⟨hlt, p, List.mem_filter.2 ⟨(allP_mem hm.up p).2 ⟨(hm.mem _).2 (hsub _ g1), (hm.mem _).2 (hsub _ g2), hlt⟩, ?_⟩, turn_id (by omega)⟩
    rw [Bool.and_eq_true, List.contains_iff_mem, List.contains_iff_mem]
    exact ⟨g1, g2⟩
end Go.Proofs.Ytjaccgkeldabfaa
