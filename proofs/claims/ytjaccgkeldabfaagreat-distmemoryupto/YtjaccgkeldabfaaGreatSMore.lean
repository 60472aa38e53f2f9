/- Laid together: SMade, SLawPut, SFirsts, SWide, SThen, SBehind. -/
import Derived.Test.YtjaccgkeldabfaaGreatSAlive
import Derived.Test.YtjaccgkeldabfaaGreatSSize
import Derived.Test.YtjaccgkeldabfaaGreatSAll
namespace Go.Proofs.YtjaccgkeldabfaaGreat.S
open Go.RowKit

def stepF (acc : List (Int × List Int)) (p : Int × List Int) : List (Int × List Int) := if p.1 ∈ acc.map (·.1) then acc else acc ++ [p]
/-- The first bind of each variable. -/
def firsts (bl : List (Int × List Int)) : List (Int × List Int) := bl.foldl stepF []
theorem firsts_take {bl : List (Int × List Int)} {j : Nat} {p : Int × List Int} (hp : bl[j]? = some p) : firsts (bl.take (j + 1)) = stepF (firsts (bl.take j)) p := by
  unfold firsts
  rw [List.take_add_one, hp, Option.toList_some, List.foldl_append]; rfl
theorem firsts_nodup (bl : List (Int × List Int)) : ((firsts bl).map (·.1)).Nodup := by
  have key : ∀ (l acc : List (Int × List Int)), (acc.map (·.1)).Nodup → ((l.foldl stepF acc).map (·.1)).Nodup := by
    intro l
    induction l with
    | nil => intro acc h; exact h
    | cons p l ih =>
      intro acc h
      rw [List.foldl_cons]
      apply ih
      unfold stepF
      split
      · exact h
      · rename_i hne
        rw [List.map_append, List.nodup_append]
        exact ⟨h, by simp, fun a ha b hb e => by simp at hb; subst hb; subst e; exact hne ha⟩
  exact key bl [] (by simp)
theorem firsts_mem {bl : List (Int × List Int)} : ∀ p ∈ firsts bl, p ∈ bl := by
  have key : ∀ (l acc : List (Int × List Int)), ∀ p ∈ l.foldl stepF acc, p ∈ acc ∨ p ∈ l := by
    intro l
    induction l with
    | nil => intro acc p h; exact .inl h
    | cons q l ih =>
      intro acc p h
      rw [List.foldl_cons] at h
      rcases ih _ p h with h1 | h1
      · unfold stepF at h1
        split at h1
        · exact .inl h1
        · rcases List.mem_append.1 h1 with h2 | h2
          · exact .inl h2
          · simp at h2; subst h2; simp
      · exact .inr (List.mem_cons_of_mem _ h1)
  intro p hp
  rcases key bl [] p hp with h | h
  · simp at h
  · exact h
theorem Matches.snoc {w : World} {vs : List (Int × Value)} {bl : List (Int × List Int)} (h : Matches w vs bl) (p : Int × List Int) (a : Option Addr) (n c : Nat) (hn : p.2.length = n) (hI : IntsAt w a p.2) : Matches w (vs ++ [(p.1, Value.slice a n c)]) (bl ++ [p]) := by
  refine ⟨by simp [h.1], fun i q hi => ?_⟩
  by_cases hlt : i < bl.length
  · rw [List.getElem?_append_left hlt] at hi
    obtain ⟨a', c', h1, h2⟩ := h.2 i q hi
    exact ⟨a', c', by rw [List.getElem?_append_left (by rw [h.1]; exact hlt)]; exact h1, h2⟩
  · rw [List.getElem?_append_right (by omega)] at hi
    have hi0 : i - bl.length = 0 := by
      have := (List.getElem?_eq_some_iff.1 hi).1
      simp at this; omega
    rw [hi0] at hi
    simp at hi
    subst hi
    exact ⟨a, c, by rw [List.getElem?_append_right (by rw [h.1]; omega), h.1, hi0, hn]; rfl, hI⟩
def MadeIs (w w' : World) (e : Ending) (l : List (Int × List Int)) (k : Nat) : Prop := Below w.heap.size w w' ∧
  ∃ (a3 : Option Addr) (c3 : Nat) (vs3 : List (Int × Value)) (bl : List (Int × List Int)) (a5 : Option Addr) (c5 : Nat) (vs5 : List (Int × Value)),
    e = .returned (.tuple #[.agg #[.slice a5 k c5], .slice a3 k c3, .bool true]) ∧ RowAt w' a3 (rowB vs3) ∧ Matches w' vs3 l ∧ bl.Perm l ∧ Rises bl ∧ w'.ownsRow w.heap.size 46 2 (.slice a5 k c5) k (rowB vs5) ∧ Owns w.heap.size w' vs5 bl

end Go.Proofs.YtjaccgkeldabfaaGreat.S

namespace Go.Proofs.YtjaccgkeldabfaaGreat.S
open Go.RowKit

theorem look_take {bl : List (Int × List Int)} (hnd : (bl.map (·.1)).Nodup) {k : Nat} {p : Int × List Int} (hp : bl[k]? = some p) (y : Int) : look (bl.take (k + 1)) y = if p.1 = y then some p.2 else look (bl.take k) y := by
  unfold look
  rw [List.take_add_one, hp, Option.toList_some, List.find?_append]
  by_cases h : p.1 = y
  · rw [if_pos h]
    have hn : (bl.take k).find? (fun q => q.1 == y) = none := by
      rw [List.find?_eq_none]
      intro q hq
      obtain ⟨j, hj⟩ := List.getElem?_of_mem hq
      rw [List.getElem?_take] at hj
      split at hj
      · rename_i hlt
        obtain ⟨g1, e1⟩ := List.getElem?_eq_some_iff.1 hj
        obtain ⟨g2, e2⟩ := List.getElem?_eq_some_iff.1 hp
        have := List.pairwise_iff_getElem.1 hnd j k (by simpa using g1) (by simpa using g2) hlt
        simp only [List.getElem_map, e1, e2] at this
        simp
        intro e
        exact this (e.trans h.symm)
      · cases hj
    rw [hn]
    simp [h]
  · rw [if_neg h]
    have : [p].find? (fun q => q.1 == y) = none := by simp [h]
    rw [this, Option.or_none]
/-- What it answers. -/
def PutIs (w w' : World) (e : Ending) (bl : List (Int × List Int)) (l : List Int) : Prop := Below w.heap.size w w' ∧
  (((subs bl l).length ≤ 200 ∧ ∃ v, e = .returned (.tuple #[v, .bool true]) ∧ w'.ownsRow w.heap.size 3 1 v (subs bl l).length ((subs bl l).map intV)) ∨ (200 < (subs bl l).length ∧ e = .returned (.tuple #[.slice none 0 0, .bool false])))

end Go.Proofs.YtjaccgkeldabfaaGreat.S

namespace Go.Proofs.YtjaccgkeldabfaaGreat.S
open Go.RowKit

theorem look_of_mem {bl : List (Int × List Int)} (hnd : (bl.map (·.1)).Nodup) {p : Int × List Int} (hp : p ∈ bl) : look bl p.1 = some p.2 := by
  unfold look
  have : bl.find? (fun q => q.1 == p.1) = some p := by
    induction bl with
    | nil => simp at hp
    | cons q r ih =>
      rw [List.map_cons, List.nodup_cons] at hnd
      rcases List.mem_cons.1 hp with rfl | h
      · simp
      · have hne : q.1 ≠ p.1 := fun e => hnd.1 (by rw [e]; exact List.mem_map.2 ⟨p, h, rfl⟩)
        rw [List.find?_cons_of_neg (by simpa using hne)]
        exact ih hnd.2 h
  rw [this]; rfl
theorem look_perm {bl l : List (Int × List Int)} (h : bl.Perm l) (hnd : (l.map (·.1)).Nodup) (y : Int) : look bl y = look l y := by
  have hnd' : (bl.map (·.1)).Nodup := ((h.map (·.1)).nodup_iff).2 hnd
  by_cases hy : ∃ p ∈ l, p.1 = y
  · obtain ⟨p, hp, rfl⟩ := hy
    rw [look_of_mem hnd hp, look_of_mem hnd' (h.mem_iff.2 hp)]
  · rw [look_out fun p hp e => hy ⟨p, hp, e⟩, look_out fun p hp e => hy ⟨p, h.mem_iff.1 hp, e⟩]
theorem subs_perm {bl l : List (Int × List Int)} (h : bl.Perm l) (hnd : (l.map (·.1)).Nodup) (e : List Int) : subs bl e = subs l e := by
  have : sub bl = sub l := funext fun y => by unfold sub; rw [look_perm h hnd]
  unfold subs
  rw [this]
theorem firsts_le (bl : List (Int × List Int)) : (firsts bl).length ≤ bl.length := by
  have key : ∀ (l acc : List (Int × List Int)), (l.foldl stepF acc).length ≤ acc.length + l.length := by
    intro l
    induction l with
    | nil => intro acc; simp
    | cons p l ih =>
      intro acc
      rw [List.foldl_cons]
      have := ih (stepF acc p)
      have h2 : (stepF acc p).length ≤ acc.length + 1 := by unfold stepF; split <;> simp
      simp only [List.length_cons]; omega
  simpa [firsts] using key bl []
theorem firsts_all {bl : List (Int × List Int)} : (bl.map (·.1)).Nodup ↔ (firsts bl).length = bl.length := by
  have key : ∀ (l acc : List (Int × List Int)), (l.foldl stepF acc).length ≤ acc.length + l.length ∧ ((l.foldl stepF acc).length = acc.length + l.length → l.foldl stepF acc = acc ++ l) := by
    intro l
    induction l with
    | nil => intro acc; simp
    | cons p l ih =>
      intro acc
      rw [List.foldl_cons]
      obtain ⟨h1, h2⟩ := ih (stepF acc p)
      have hs : (stepF acc p).length ≤ acc.length + 1 := by unfold stepF; split <;> simp
      refine ⟨by simp only [List.length_cons]; omega, fun e => ?_⟩
      simp only [List.length_cons] at e
      have hs2 : stepF acc p = acc ++ [p] := by
        unfold stepF at h1 e ⊢
        split
        · rename_i hin
          rw [if_pos hin] at h1 e
          omega
        · rfl
      rw [h2 (by rw [hs2] at h1 e ⊢; simp at e ⊢; omega), hs2]; simp
  have back : ∀ (l acc : List (Int × List Int)), ((acc ++ l).map (·.1)).Nodup → l.foldl stepF acc = acc ++ l := by
    intro l
    induction l with
    | nil => intro acc _; simp
    | cons p l ih =>
      intro acc h
      have hs2 : stepF acc p = acc ++ [p] := by
        unfold stepF
        rw [if_neg]
        intro hin
        rw [List.map_append, List.nodup_append] at h
        exact h.2.2 p.1 hin p.1 (by simp) rfl
      rw [List.foldl_cons, hs2, ih _ (by simpa using h)]; simp
  constructor
  · intro h
    unfold firsts
    rw [back bl [] (by simpa using h)]; simp
  · intro h
    have h2 := (key bl []).2 (by simpa [firsts] using h)
    have h3 := firsts_nodup bl
    unfold firsts at h3
    rw [h2] at h3
    simpa using h3
end Go.Proofs.YtjaccgkeldabfaaGreat.S

namespace Go.Proofs.YtjaccgkeldabfaaGreat.S
open Go.RowKit

/-- Slices whose room is no smaller than their length. -/
def Caps (vs : List (Int × Value)) : Prop := ∀ q ∈ vs, ∃ a n c, q.2 = Value.slice a n c ∧ n ≤ c
structure BindsC (w : World) (a : Option Addr) (n : Nat) (bl : List (Int × List Int)) : Prop where
  row : ∃ vs, RowAt w a (rowB vs) ∧ Matches w vs bl ∧ Caps vs
  len : bl.length = n
  rises : Rises bl
theorem BindsC.binds {w : World} {a : Option Addr} {n : Nat} {bl : List (Int × List Int)} (h : BindsC w a n bl) : BindsAt w a n bl := by
  obtain ⟨vs, h1, h2, _⟩ := h.row
  exact ⟨⟨vs, h1, h2⟩, h.len, h.rises⟩
theorem BindsC.under {w w' : World} {a : Option Addr} {n : Nat} {bl : List (Int × List Int)} (h : BindsC w a n bl) (hb : Below w.heap.size w w') : BindsC w' a n bl := by
  obtain ⟨vs, h1, h2, h3⟩ := h.row
  exact ⟨⟨vs, h1.under hb, h2.under hb, h3⟩, h.len, h.rises⟩
theorem BindsC.at {w : World} {a : Option Addr} {n : Nat} {bl : List (Int × List Int)} (h : BindsC w a n bl) {i : Nat} {p : Int × List Int} (hp : bl[i]? = some p) :
    ∃ b off a' c', a = some ⟨b, off, none⟩ ∧ w.cell? ⟨b, off + i * 2, none⟩ = some (.int .i64 p.1) ∧ w.cell? ⟨b, off + i * 2 + 1, none⟩ = some (.slice a' p.2.length c') ∧ IntsAt w a' p.2 ∧ p.2.length ≤ c' := by
  obtain ⟨vs, h1, h2, h3⟩ := h.row
  obtain ⟨a', c', hv, hi⟩ := h2.2 i p hp
  obtain ⟨r1, r2⟩ := rowB_at vs i _ hv
  obtain ⟨b, off, rfl, k1⟩ := h1 _ _ r1
  obtain ⟨_, _, e, k2⟩ := h1 _ _ r2
  cases e
  obtain ⟨a9, n9, c9, e9, hc9⟩ := h3 _ (List.mem_of_getElem? hv)
  cases e9
  exact ⟨b, off, a', c', rfl, k1, by rw [Nat.add_assoc]; exact k2, hi, hc9⟩
theorem Owns.caps {base : Nat} {w : World} {vs : List (Int × Value)} {bl : List (Int × List Int)} (h : Owns base w vs bl) : Caps vs := fun q hq => by
  obtain ⟨i, hi⟩ := List.getElem?_of_mem hq
  have hlt : i < bl.length := by rw [← h.1]; exact (List.getElem?_eq_some_iff.1 hi).1
  obtain ⟨v, h1, h2⟩ := h.2 i bl[i] (List.getElem?_eq_getElem hlt)
  rw [hi] at h1
  cases h1
  obtain ⟨a, c, e, hc, _⟩ := own_row h2
  exact ⟨a, _, c, e, hc⟩
theorem Owns.bindsC {base n c : Nat} {w : World} {a : Option Addr} {vs : List (Int × Value)} {bl : List (Int × List Int)} (h : Owns base w vs bl) (ho : w.ownsRow base 46 2 (.slice a n c) n (rowB vs)) (hr : Rises bl) (hl : bl.length = n) : BindsC w a n bl := by
  obtain ⟨a', c', e, _, hrow, _⟩ := own_row ho
  cases e
  exact ⟨⟨vs, hrow, h.matches, h.caps⟩, hl, hr⟩
/-- Lists that were there, or that are rows of their own. -/
def Half (w0 w : World) (vs : List (Int × Value)) (bl : List (Int × List Int)) : Prop := vs.length = bl.length ∧ ∀ (i : Nat) (p : Int × List Int), bl[i]? = some p → ∃ v, vs[i]? = some (p.1, v) ∧ ((∃ a c, v = Value.slice a p.2.length c ∧ IntsAt w0 a p.2) ∨ w.ownsRow w0.heap.size 3 1 v p.2.length (p.2.map intV))
theorem Matches.half {w0 : World} {vs : List (Int × Value)} {bl : List (Int × List Int)} (h : Matches w0 vs bl) (w : World) : Half w0 w vs bl := ⟨h.1, fun i p hi => by
  obtain ⟨a, c, h1, h2⟩ := h.2 i p hi
  exact ⟨_, h1, .inl ⟨a, c, rfl, h2⟩⟩⟩
theorem Half.under {w0 w w' : World} {vs : List (Int × Value)} {bl : List (Int × List Int)} (h : Half w0 w vs bl) (hb : Below w.heap.size w w') : Half w0 w' vs bl := ⟨h.1, fun i p hi => by
  obtain ⟨v, h1, h2 | h2⟩ := h.2 i p hi
  · exact ⟨v, h1, .inl h2⟩
  · exact ⟨v, h1, .inr (owns_under h2 hb)⟩⟩
theorem Half.grown {w0 w w' : World} {b2 n : Nat} {vs : List (Int × Value)} {bl : List (Int × List Int)} {v : Value} {xs : List Value} (h : Half w0 w vs bl) (hv : w.ownsRow b2 46 2 v n xs) (hg : w.grownBy w' v.ownBlock) : Half w0 w' vs bl := ⟨h.1, fun i p hi => by
  obtain ⟨u, h1, h2 | h2⟩ := h.2 i p hi
  · exact ⟨u, h1, .inl h2⟩
  · exact ⟨u, h1, .inr (owns_same h2 fun g e => hg.block g (own_low h2 g e) fun e' => kinds_apart hv h2 (by decide) g e e'.symm)⟩⟩
theorem Half.matches {w0 w : World} {vs : List (Int × Value)} {bl : List (Int × List Int)} (h : Half w0 w vs bl) (hb : Below w0.heap.size w0 w) : Matches w vs bl := ⟨h.1, fun i p hi => by
  obtain ⟨v, h1, ⟨a, c, rfl, h2⟩ | h2⟩ := h.2 i p hi
  · exact ⟨a, c, h1, h2.under hb⟩
  · obtain ⟨a, c, rfl, _, hr, _⟩ := own_row h2
    exact ⟨a, c, h1, hr.ints⟩⟩
theorem Half.snoc {w0 w : World} {vs : List (Int × Value)} {bl : List (Int × List Int)} (h : Half w0 w vs bl) (p : Int × List Int) (v : Value) (hv : w.ownsRow w0.heap.size 3 1 v p.2.length (p.2.map intV)) : Half w0 w (vs ++ [(p.1, v)]) (bl ++ [p]) := by
  refine ⟨by simp [h.1], fun i q hi => ?_⟩
  by_cases hlt : i < bl.length
  · rw [List.getElem?_append_left hlt] at hi
    obtain ⟨u, h1, h2⟩ := h.2 i q hi
    exact ⟨u, by rw [List.getElem?_append_left (by rw [h.1]; exact hlt)]; exact h1, h2⟩
  · rw [List.getElem?_append_right (by omega)] at hi
    have hi0 : i - bl.length = 0 := by
      have := (List.getElem?_eq_some_iff.1 hi).1
      simp at this; omega
    rw [hi0] at hi
    simp at hi
    subst hi
    exact ⟨v, by rw [List.getElem?_append_right (by rw [h.1]; omega), h.1, hi0]; rfl, .inr hv⟩
theorem Caps.snoc {vs : List (Int × Value)} (h : Caps vs) (q : Int × Value) (hq : ∃ a n c, q.2 = Value.slice a n c ∧ n ≤ c) : Caps (vs ++ [q]) := fun x hx => by
  rcases List.mem_append.1 hx with h1 | h1
  · exact h x h1
  · simp at h1; subst h1; exact hq
/-- Those that the other one alone binds. -/
def alone (bl bt : List (Int × List Int)) : List (Int × List Int) := (bt.filter fun p => (look bl p.1).isNone).map fun p => (p.1, [p.1])
def widen (bl bt : List (Int × List Int)) : List (Int × List Int) := bl ++ alone bl bt
theorem alone_take {bl bt : List (Int × List Int)} {j : Nat} {p : Int × List Int} (hp : bt[j]? = some p) : alone bl (bt.take (j + 1)) = alone bl (bt.take j) ++ (if (look bl p.1).isNone then [(p.1, [p.1])] else []) := by
  unfold alone
  rw [List.take_add_one, hp, Option.toList_some, List.filter_append, List.map_append]
  by_cases h : (look bl p.1).isNone
  · simp [h]
  · simp [h]
theorem alone_len (bl bt : List (Int × List Int)) : (alone bl bt).length ≤ bt.length := by
  unfold alone
  rw [List.length_map]
  exact List.length_filter_le _ _
theorem look_some_of {bl : List (Int × List Int)} {p : Int × List Int} (hp : p ∈ bl) : look bl p.1 ≠ none := fun h => by
  unfold look at h
  rw [Option.map_eq_none_iff, List.find?_eq_none] at h
  have := h p hp
  simp at this
theorem nodup_of_rises {bl : List (Int × List Int)} (h : Rises bl) : (bl.map (·.1)).Nodup := by
  unfold List.Nodup
  rw [List.pairwise_map]
  exact h.imp fun h => by omega
theorem widen_nodup {bl bt : List (Int × List Int)} (h : (bl.map (·.1)).Nodup) (ht : (bt.map (·.1)).Nodup) : ((widen bl bt).map (·.1)).Nodup := by
  unfold widen
  rw [List.map_append, List.nodup_append]
  have e : (alone bl bt).map (·.1) = (bt.filter fun p => (look bl p.1).isNone).map (·.1) := by unfold alone; rw [List.map_map]; rfl
  refine ⟨h, ?_, fun x hx y hy exy => ?_⟩
  · rw [e]
    exact ht.sublist ((List.filter_sublist).map _)
  · subst exy
    rw [e] at hy
    obtain ⟨p, hp, hpx⟩ := List.mem_map.1 hy
    obtain ⟨q, hq, hqx⟩ := List.mem_map.1 hx
    have h1 := (List.mem_filter.1 hp).2
    rw [Option.isNone_iff_eq_none, hpx, ← hqx] at h1
    exact look_some_of hq h1
theorem rises_of {bl : List (Int × List Int)} (h1 : (bl.map (·.1)).Nodup) (h2 : (bl.map (·.1)).Pairwise (· ≤ ·)) : Rises bl := by
  have h3 : (bl.map (·.1)).Pairwise (· < ·) := by
    rw [List.pairwise_iff_getElem] at h2 ⊢
    intro i j hi hj hij
    have := h2 i j hi hj hij
    have := List.pairwise_iff_getElem.1 h1 i j hi hj hij
    omega
  rw [List.pairwise_map] at h3
  exact h3
theorem pairs_same {z z2 : List (S × (Int × List Int))} (h1 : (z.map (·.1)).map toB = (z2.map (·.1)).map toB) (h2 : z.map (·.2) = z2.map (·.2)) : z = z2 := by
  have h3 : z.map (·.1) = z2.map (·.1) := (List.map_inj_right fun x y e => by
    obtain ⟨x1, x2, x3, x4⟩ := x
    obtain ⟨y1, y2, y3, y4⟩ := y
    simp [toB] at e
    simp [e]).1 h1
  have key : ∀ {z z2 : List (S × (Int × List Int))}, z.map (·.1) = z2.map (·.1) → z.map (·.2) = z2.map (·.2) → z = z2 := by
    intro z
    induction z with
    | nil => intro z2 h _; simpa using h.symm
    | cons q z ih =>
      intro z2 h h'
      cases z2 with
      | nil => simp at h
      | cons q2 z2 =>
        simp only [List.map_cons, List.cons.injEq] at h h'
        rw [ih h.2 h'.2, Prod.ext h.1 h'.1]
  exact key h3 h2
def WideIs (w w' : World) (e : Ending) (bl bt : List (Int × List Int)) : Prop := Below w.heap.size w w' ∧
  ∃ (wl : List (Int × List Int)) (a : Option Addr) (c : Nat), wl.Perm (widen bl bt) ∧ e = .returned (.slice a wl.length c) ∧ BindsC w' a wl.length wl

set_option maxRecDepth 100000 in
set_option maxHeartbeats 8000000 in
theorem widen_any (w : World) (a : Option Addr) (n c : Nat) (bl : List (Int × List Int)) (at' : Option Addr) (nt ct : Nat) (bt : List (Int × List Int)) (hn : n + nt ≤ 4398046511000) (h : BindsC w a n bl) (ht : BindsC w at' nt bt) :
    Calls Tryz.prog 40 #[.agg #[.slice a n c], .agg #[.slice at' nt ct]] w fun e w' => WideIs w w' e bl bt := by
  obtain ⟨i0, hi0, hz0, hz1, hz3⟩ := info_parts infoB
  obtain ⟨wA, hwA⟩ : ∃ wA, wA = (w.alloc (.cells #[.slice a n c] 27)).alloc (.cells #[.slice at' nt ct] 27) := ⟨_, rfl⟩
  have hb0 : Below w.heap.size w (w.alloc (.cells #[.slice a n c] 27)) := below_alloc _ _
  have hb1 : Below (w.alloc (.cells #[.slice a n c] 27)).heap.size (w.alloc (.cells #[.slice a n c] 27)) wA := by rw [hwA]; exact below_alloc _ _
  have hbA : Below w.heap.size w wA := hb0.trans (hb1.mono hb0.size)
  have hsA : wA.heap.size = w.heap.size + 2 := by rw [hwA]; simp
  have k0 : wA.cell? ⟨w.heap.size, 0, none⟩ = some (.slice a n c) := (hb1.cell (p := ⟨w.heap.size, 0, none⟩) (by simp)).trans (World.cell?_alloc_new w _ _ 0)
  have k1 : wA.cell? ⟨w.heap.size + 1, 0, none⟩ = some (.slice at' nt ct) := by
    rw [hwA, show w.heap.size + 1 = (w.alloc (.cells #[.slice a n c] 27)).heap.size by simp]
    exact World.cell?_alloc_new (w.alloc (.cells #[.slice a n c] 27)) _ _ 0
  obtain ⟨vs0, hr0, hm0, hc0⟩ := (h.under hbA).row
  have hone : ∀ u ∈ rowB vs0, u.oneCell' = true := rowB_one vs0 fun p hp => by
    obtain ⟨_, _, _, e, _⟩ := hc0 p hp
    rw [e]; rfl
  have hvl : (rowB vs0).length = n * 2 := by rw [rowB_len, hm0.1, h.len]
  have HVL : Hid ((rowB vs0).length = n * 2) := hvl
  have HOne : Hid (∀ u ∈ rowB vs0, u.oneCell' = true) := hone
  have HR0 : Hid (RowAt wA a (rowB vs0)) := hr0
  have HM0 : Hid (Matches wA vs0 bl) := hm0
  have HC0 : Hid (Caps vs0) := hc0
  have HS : Hid (BindsC wA a n bl) := h.under hbA
  have HT : Hid (BindsC wA at' nt bt) := ht.under hbA
  have HBA : Hid (Below w.heap.size w wA) := hbA
  have HBL : Hid (bl.length = n) := h.len
  have HTL : Hid (bt.length = nt) := ht.len
  have HSA : Hid (wA.heap.size = w.heap.size + 2) := hsA
  have K0 : Hid (wA.cell? ⟨w.heap.size, 0, none⟩ = some (.slice a n c)) := k0
  have K1 : Hid (wA.cell? ⟨w.heap.size + 1, 0, none⟩ = some (.slice at' nt ct)) := k1
  clear h ht hbA hsA hr0 hm0 hc0 hone hvl hb0 hb1
  go_enter Tryz.func40, Tryz.ntmps40
  go_wp2_with (at_builtin; rw [← hwA]; refine wpList_append_more (w := wA) rfl _ _ _ rfl wA.heap.size 46 i0 _ 2 32 Tryz.underlying23 hi0 hz0 hz1 hz3 rfl (by omega) _ 0 [] (by rfl) (by exact World.ownsRow_nil _ _ _ _) a n c (rowB vs0) (by rfl) (by exact HVL.out) (by exact HR0.out.news) (by exact HOne.out) (by unfold maxLen; omega) (by omega) (Nat.le_refl _) ?_; intro a1 c1 w1 ho1 hb1; rw [Nat.zero_add, List.nil_append] at ho1; have HO1 : Hid (w1.ownsRow wA.heap.size 46 2 (.slice a1 n c1) n (rowB vs0)) := ho1; have HB1 : Hid (Below wA.heap.size wA w1) := hb1; have q1 : w1.cell? ⟨w.heap.size + 1, 0, none⟩ = some (.slice at' nt ct) := (hb1.cell (p := ⟨w.heap.size + 1, 0, none⟩) (by rw [HSA.out]; simp)).trans K1.out; clear ho1 hb1)
  clear hwA k0 k1
  have HBB : Hid (∀ t, t < 2 → w.heap.size + t < wA.heap.size) := fun t ht => by rw [HSA.out]; omega
  generalize hB : w.heap.size = B at *
  have HBe : Hid (w.heap.size = B) := hB
  clear hB HSA
  have HH : Hid (Half wA w1 vs0 bl) := HM0.out.half w1
  go_loopw [5, 7, 8, 9, 16] (fun v _ _ _ i wx => ∃ (j m : Nat) (av : Option Addr) (cap : Nat), j ≤ nt ∧ m ≤ j ∧ i = .int .i64 j ∧ v = .slice av (n + m) cap ∧ Hid (∃ vs, (alone bl (bt.take j)).length = m ∧ wx.ownsRow wA.heap.size 46 2 (.slice av (n + m) cap) (n + m) (rowB vs) ∧ Half wA wx vs (bl ++ alone bl (bt.take j)) ∧ Caps vs) ∧ Hid (Below wA.heap.size wA wx)) (fun _ _ _ _ i _ => nt - (intOf i).toNat)
  case atStart => exact ⟨0, 0, a1, c1, Nat.zero_le _, Nat.le_refl _, rfl, rfl, ⟨vs0, rfl, HO1.out, by simpa [alone] using HH.out, HC0.out⟩, HB1.out⟩
  case round =>
    clear HO1 HB1 HH q1 HVL HOne HR0 HM0 HC0
    obtain ⟨j, m, av, cap, hj, hmj, rfl, rfl, hv, hb⟩ := hrel
    obtain ⟨vs, hm, hown, hhalf, hcaps⟩ := hv.out
    have HMl : Hid ((alone bl (bt.take j)).length = m) := hm
    have HO : Hid (wr.ownsRow wA.heap.size 46 2 (.slice av (n + m) cap) (n + m) (rowB vs)) := hown
    have HH : Hid (Half wA wr vs (bl ++ alone bl (bt.take j))) := hhalf
    have HC : Hid (Caps vs) := hcaps
    clear hv hm hown hhalf hcaps
    by_cases hlt : j < nt
    · have n1 : (j : Int) < (nt : Int) := by omega
      obtain ⟨p, hp⟩ : ∃ p, bt[j]? = some p := ⟨bt[j]'(by rw [HTL.out]; exact hlt), List.getElem?_eq_getElem _⟩
      obtain ⟨b2, o2, ay, cy, rfl, r1, r2, _, _⟩ := (HT.out.under hb.out).at hp
      have Htk := alone_take (bl := bl) hp
      obtain ⟨y, ly⟩ := p
      have r1' : wr.cell? ⟨b2, o2 + j * 2, none⟩ = some (.int .i64 y) := r1
      have r2' : wr.cell? ⟨b2, o2 + j * 2 + 1, none⟩ = some (.slice ay ly.length cy) := r2
      have HTk : Hid (alone bl (bt.take (j + 1)) = alone bl (bt.take j) ++ (if (look bl y).isNone then [(y, [y])] else [])) := Htk
      generalize ly.length = yl at *
      clear r1 r2 hp Htk
      have hbx : Below wr.heap.size wr (wr.alloc (.cells #[.int .i64 y, .slice ay yl cy] 46)) := below_alloc _ _
      have hbxA : Below wA.heap.size wA (wr.alloc (.cells #[.int .i64 y, .slice ay yl cy] 46)) := hb.out.trans (hbx.mono hb.out.size)
      have HbxA : Hid (Below wA.heap.size wA (wr.alloc (.cells #[.int .i64 y, .slice ay yl cy] 46))) := hbxA
      have kb : (wr.alloc (.cells #[.int .i64 y, .slice ay yl cy] 46)).cell? ⟨B, 0, none⟩ = some (.slice a n c) := (hbxA.cell (p := ⟨B, 0, none⟩) (HBB.out 0 (by omega))).trans K0.out
      have ky : (wr.alloc (.cells #[.int .i64 y, .slice ay yl cy] 46)).cell? ⟨wr.heap.size, 0, none⟩ = some (.int .i64 y) := World.cell?_alloc_new wr _ _ 0
      have FD : Hid _ := find_any (wr.alloc (.cells #[.int .i64 y, .slice ay yl cy] 46)) a n c bl y (by omega) (HS.out.under hbxA).binds
      have HOx : Hid ((wr.alloc (.cells #[.int .i64 y, .slice ay yl cy] 46)).ownsRow wA.heap.size 46 2 (.slice av (n + m) cap) (n + m) (rowB vs)) := owns_under HO.out hbx
      have HHx : Hid (Half wA (wr.alloc (.cells #[.int .i64 y, .slice ay yl cy] 46)) vs (bl ++ alone bl (bt.take j))) := HH.out.under hbx
      have hBy : wr.heap.size < (wr.alloc (.cells #[.int .i64 y, .slice ay yl cy] 46)).heap.size := by simp
      clear hbx hbxA HO HH
      go_wp2_with fail
      generalize wr.alloc (.cells #[.int .i64 y, .slice ay yl cy] 46) = wx at *
      generalize wr.heap.size = By at *
      refine Calls.mono FD.out ?_
      rintro e w2 ⟨hb2, ⟨ly2, a2, c2, hlook, rfl, _⟩ | ⟨hlook, rfl⟩⟩
      · have HB2 : Hid (Below wA.heap.size wA w2) := HbxA.out.trans (hb2.mono HbxA.out.size)
        have HO2 : Hid (w2.ownsRow wA.heap.size 46 2 (.slice av (n + m) cap) (n + m) (rowB vs)) := owns_under HOx.out hb2
        have HH2 : Hid (Half wA w2 vs (bl ++ alone bl (bt.take j))) := HHx.out.under hb2
        have HTk2 : Hid (alone bl (bt.take (j + 1)) = alone bl (bt.take j)) := by show _ = _; rw [HTk.out, hlook]; simp
        clear hb2 FD HTk hlook
        go_wp2
        exact ⟨⟨j + 1, m, av, cap, by omega, by omega, by go_num, rfl, ⟨vs, by rw [HTk2.out]; exact HMl.out, HO2.out, by rw [HTk2.out]; exact HH2.out, HC.out⟩, HB2.out⟩, by simp [intOf]; omega⟩
      · have HB2 : Hid (Below wA.heap.size wA w2) := HbxA.out.trans (hb2.mono HbxA.out.size)
        have ky2 : w2.cell? ⟨By, 0, none⟩ = some (.int .i64 y) := (hb2.cell (p := ⟨By, 0, none⟩) hBy).trans ky
        have hBy2 : By < w2.heap.size := Nat.lt_of_lt_of_le hBy hb2.size
        have hb3 : Below w2.heap.size w2 (w2.alloc (.cells #[.int .i64 y] 3)) := below_alloc _ _
        have hb4 : Below (w2.alloc (.cells #[.int .i64 y] 3)).heap.size (w2.alloc (.cells #[.int .i64 y] 3)) ((w2.alloc (.cells #[.int .i64 y] 3)).alloc (.cells #[.int .i64 y, .slice (some ⟨w2.heap.size, 0, none⟩) 1 1] 46)) := below_alloc _ _
        have hb34 : Below w2.heap.size w2 ((w2.alloc (.cells #[.int .i64 y] 3)).alloc (.cells #[.int .i64 y, .slice (some ⟨w2.heap.size, 0, none⟩) 1 1] 46)) := hb3.trans (hb4.mono hb3.size)
        have HO4 : Hid (((w2.alloc (.cells #[.int .i64 y] 3)).alloc (.cells #[.int .i64 y, .slice (some ⟨w2.heap.size, 0, none⟩) 1 1] 46)).ownsRow wA.heap.size 46 2 (.slice av (n + m) cap) (n + m) (rowB vs)) := owns_under (owns_under HOx.out hb2) hb34
        have ho3 : (w2.alloc (.cells #[.int .i64 y] 3)).ownsRow wA.heap.size 3 1 (.slice (some ⟨w2.heap.size, 0, none⟩) 1 1) 1 [intV y] := ⟨rfl, .inr ⟨w2.heap.size, 1, #[.int .i64 y], rfl, HB2.out.size, heap_alloc_new w2 _, Nat.le_refl _, by unfold maxLen; omega, rfl, rfl⟩⟩
        have HH4 : Hid (Half wA ((w2.alloc (.cells #[.int .i64 y] 3)).alloc (.cells #[.int .i64 y, .slice (some ⟨w2.heap.size, 0, none⟩) 1 1] 46)) (vs ++ [(y, .slice (some ⟨w2.heap.size, 0, none⟩) 1 1)]) (bl ++ alone bl (bt.take j) ++ [(y, [y])])) := ((HHx.out.under hb2).under hb34).snoc (y, [y]) _ (owns_under ho3 hb4)
        have HC4 : Hid (Caps (vs ++ [(y, .slice (some ⟨w2.heap.size, 0, none⟩) 1 1)])) := HC.out.snoc _ ⟨_, _, _, rfl, Nat.le_refl _⟩
        have HB4 : Hid (Below wA.heap.size wA ((w2.alloc (.cells #[.int .i64 y] 3)).alloc (.cells #[.int .i64 y, .slice (some ⟨w2.heap.size, 0, none⟩) 1 1] 46))) := HB2.out.trans (hb34.mono HB2.out.size)
        have hN4 := heap_alloc_new (w2.alloc (.cells #[.int .i64 y] 3)) (.cells #[.int .i64 y, .slice (some ⟨w2.heap.size, 0, none⟩) 1 1] 46)
        rw [show (w2.alloc (.cells #[.int .i64 y] 3)).heap.size = w2.heap.size + 1 by simp] at hN4
        have HN4 : Hid (((w2.alloc (.cells #[.int .i64 y] 3)).alloc (.cells #[.int .i64 y, .slice (some ⟨w2.heap.size, 0, none⟩) 1 1] 46)).heap[w2.heap.size + 1]? = some (.cells #[.int .i64 y, .slice (some ⟨w2.heap.size, 0, none⟩) 1 1] 46)) := hN4
        have HTk2 : Hid (alone bl (bt.take (j + 1)) = alone bl (bt.take j) ++ [(y, [y])]) := by show _ = _; rw [HTk.out, hlook]; simp
        clear hb2 hb3 hb4 hb34 ho3 FD HTk hlook hN4
        go_wp2_with (at_builtin; refine wpList_append_lies ((w2.alloc (.cells #[.int .i64 y] 3)).alloc (.cells #[.int .i64 y, .slice (some ⟨w2.heap.size, 0, none⟩) 1 1] 46)) rfl _ _ _ rfl wA.heap.size 46 i0 _ 2 32 Tryz.underlying23 hi0 hz0 hz1 hz3 rfl (by omega) _ (n + m) (rowB vs) (by rfl) (by exact HO4.out) ⟨w2.heap.size + 1, 0, none⟩ 1 1 [.int .i64 y, .slice (some ⟨w2.heap.size, 0, none⟩) 1 1] (by rfl) (by rfl) (World.news_of_block (cs := #[.int .i64 y, .slice (some ⟨w2.heap.size, 0, none⟩) 1 1]) (t := 46) (fr := (0, 0)) HN4.out) (by simp [Value.oneCell']) (by omega) (by unfold maxLen; omega) (by omega) (by exact HB4.out.size) _ rfl ?_; intro g5 c5 w5 ho5 hg5 _ _; have HO5 : Hid (w5.ownsRow wA.heap.size 46 2 (.slice (some ⟨g5, 0, none⟩) (n + m + 1) c5) (n + m + 1) (rowB (vs ++ [(y, .slice (some ⟨w2.heap.size, 0, none⟩) 1 1)]))) := by rw [rowB_snoc]; exact ho5
                     have HH5 : Hid (Half wA w5 (vs ++ [(y, .slice (some ⟨w2.heap.size, 0, none⟩) 1 1)]) (bl ++ alone bl (bt.take j) ++ [(y, [y])])) := HH4.out.grown HO4.out hg5
                     have HB5 : Hid (Below wA.heap.size wA w5) := HB4.out.grown hg5 HB4.out.size (own_ge HO4.out)
                     clear ho5 hg5)
        go_wp2
        refine ⟨⟨j + 1, m + 1, _, _, by omega, by omega, by go_num, rfl, ⟨_, ?_, HO5.out, ?_, HC4.out⟩, HB5.out⟩, by simp [intOf]; omega⟩
        · rw [HTk2.out, List.length_append, HMl.out]; rfl
        · rw [HTk2.out, ← List.append_assoc]; exact HH5.out
    · have n1 : ¬ (j : Int) < (nt : Int) := by omega
      have htk : bt.take j = bt := List.take_of_length_le (by rw [HTL.out]; omega)
      rw [htk] at HMl HH
      obtain ⟨z, e1, e2, _⟩ := (HH.out.matches hb.out).pairs
      have hzl : (z.map (·.1)).length = n + m := by
        rw [List.length_map, ← List.length_map (f := fun q : S × (Int × List Int) => q.2), e2, List.length_append, HBL.out, HMl.out]
      have SO : Hid _ := sort_all wr wA.heap.size (n + m) (.slice av (n + m) cap) (z.map (·.1)) hzl (by omega) (by rw [e1]; exact HO.out)
      have E1 : Hid ((z.map (·.1)).map toB = vs) := e1
      have E2 : Hid (z.map (·.2) = bl ++ alone bl bt) := e2
      have HZL : Hid ((z.map (·.1)).length = n + m) := hzl
      clear htk e1 e2 hzl
      go_wp2_with fail
      refine Calls.mono SO.out ?_
      rintro e w2 ⟨rfl, hg2, ds', a2, c2, e2', hperm, hsort, hrow⟩
      cases e2'
      obtain ⟨z', hz1', hz2'⟩ := perm_lift (·.1) hperm z rfl
      have hb2 : Below wA.heap.size wA w2 := hb.out.grown hg2 hb.out.size (own_ge HO.out)
      obtain ⟨z2, f1, f2, hsay⟩ := ((HH.out.grown HO.out hg2).matches hb2).pairs
      obtain rfl : z = z2 := pairs_same (by rw [E1.out, f1]) (by rw [E2.out, f2])
      have hp2 : (z'.map (·.2)).Perm (widen bl bt) := by
        have := hz1'.map (·.2)
        rw [f2] at this
        exact this
      have hvars : (z'.map (·.2)).map (·.1) = ds'.map (·.1) := by
        rw [← hz2', List.map_map, List.map_map]
        apply List.map_congr_left
        intro q hq
        exact (hsay q (hz1'.mem_iff.1 hq)).1.symm
      have hlen : (z'.map (·.2)).length = n + m := by
        rw [List.length_map, hz1'.length_eq, ← List.length_map (f := fun q : S × (Int × List Int) => q.1)]; exact HZL.out
      have HBC : Hid (BindsC w2 av (z'.map (·.2)).length (z'.map (·.2))) := by
        refine ⟨⟨(z'.map (·.1)).map toB, by rw [hz2']; exact hrow, says_matches fun q hq => hsay q (hz1'.mem_iff.1 hq), fun x hx => ?_⟩, rfl, rises_of ?_ ?_⟩
        · obtain ⟨d, hd, rfl⟩ := List.mem_map.1 hx
          obtain ⟨q, hq, rfl⟩ := List.mem_map.1 hd
          refine HC.out (toB q.1) ?_
          rw [← E1.out]
          exact List.mem_map.2 ⟨q.1, List.mem_map.2 ⟨q, hz1'.mem_iff.1 hq, rfl⟩, rfl⟩
        · exact ((hp2.map (·.1)).nodup_iff).2 (widen_nodup (nodup_of_rises HS.out.rises) (nodup_of_rises HT.out.rises))
        · rw [hvars, List.pairwise_map]; exact hsort
      have HP2 : Hid ((z'.map (·.2)).Perm (widen bl bt)) := hp2
      have HLn : Hid ((z'.map (·.2)).length = n + m) := hlen
      have HE : Hid (Below w.heap.size w w2) := by
        have h1 := HBA.out
        have h2 := h1.size
        rw [HBe.out] at h2 ⊢
        exact h1.trans (hb2.mono h2)
      clear hp2 hlen hvars hsay f1 f2 hb2 hz1' hz2' hperm hsort hrow hg2 SO
      go_wp2
      go_ret
      exact ⟨HE.out, _, av, cap, HP2.out, by rw [HLn.out]; rfl, HBC.out⟩
end Go.Proofs.YtjaccgkeldabfaaGreat.S

namespace Go.Proofs.YtjaccgkeldabfaaGreat.S
open Go.RowKit

/-- What a bind becomes behind another substitution. -/
def behind (bt : List (Int × List Int)) (p : Int × List Int) : Int × List Int := (p.1, subs bt p.2)
def ThenIs (w w' : World) (e : Ending) (bl bt : List (Int × List Int)) : Prop := Below w.heap.size w w' ∧
  (((∃ p ∈ widen bl bt, 200 < (subs bt p.2).length) ∧ e = .returned (.tuple #[.agg #[.slice none 0 0], .int .i64 31])) ∨
   ((∀ p ∈ widen bl bt, (subs bt p.2).length ≤ 200) ∧ ∃ (ul : List (Int × List Int)) (a : Option Addr) (c : Nat), ul.Perm ((widen bl bt).map (behind bt)) ∧ e = .returned (.tuple #[.agg #[.slice a ul.length c], .int .i64 0]) ∧ BindsC w' a ul.length ul))
theorem widen_mem {bl bt : List (Int × List Int)} {p : Int × List Int} (hp : p ∈ widen bl bt) : p ∈ bl ∨ p.2.length = 1 := by
  unfold widen at hp
  rcases List.mem_append.1 hp with h | h
  · exact .inl h
  · unfold alone at h
    obtain ⟨q, _, rfl⟩ := List.mem_map.1 h
    exact .inr rfl
theorem min_cut {t s : Nat} (e : min 201 t = s) : 200 < s ↔ 200 < t := by omega
theorem max_cut {L s : Nat} (e : 200 < max L s) : 200 < L ∨ 200 < s := by omega
theorem widen_len (bl bt : List (Int × List Int)) : (widen bl bt).length ≤ bl.length + bt.length := by
  have := alone_len bl bt
  unfold widen
  rw [List.length_append]; omega

set_option maxRecDepth 100000 in
set_option maxHeartbeats 16000000 in
theorem then_any (w : World) (a : Option Addr) (n c : Nat) (bl : List (Int × List Int)) (at' : Option Addr) (nt ct : Nat) (bt : List (Int × List Int)) (hn : n + nt ≤ 4398046510000) (h : BindsC w a n bl) (ht : BindsC w at' nt bt) (hbig : ∀ p ∈ bl, p.2.length ≤ 17592186043904) :
    Calls Tryz.prog 15 #[.agg #[.slice a n c], .agg #[.slice at' nt ct]] w fun e w' => ThenIs w w' e bl bt := by
  obtain ⟨i0, hi0, hz0, hz1, hz3⟩ := info_parts infoB
  obtain ⟨wA, hwA⟩ : ∃ wA, wA = ((w.alloc (.cells #[.slice a n c] 27)).alloc (.cells #[.slice at' nt ct] 27)).alloc (.cells #[.slice none 0 0] 27) := ⟨_, rfl⟩
  have hb0 : Below w.heap.size w (w.alloc (.cells #[.slice a n c] 27)) := below_alloc _ _
  have hb1 : Below (w.alloc (.cells #[.slice a n c] 27)).heap.size (w.alloc (.cells #[.slice a n c] 27)) ((w.alloc (.cells #[.slice a n c] 27)).alloc (.cells #[.slice at' nt ct] 27)) := below_alloc _ _
  have hb2 : Below ((w.alloc (.cells #[.slice a n c] 27)).alloc (.cells #[.slice at' nt ct] 27)).heap.size ((w.alloc (.cells #[.slice a n c] 27)).alloc (.cells #[.slice at' nt ct] 27)) wA := by rw [hwA]; exact below_alloc _ _
  have hbA : Below w.heap.size w wA := hb0.trans ((hb1.trans (hb2.mono hb1.size)).mono hb0.size)
  have hsA : wA.heap.size = w.heap.size + 3 := by rw [hwA]; simp
  have k0 : wA.cell? ⟨w.heap.size, 0, none⟩ = some (.slice a n c) := (hb2.cell (p := ⟨w.heap.size, 0, none⟩) (by simp; omega)).trans ((hb1.cell (p := ⟨w.heap.size, 0, none⟩) (by simp)).trans (World.cell?_alloc_new w _ _ 0))
  have k1 : wA.cell? ⟨w.heap.size + 1, 0, none⟩ = some (.slice at' nt ct) := by
    refine (hb2.cell (p := ⟨w.heap.size + 1, 0, none⟩) (by simp)).trans ?_
    rw [show w.heap.size + 1 = (w.alloc (.cells #[.slice a n c] 27)).heap.size by simp]
    exact World.cell?_alloc_new (w.alloc (.cells #[.slice a n c] 27)) _ _ 0
  have k2 : wA.cell? ⟨w.heap.size + 2, 0, none⟩ = some (.slice none 0 0) := by
    rw [hwA, show w.heap.size + 2 = ((w.alloc (.cells #[.slice a n c] 27)).alloc (.cells #[.slice at' nt ct] 27)).heap.size by simp]
    exact World.cell?_alloc_new ((w.alloc (.cells #[.slice a n c] 27)).alloc (.cells #[.slice at' nt ct] 27)) _ _ 0
  have kf : wA.frozen? ⟨w.heap.size + 2, 0, none⟩ = false := by
    rw [hwA, show w.heap.size + 2 = ((w.alloc (.cells #[.slice a n c] 27)).alloc (.cells #[.slice at' nt ct] 27)).heap.size by simp]
    exact World.frozen?_alloc_new ((w.alloc (.cells #[.slice a n c] 27)).alloc (.cells #[.slice at' nt ct] 27)) _ _ 0
  have WD : Hid _ := widen_any wA a n c bl at' nt ct bt (by omega) (h.under hbA) (ht.under hbA)
  have HT : Hid (BindsC wA at' nt bt) := ht.under hbA
  have HBA : Hid (Below w.heap.size w wA) := hbA
  have HBL : Hid (bl.length = n) := h.len
  have HTL : Hid (bt.length = nt) := ht.len
  have HBG : Hid (∀ p ∈ bl, p.2.length ≤ 17592186043904) := hbig
  have HSA : Hid (wA.heap.size = w.heap.size + 3) := hsA
  have K1 : Hid (wA.cell? ⟨w.heap.size + 1, 0, none⟩ = some (.slice at' nt ct)) := k1
  have K2 : Hid (wA.cell? ⟨w.heap.size + 2, 0, none⟩ = some (.slice none 0 0)) := k2
  have KF : Hid (wA.frozen? ⟨w.heap.size + 2, 0, none⟩ = false) := kf
  clear h ht hbA hsA hb0 hb1 hb2 hbig
  go_enter Tryz.func15, Tryz.ntmps15
  go_wp2_with fail
  rw [← hwA]
  clear hwA k0 k1 k2 kf
  refine Calls.mono WD.out ?_
  rintro e w1 ⟨hb1, wl, av, cap, hperm, rfl, hbc⟩
  have HB1 : Hid (Below wA.heap.size wA w1) := hb1
  have HP : Hid (wl.Perm (widen bl bt)) := hperm
  have HW : Hid (BindsC w1 av wl.length wl) := hbc
  have hkb : wl.length ≤ n + nt := by
    have := widen_len bl bt
    rw [← hperm.length_eq, HBL.out, HTL.out] at this
    exact this
  have HWB : Hid (∀ p ∈ wl, p.2.length ≤ 17592186043904) := fun p hp => by
    rcases widen_mem (hperm.mem_iff.1 hp) with h1 | h1
    · exact HBG.out p h1
    · omega
  generalize hk : wl.length = k at *
  have HK : Hid (wl.length = k) := hk
  have HBB : Hid (∀ t, t < 3 → w.heap.size + t < wA.heap.size) := fun t ht => by rw [HSA.out]; omega
  generalize hB : w.heap.size = B at *
  have HBe : Hid (w.heap.size = B) := hB
  clear hb1 hperm hbc hk hB WD HSA HBG
  go_wp2_with fail
  go_loopw [7, 9, 18] (fun v _ i wx => ∃ (j L : Nat), j ≤ k ∧ L ≤ 201 ∧ i = .int .i64 j ∧ v = .int .i64 L ∧ Hid (200 < L ↔ ∃ p ∈ wl.take j, 200 < (subs bt p.2).length) ∧ Hid (Below w1.heap.size w1 wx)) (fun _ _ i _ => k - (intOf i).toNat)
  case atStart => exact ⟨0, 0, Nat.zero_le _, Nat.zero_le _, rfl, rfl, by show _ ↔ _; simp, Below.refl _ _⟩
  case round =>
    obtain ⟨j, L, hj, hL, rfl, rfl, hLi, hb⟩ := hrel
    have HBr : Hid (Below wA.heap.size wA wr) := HB1.out.trans (hb.out.mono HB1.out.size)
    by_cases hlt : j < k
    · have n1 : (j : Int) < (k : Int) := by omega
      obtain ⟨p, hp⟩ : ∃ p, wl[j]? = some p := ⟨wl[j]'(by rw [HK.out]; exact hlt), List.getElem?_eq_getElem _⟩
      obtain ⟨b2, o2, ay, cy, rfl, r1, r2, r3, r4⟩ := (HW.out.under hb.out).at hp
      have hpb := HWB.out p (List.mem_of_getElem? hp)
      have Htk : wl.take (j + 1) = wl.take j ++ [p] := by rw [List.take_add_one, hp]; rfl
      obtain ⟨y, ly⟩ := p
      have r1' : wr.cell? ⟨b2, o2 + j * 2, none⟩ = some (.int .i64 y) := r1
      have r2' : wr.cell? ⟨b2, o2 + j * 2 + 1, none⟩ = some (.slice ay ly.length cy) := r2
      have hpb' : ly.length ≤ 17592186043904 := hpb
      have hcy : ly.length ≤ cy := r4
      generalize hyl : ly.length = yl at *
      clear r1 r2 hp hpb r4
      have hbx : Below wr.heap.size wr (wr.alloc (.cells #[.int .i64 y, .slice ay yl cy] 46)) := below_alloc _ _
      have hbxA : Below wA.heap.size wA (wr.alloc (.cells #[.int .i64 y, .slice ay yl cy] 46)) := HBr.out.trans (hbx.mono HBr.out.size)
      have kb : (wr.alloc (.cells #[.int .i64 y, .slice ay yl cy] 46)).cell? ⟨B + 1, 0, none⟩ = some (.slice at' nt ct) := (hbxA.cell (p := ⟨B + 1, 0, none⟩) (HBB.out 1 (by omega))).trans K1.out
      have ky : (wr.alloc (.cells #[.int .i64 y, .slice ay yl cy] 46)).cell? ⟨wr.heap.size, 1, none⟩ = some (.slice ay yl cy) := World.cell?_alloc_new wr _ _ 1
      have SZ := size_any (wr.alloc (.cells #[.int .i64 y, .slice ay yl cy] 46)) at' nt ct bt ay yl cy ly (by omega) (HT.out.under hbxA).binds hyl hcy hpb' (r3.under hbx)
      have Hbx : Hid (Below w1.heap.size w1 (wr.alloc (.cells #[.int .i64 y, .slice ay yl cy] 46))) := hb.out.trans (hbx.mono hb.out.size)
      obtain ⟨s, hs⟩ : ∃ s, min 201 (subs bt ly).length = s := ⟨_, rfl⟩
      rw [hs] at SZ
      have SZ2 : Hid (Calls Tryz.prog 41 #[.agg #[.slice at' nt ct], .slice ay yl cy] (wr.alloc (.cells #[.int .i64 y, .slice ay yl cy] 46)) fun e w' => e = .returned (.int .i64 (s : Int)) ∧ Below (wr.alloc (.cells #[.int .i64 y, .slice ay yl cy] 46)).heap.size (wr.alloc (.cells #[.int .i64 y, .slice ay yl cy] 46)) w') := SZ
      have hs201 : s ≤ 201 := by omega
      have HLn : Hid (200 < max L s ↔ ∃ p ∈ wl.take (j + 1), 200 < (subs bt p.2).length) := by
        show _ ↔ _
        rw [Htk]
        have h1 := hLi.out
        have h2 : 200 < s ↔ 200 < (subs bt ly).length := min_cut hs
        constructor
        · intro h3
          have h4 : 200 < L ∨ 200 < s := max_cut h3
          rcases h4 with h4 | h4
          · obtain ⟨q, hq, hq2⟩ := h1.1 h4
            exact ⟨q, List.mem_append_left _ hq, hq2⟩
          · exact ⟨_, List.mem_append_right _ (List.mem_singleton.2 rfl), h2.1 h4⟩
        · rintro ⟨q, hq, hq2⟩
          rcases List.mem_append.1 hq with h3 | h3
          · exact Nat.lt_of_lt_of_le (h1.2 ⟨q, h3, hq2⟩) (Nat.le_max_left _ _)
          · rw [List.mem_singleton.1 h3] at hq2
            exact Nat.lt_of_lt_of_le (h2.2 hq2) (Nat.le_max_right _ _)
      clear SZ hbx hbxA hb HBr hyl hs Htk r3 hLi
      rcases Nat.lt_or_ge L s with hLs | hLs
      · have f1 : (L : Int) < (s : Int) := by omega
        have f2 : ¬ (s : Int) ≤ (L : Int) := by omega
        have f3 : ¬ (s : Int) < (L : Int) := by omega
        have f4 : (L : Int) ≤ (s : Int) := by omega
        rw [Nat.max_eq_right (by omega)] at HLn
        go_wp2_with fail
        generalize wr.alloc (.cells #[.int .i64 y, .slice ay yl cy] 46) = wx at *
        refine Calls.mono SZ2.out ?_
        rintro e w3 ⟨rfl, hb3⟩
        have HB3 : Hid (Below w1.heap.size w1 w3) := Hbx.out.trans (hb3.mono Hbx.out.size)
        clear hb3 SZ2
        go_wp2
        exact ⟨⟨j + 1, s, by omega, hs201, by go_num, by first | rfl | (simp; omega), HLn.out, HB3.out⟩, by simp [intOf]; omega⟩
      · have f1 : ¬ (L : Int) < (s : Int) := by omega
        have f2 : (s : Int) ≤ (L : Int) := by omega
        rw [Nat.max_eq_left (by omega)] at HLn
        go_wp2_with fail
        generalize wr.alloc (.cells #[.int .i64 y, .slice ay yl cy] 46) = wx at *
        refine Calls.mono SZ2.out ?_
        rintro e w3 ⟨rfl, hb3⟩
        have HB3 : Hid (Below w1.heap.size w1 w3) := Hbx.out.trans (hb3.mono Hbx.out.size)
        clear hb3 SZ2
        go_wp2
        exact ⟨⟨j + 1, L, by omega, hL, by go_num, by first | rfl | (simp; omega), HLn.out, HB3.out⟩, by simp [intOf]; omega⟩
    · have n1 : ¬ (j : Int) < (k : Int) := by omega
      have htk : wl.take j = wl := List.take_of_length_le (by rw [HK.out]; omega)
      rw [htk] at hLi
      have hk2 : wr.cell? ⟨B + 2, 0, none⟩ = some (.slice none 0 0) := (HBr.out.cell (p := ⟨B + 2, 0, none⟩) (HBB.out 2 (by omega))).trans K2.out
      have hkf : wr.frozen? ⟨B + 2, 0, none⟩ = false := (HBr.out.frozen (p := ⟨B + 2, 0, none⟩) (HBB.out 2 (by omega))).trans KF.out
      have Hbw : Hid (Below w.heap.size w wr) := by
        have h1 := HBA.out
        have h2 := h1.size
        rw [HBe.out] at h2 ⊢
        exact h1.trans (HBr.out.mono h2)
      by_cases h200 : 200 < L
      · have f1 : (200 : Int) < (L : Int) := by omega
        have kw : (wr.setCell ⟨B + 2, 0, none⟩ (.slice none 0 0)).cell? ⟨B + 2, 0, none⟩ = some (.slice none 0 0) := World.cell?_setCell_same _ _ _ (u := .slice none 0 0) hk2
        have Hend : Hid (Below w.heap.size w (wr.setCell ⟨B + 2, 0, none⟩ (.slice none 0 0))) := Hbw.out.setCell (p := ⟨B + 2, 0, none⟩) (by rw [HBe.out]; exact Nat.le_add_right _ _) _
        have HX : Hid (∃ p ∈ widen bl bt, 200 < (subs bt p.2).length) := by
          obtain ⟨p, hp, h1⟩ := hLi.out.1 h200
          exact ⟨p, HP.out.mem_iff.1 hp, h1⟩
        clear hLi htk
        go_wp2
        (try simp only [Exit.inBlock, Exit.then])
        refine bodyPost_ret (by simp [results, Tryz.results15, go_sem, kw]; try rfl) rfl ?_
        exact ⟨Hend.out, .inl ⟨HX.out, rfl⟩⟩
      · have f1 : ¬ (200 : Int) < (L : Int) := by omega
        have HY : Hid (∀ p ∈ wl, (subs bt p.2).length ≤ 200) := fun p hp => by
          have h1 : ¬ 200 < (subs bt p.2).length := fun h2 => h200 (hLi.out.2 ⟨p, hp, h2⟩)
          omega
        obtain ⟨wm, hmk, hom, hgm⟩ := run_make_own (P := Tryz.prog) wr wr.heap.size 23 46 i0 _ 2 Tryz.underlying23 hi0 hz0 hz1 .i64 .i64 k (by rw [hz3]; omega) (by unfold maxLen; omega) (Nat.le_refl _)
        have hbm : Below wr.heap.size wr wm := (Below.refl _ _).grown hgm (Nat.le_refl _) (fun _ e => by cases e)
        have HOm : Hid (wm.ownsRow wr.heap.size 46 2 (.slice (some ⟨wr.heap.size, 0, none⟩) 0 k) 0 []) := hom
        have Hbm : Hid (Below wr.heap.size wr wm) := hbm
        have HbW : Hid (Below w1.heap.size w1 wr) := hb.out
        clear hLi htk hom hgm hbm hb
        go_wp2_with fail
        obtain ⟨W0, hW0⟩ : ∃ W0, W0 = wr := ⟨_, rfl⟩
        subst hW0
        clear hmk
        go_loopw [10, 12, 37] (fun v _ i wx => ∃ (q : Nat) (au : Option Addr) (cu : Nat), q ≤ k ∧ i = .int .i64 q ∧ v = .slice au q cu ∧ Hid (∃ vs, wx.ownsRow W0.heap.size 46 2 (.slice au q cu) q (rowB vs) ∧ Owns W0.heap.size wx vs ((wl.take q).map (behind bt))) ∧ Hid (Below W0.heap.size W0 wx)) (fun _ _ i _ => k - (intOf i).toNat)
        case atStart => exact ⟨0, _, _, Nat.zero_le _, rfl, rfl, ⟨[], HOm.out, rfl, fun i p h => by simp at h⟩, Hbm.out⟩
        case round =>
          clear HOm Hbm
          obtain ⟨q, au, cu, hq, rfl, rfl, hv, hb⟩ := hrel
          obtain ⟨vs, hown, hO⟩ := hv.out
          have HO : Hid (wr.ownsRow W0.heap.size 46 2 (.slice au q cu) q (rowB vs)) := hown
          have OW : Hid (Owns W0.heap.size wr vs ((wl.take q).map (behind bt))) := hO
          clear hv hown hO
          have hbr1 : Below w1.heap.size w1 wr := HbW.out.trans (hb.out.mono HbW.out.size)
          have HbrA : Hid (Below wA.heap.size wA wr) := HBr.out.trans (hb.out.mono HBr.out.size)
          by_cases hlt2 : q < k
          · have n2 : (q : Int) < (k : Int) := by omega
            obtain ⟨p, hp⟩ : ∃ p, wl[q]? = some p := ⟨wl[q]'(by rw [HK.out]; exact hlt2), List.getElem?_eq_getElem _⟩
            obtain ⟨b2, o2, a1, c1, rfl, r1, r2, r3, r4⟩ := (HW.out.under hbr1).at hp
            have hpb := HWB.out p (List.mem_of_getElem? hp)
            have hp200 := HY.out p (List.mem_of_getElem? hp)
            have Htk0 : (wl.take (q + 1)).map (behind bt) = (wl.take q).map (behind bt) ++ [behind bt p] := by rw [List.take_add_one, hp, Option.toList_some, List.map_append]; rfl
            obtain ⟨x, lx⟩ := p
            have r1' : wr.cell? ⟨b2, o2 + q * 2, none⟩ = some (.int .i64 x) := r1
            have r2' : wr.cell? ⟨b2, o2 + q * 2 + 1, none⟩ = some (.slice a1 lx.length c1) := r2
            have hpb' : lx.length ≤ 17592186043904 := hpb
            have hc1 : lx.length ≤ c1 := r4
            have HY1 : Hid ((subs bt lx).length ≤ 200) := hp200
            have Htk : Hid ((wl.take (q + 1)).map (behind bt) = (wl.take q).map (behind bt) ++ [(x, subs bt lx)]) := Htk0
            have HI : Hid (IntsAt wr a1 lx) := r3
            generalize hlx : lx.length = xl at *
            have Hlx : Hid (lx.length = xl) := hlx
            clear r1 r2 r3 r4 hp hpb hp200 Htk0 hbr1 hlx
            go_wp2_with fail
            have k0 : (wr.alloc (.cells #[.int .i64 x, .slice a1 xl c1] 46)).cell? ⟨wr.heap.size, 0, none⟩ = some (.int .i64 x) := World.cell?_alloc_new wr _ _ 0
            have k1 : (wr.alloc (.cells #[.int .i64 x, .slice a1 xl c1] 46)).cell? ⟨wr.heap.size, 1, none⟩ = some (.slice a1 xl c1) := World.cell?_alloc_new wr _ _ 1
            have hbA : Below wr.heap.size wr (wr.alloc (.cells #[.int .i64 x, .slice a1 xl c1] 46)) := (Below.refl _ _).alloc (Nat.le_refl _) _
            have hB5 : wr.heap.size < (wr.alloc (.cells #[.int .i64 x, .slice a1 xl c1] 46)).heap.size := by simp
            have hL5 := own_low HO.out
            have hs0 : W0.heap.size ≤ wr.heap.size := hb.out.size
            replace HO : Hid ((wr.alloc (.cells #[.int .i64 x, .slice a1 xl c1] 46)).ownsRow W0.heap.size 46 2 (.slice au q cu) q (rowB vs)) := owns_under HO.out hbA
            replace OW : Hid (Owns W0.heap.size (wr.alloc (.cells #[.int .i64 x, .slice a1 xl c1] 46)) vs ((wl.take q).map (behind bt))) := OW.out.under hbA
            replace HI : Hid (IntsAt (wr.alloc (.cells #[.int .i64 x, .slice a1 xl c1] 46)) a1 lx) := HI.out.under hbA
            replace HbrA : Hid (Below wA.heap.size wA (wr.alloc (.cells #[.int .i64 x, .slice a1 xl c1] 46))) := HbrA.out.trans (hbA.mono HbrA.out.size)
            replace hb : Hid (Below W0.heap.size W0 (wr.alloc (.cells #[.int .i64 x, .slice a1 xl c1] 46))) := hb.out.trans (hbA.mono hs0)
            have kt : (wr.alloc (.cells #[.int .i64 x, .slice a1 xl c1] 46)).cell? ⟨B + 1, 0, none⟩ = some (.slice at' nt ct) := (HbrA.out.cell (p := ⟨B + 1, 0, none⟩) (HBB.out 1 (by omega))).trans K1.out
            have hBt : B + 1 < (wr.alloc (.cells #[.int .i64 x, .slice a1 xl c1] 46)).heap.size := Nat.lt_of_lt_of_le (HBB.out 1 (by omega)) HbrA.out.size
            have hBg : B + 1 < W0.heap.size := Nat.lt_of_lt_of_le (HBB.out 1 (by omega)) HBr.out.size
            generalize wr.heap.size = B5 at *
            generalize (wr.alloc (.cells #[.int .i64 x, .slice a1 xl c1] 46)) = wX at *
            clear hbA r1' r2'
            refine wp_region_held_drew (S := fun w' => w'.cell? ⟨B5, 0, none⟩ = some (.int .i64 x) ∧ w'.cell? ⟨B5, 1, none⟩ = some (.slice a1 xl c1) ∧ w'.cell? ⟨B + 1, 0, none⟩ = some (.slice at' nt ct)) (by kernel_rfl) ?_ (fun hHeld => ?_)
            · exact ⟨k0, k1, kt⟩
            refine wpAnyH_take (i := 0) (oi := { dst := some 41, op := Op.move (Operand.tmp 10), type := 23, pos := "subst.go:73", after := #[], guard := none }) (v := ?_) rfl (by kernel_rfl) (by kernel_rfl) (by kernel_rfl) (fun _ _ _ h => h) (Or.inl ⟨by rfl, ?_⟩) hHeld ?_
            rotate_left
            · (intro w hSw; (try dsimp only at hSw); go_simp; try with_reducible rfl)
            try simp only [Act.put, List.setIfInBounds_toArray, List.set_cons_zero, List.set_cons_succ]
            refine wpAnyH_take (i := 1) (oi := { dst := some 42, op := Op.fieldAddr 46 (Operand.tmp 12) 0, type := 0, pos := "subst.go:73", after := #[], guard := none }) (v := ?_) rfl (by kernel_rfl) (by kernel_rfl) (by kernel_rfl) (fun _ _ _ h => h) (Or.inl ⟨by rfl, ?_⟩) hHeld ?_
            rotate_left
            · (intro w hSw; (try dsimp only at hSw); go_simp; try with_reducible rfl)
            try simp only [Act.put, List.setIfInBounds_toArray, List.set_cons_zero, List.set_cons_succ]
            refine wpAnyH_take (i := 2) (oi := { dst := some 43, op := Op.load 3 (Operand.tmp 42), type := 3, pos := "subst.go:73", after := #[{ on := 1, ground := Ground.data }], guard := none }) (v := ?_) rfl (by kernel_rfl) (by kernel_rfl) (by kernel_rfl) (fun _ _ _ h => h) (Or.inl ⟨by rfl, ?_⟩) hHeld ?_
            rotate_left
            · (intro w hSw; (try dsimp only at hSw); go_simp; try with_reducible rfl)
            try simp only [Act.put, List.setIfInBounds_toArray, List.set_cons_zero, List.set_cons_succ]
            refine wpAnyH_take (i := 3) (oi := { dst := some 44, op := Op.load 27 (Operand.tmp 3), type := 27, pos := "subst.go:73", after := #[], guard := none }) (v := ?_) rfl (by kernel_rfl) (by kernel_rfl) (by kernel_rfl) (fun _ _ _ h => h) (Or.inl ⟨by rfl, ?_⟩) hHeld ?_
            rotate_left
            · (intro w hSw; (try dsimp only at hSw); go_simp; try with_reducible rfl)
            try simp only [Act.put, List.setIfInBounds_toArray, List.set_cons_zero, List.set_cons_succ]
            refine wpAnyH_take (i := 4) (oi := { dst := some 45, op := Op.fieldAddr 46 (Operand.tmp 12) 1, type := 0, pos := "subst.go:73", after := #[], guard := none }) (v := ?_) rfl (by kernel_rfl) (by kernel_rfl) (by kernel_rfl) (fun _ _ _ h => h) (Or.inl ⟨by rfl, ?_⟩) hHeld ?_
            rotate_left
            · (intro w hSw; (try dsimp only at hSw); go_simp; try with_reducible rfl)
            try simp only [Act.put, List.setIfInBounds_toArray, List.set_cons_zero, List.set_cons_succ]
            refine wpAnyH_take (i := 5) (oi := { dst := some 46, op := Op.load 44 (Operand.tmp 45), type := 44, pos := "subst.go:73", after := #[{ on := 4, ground := Ground.data }], guard := none }) (v := ?_) rfl (by kernel_rfl) (by kernel_rfl) (by kernel_rfl) (fun _ _ _ h => h) (Or.inl ⟨by rfl, ?_⟩) hHeld ?_
            rotate_left
            · (intro w hSw; (try dsimp only at hSw); go_simp; try with_reducible rfl)
            try simp only [Act.put, List.setIfInBounds_toArray, List.set_cons_zero, List.set_cons_succ]
            refine wpAnyH_ready (rs := [6]) (by kernel_rfl) (by simp) ?_
            refine AllReadyH.cons (o := { dst := some 47, op := Op.call { callee := Callee.value (Operand.func 42), args := #[Operand.tmp 44, Operand.tmp 46], argTypes := #[27, 44] }, type := 44, pos := "subst.go:73", after := #[{ on := 3, ground := Ground.data }, { on := 5, ground := Ground.data }], guard := none }) rfl (fun K hK => ?_) AllReadyH.nil
            go_simp
            go_at_call 42
            refine (put_any wX.drew at' nt ct bt a1 xl c1 lx (by omega) (HT.out.under (⟨HbrA.out.os, HbrA.out.tape, HbrA.out.output, HbrA.out.size, HbrA.out.block⟩ : Below wA.heap.size wA wX.drew)).binds Hlx.out hc1 hpb' HI.out HY1.out).mono ?_
            rintro e w6 ⟨v6, rfl, ho6, hb6⟩
            obtain ⟨a6, c6, rfl, _, _, _⟩ := own_row ho6
            have hb6' : Below wX.heap.size wX w6 := ⟨hb6.os, hb6.tape, hb6.output, hb6.size, hb6.block⟩
            have ho6' : w6.ownsRow wX.heap.size 3 1 (.slice a6 (subs bt lx).length c6) (subs bt lx).length ((subs bt lx).map intV) := ho6
            have k2 : w6.cell? ⟨B5, 0, none⟩ = some (.int .i64 x) := (hb6'.cell (p := ⟨B5, 0, none⟩) hB5).trans k0
            have k3 : w6.cell? ⟨B5, 1, none⟩ = some (.slice a1 xl c1) := (hb6'.cell (p := ⟨B5, 1, none⟩) hB5).trans k1
            have kt2 : w6.cell? ⟨B + 1, 0, none⟩ = some (.slice at' nt ct) := (hb6'.cell (p := ⟨B + 1, 0, none⟩) hBt).trans kt
            have HO6 : Hid (w6.ownsRow W0.heap.size 46 2 (.slice au q cu) q (rowB vs)) := owns_under HO.out hb6'
            have OW6 : Hid (Owns W0.heap.size w6 (vs ++ [(x, .slice a6 (subs bt lx).length c6)]) ((wl.take q).map (behind bt) ++ [(x, subs bt lx)])) := (OW.out.under hb6').snoc (x, subs bt lx) _ (owns_down ho6' hb.out.size)
            have Hb6 : Hid (Below W0.heap.size W0 w6) := hb.out.trans (hb6'.mono hb.out.size)
            have hB6 : B5 < w6.heap.size := Nat.lt_of_lt_of_le hB5 hb6'.size
            have hBt6 : B + 1 < w6.heap.size := Nat.lt_of_lt_of_le hBt hb6'.size
            generalize (subs bt lx).length = z at *
            clear ho6 ho6' hb6 hb6' HO OW hb
            try go_wp2_with fail
            refine hK.out _ _ ?_ (fun hHeld2 => ?_)
            · exact ⟨k2, k3, kt2⟩
            clear hK K
            try simp only [Act.put, List.setIfInBounds_toArray, List.set_cons_zero, List.set_cons_succ]
            refine wpAnyH_take (i := 7) (oi := { dst := some 48, op := Op.build 46 #[(0, Operand.tmp 43), (1, Operand.tmp 47)], type := 46, pos := "subst.go:73", after := #[{ on := 2, ground := Ground.data }, { on := 6, ground := Ground.data }], guard := none }) (v := ?_) rfl (by kernel_rfl) (by kernel_rfl) (by kernel_rfl) (fun _ _ _ h => h) (Or.inl ⟨by rfl, ?_⟩) hHeld2 ?_
            rotate_left
            · (intro w hSw; (try dsimp only at hSw); go_simp; try with_reducible rfl)
            try simp only [Act.put, List.setIfInBounds_toArray, List.set_cons_zero, List.set_cons_succ]
            refine wpAnyH_ready (rs := [8]) (by kernel_rfl) (by simp) ?_
            refine AllReadyH.cons (o := { dst := some 49, op := Op.buildSlice 23 1 #[(0, Operand.tmp 48)], type := 23, pos := "subst.go:73", after := #[{ on := 7, ground := Ground.data }], guard := none }) rfl (fun K hK => ?_) AllReadyH.nil
            go_simp
            refine hK.out _ _ ?_ (fun hHeld3 => ?_)
            · exact ⟨(World.cell?_alloc_lt _ _ _ hB6).trans k2, (World.cell?_alloc_lt _ _ _ hB6).trans k3, (World.cell?_alloc_lt _ _ _ hBt6).trans kt2⟩
            clear hK K
            try simp only [Act.put, List.setIfInBounds_toArray, List.set_cons_zero, List.set_cons_succ]
            refine wpAnyH_ready (rs := [9]) (by kernel_rfl) (by simp) ?_
            refine AllReadyH.cons (o := { dst := some 50, op := Op.call { callee := Callee.builtin Builtin.append, args := #[Operand.tmp 41, Operand.tmp 49], argTypes := #[23, 23] }, type := 23, pos := "subst.go:73", after := #[{ on := 0, ground := Ground.data }, { on := 8, ground := Ground.data }, { on := 6, ground := Ground.chain }], guard := none }) rfl (fun K hK => ?_) AllReadyH.nil
            refine step_append_lies (w6.alloc (.cells #[.int .i64 x, .slice a6 z c6] 46)) rfl _ _ _ rfl W0.heap.size 46 i0 _ 2 32 Tryz.underlying23 hi0 hz0 hz1 hz3 rfl (by omega) _ q (rowB vs) (by rfl) (by exact HO6.out.alloc _) ⟨w6.heap.size, 0, none⟩ 1 1 [.int .i64 x, .slice a6 z c6] (by rfl) (by rfl) (World.news_of_block (cs := #[.int .i64 x, .slice a6 z c6]) (t := 46) (fr := (0, 0)) (heap_alloc_new w6 _)) (by simp [Value.oneCell']) (by omega) (by unfold maxLen; omega) (by omega) (by have := Hb6.out.size; simp; omega) (w6.heap.size + 1) (by simp) ?_
            intro g2 cap2 w8 hown8 hgrow8 hat8 hlt8
            have hbx : ∀ t, w8.cell? ⟨B5, t, none⟩ = w6.cell? ⟨B5, t, none⟩ := fun t => (hgrow8.cell_far ⟨B5, t, none⟩ (by simp; omega) (fun e => by have := hL5 B5 e.symm; omega)).trans (World.cell?_alloc_lt _ _ _ hB6)
            have hbt : w8.cell? ⟨B + 1, 0, none⟩ = w6.cell? ⟨B + 1, 0, none⟩ := (hgrow8.cell_far ⟨B + 1, 0, none⟩ (by simp; omega) (fun e => by have h1 := own_ge HO6.out (B + 1) e.symm; omega)).trans (World.cell?_alloc_lt _ _ _ hBt6)
            have H8 : Hid (w8.ownsRow W0.heap.size 46 2 (.slice (some ⟨g2, 0, none⟩) (q + 1) cap2) (q + 1) (rowB (vs ++ [(x, .slice a6 z c6)]))) := by rw [rowB_snoc]; exact hown8
            have O8 : Hid (Owns W0.heap.size w8 (vs ++ [(x, .slice a6 z c6)]) ((wl.take (q + 1)).map (behind bt))) := by rw [Htk.out]; exact (OW6.out.under ((Below.refl _ _).alloc (Nat.le_refl _) _)).grown (HO6.out.alloc _) hgrow8
            have B8 : Hid (Below W0.heap.size W0 w8) := (Hb6.out.alloc Hb6.out.size _).grown hgrow8 (by have := Hb6.out.size; simp; omega) (own_ge HO6.out)
            clear hown8 hgrow8 hat8 hlt8
            refine hK.out _ _ ?_ (fun hHeld4 => ?_)
            · exact ⟨(hbx 0).trans k2, (hbx 1).trans k3, hbt.trans kt2⟩
            clear hK K
            try simp only [Act.put, List.setIfInBounds_toArray, List.set_cons_zero, List.set_cons_succ]
            refine wpAnyH_take (i := 10) (oi := { dst := some 10, op := Op.assign (Operand.tmp 50), type := 23, pos := "subst.go:73", after := #[{ on := 9, ground := Ground.data }, { on := 9, ground := Ground.chain }, { on := 0, ground := Ground.phase }, { on := 1, ground := Ground.phase }, { on := 2, ground := Ground.phase }, { on := 3, ground := Ground.phase }, { on := 4, ground := Ground.phase }, { on := 5, ground := Ground.phase }, { on := 6, ground := Ground.phase }, { on := 7, ground := Ground.phase }, { on := 8, ground := Ground.phase }, { on := 9, ground := Ground.phase }], guard := none }) (v := ?_) rfl (by kernel_rfl) (by kernel_rfl) (by kernel_rfl) (fun _ _ _ h => h) (Or.inl ⟨by rfl, ?_⟩) hHeld4 ?_
            rotate_left
            · (intro w hSw; (try dsimp only at hSw); go_simp; try with_reducible rfl)
            try simp only [Act.put, List.setIfInBounds_toArray, List.set_cons_zero, List.set_cons_succ]
            refine wpAnyH_done (by kernel_rfl) ?_ _
            go_wp2
            exact ⟨⟨q + 1, _, _, by omega, by go_num, rfl, ⟨_, H8.out, O8.out⟩, B8.out⟩, by simp [intOf]; omega⟩
          · have n2 : ¬ (q : Int) < (k : Int) := by omega
            have hqk : q = k := by omega
            subst hqk
            have c0 : wr.cell? ⟨B + 2, 0, none⟩ = some (.slice none 0 0) := (HbrA.out.cell (p := ⟨B + 2, 0, none⟩) (HBB.out 2 (by omega))).trans K2.out
            have f0 : wr.frozen? ⟨B + 2, 0, none⟩ = false := (HbrA.out.frozen (p := ⟨B + 2, 0, none⟩) (HBB.out 2 (by omega))).trans KF.out
            have hBg : B + 2 < W0.heap.size := Nat.lt_of_lt_of_le (HBB.out 2 (by omega)) HBr.out.size
            have kw : (wr.setCell ⟨B + 2, 0, none⟩ (.slice au q cu)).cell? ⟨B + 2, 0, none⟩ = some (.slice au q cu) := World.cell?_setCell_same _ _ _ (u := .slice none 0 0) c0
            have Hend : Hid (Below w.heap.size w (wr.setCell ⟨B + 2, 0, none⟩ (.slice au q cu))) := (Hbw.out.trans (hb.out.mono Hbw.out.size)).setCell (p := ⟨B + 2, 0, none⟩) (by rw [HBe.out]; exact Nat.le_add_right _ _) _
            have htk : wl.take q = wl := List.take_of_length_le (by rw [HK.out]; exact Nat.le_refl _)
            have HBC : Hid (BindsC (wr.setCell ⟨B + 2, 0, none⟩ (.slice au q cu)) au (wl.map (behind bt)).length (wl.map (behind bt))) := by
              have h1 : (wr.setCell ⟨B + 2, 0, none⟩ (.slice au q cu)).ownsRow W0.heap.size 46 2 (.slice au q cu) q (rowB vs) := ownsRow_setCell_below HO.out (a := ⟨B + 2, 0, none⟩) hBg _
              have h2 : Owns W0.heap.size (wr.setCell ⟨B + 2, 0, none⟩ (.slice au q cu)) vs (wl.map (behind bt)) := by
                have h3 := OW.out
                rw [htk] at h3
                exact ⟨h3.1, fun i p hi => by
                  obtain ⟨v, e1, e2⟩ := h3.2 i p hi
                  exact ⟨v, e1, ownsRow_setCell_below e2 (a := ⟨B + 2, 0, none⟩) hBg _⟩⟩
              have h4 : (wl.map (behind bt)).length = q := by rw [List.length_map]; exact HK.out
              have h5 : Rises (wl.map (behind bt)) := by
                have := HW.out.rises
                unfold Rises at this ⊢
                rw [List.pairwise_map]
                exact this
              rw [h4]
              exact h2.bindsC h1 h5 h4
            have HL9 : Hid ((wl.map (behind bt)).length = q) := by show _ = _; rw [List.length_map]; exact HK.out
            clear htk
            go_wp2
            (try simp only [Exit.inBlock, Exit.then])
            refine bodyPost_ret (by simp [results, Tryz.results15, go_sem, kw]; try rfl) rfl ?_
            exact ⟨Hend.out, .inr ⟨fun p hp => HY.out p (HP.out.mem_iff.2 hp), wl.map (behind bt), au, cu, HP.out.map _, by rw [HL9.out], HBC.out⟩⟩
end Go.Proofs.YtjaccgkeldabfaaGreat.S

namespace Go.Proofs.YtjaccgkeldabfaaGreat.S
open Go.RowKit

theorem rises_eq : ∀ {a b : List (Int × List Int)}, Rises a → Rises b → a.Perm b → a = b
  | [], b, _, _, h => h.nil_eq
  | p :: a, [], _, _, h => absurd h.eq_nil (by simp)
  | p :: a, q :: b, ha, hb, h => by
    have ha' := List.pairwise_cons.1 ha
    have hb' := List.pairwise_cons.1 hb
    have hpq : p = q := by
      have h1 : p ∈ q :: b := h.mem_iff.1 (by simp)
      have h2 : q ∈ p :: a := h.mem_iff.2 (by simp)
      rcases List.mem_cons.1 h1 with e | h3
      · exact e
      · rcases List.mem_cons.1 h2 with e | h4
        · exact e.symm
        · have := ha'.1 q h4
          have := hb'.1 p h3
          omega
    subst hpq
    rw [rises_eq ha'.2 hb'.2 h.cons_inv]
theorem look_nil (x : Int) : look [] x = none := rfl
theorem subs_nil (e : List Int) : subs [] e = e := by
  unfold subs
  have : sub [] = fun x => [x] := funext fun x => rfl
  rw [this]
  induction e with
  | nil => rfl
  | cons x e ih => rw [List.flatMap_cons, ih]; rfl
theorem subs_one (bl : List (Int × List Int)) (x : Int) : subs bl [x] = sub bl x := by simp [subs]
theorem widen_none (bl : List (Int × List Int)) : widen bl [] = bl := by simp [widen, alone]
theorem none_widen (bl : List (Int × List Int)) : widen [] bl = bl.map fun p => (p.1, [p.1]) := by
  unfold widen alone
  rw [List.nil_append]
  congr 1
  exact List.filter_eq_self.2 fun p _ => rfl
theorem behind_none (bl : List (Int × List Int)) : (widen bl []).map (behind []) = bl := by
  rw [widen_none]
  have : behind [] = id := funext fun p => by unfold behind; rw [subs_nil]; rfl
  rw [this, List.map_id]
theorem none_behind {bl : List (Int × List Int)} (h : (bl.map (·.1)).Nodup) : (widen [] bl).map (behind bl) = bl := by
  rw [none_widen, List.map_map]
  conv => rhs; rw [← List.map_id bl]
  apply List.map_congr_left
  intro p hp
  show (p.1, subs bl [p.1]) = p
  rw [subs_one, show sub bl p.1 = p.2 by unfold sub; rw [look_of_mem h hp]; rfl]
theorem look_mem_of {bl : List (Int × List Int)} {x : Int} {l : List Int} (h : look bl x = some l) : (x, l) ∈ bl := by
  unfold look at h
  obtain ⟨p, hp, rfl⟩ := Option.map_eq_some_iff.1 h
  have h1 := List.find?_some hp
  have h2 := List.mem_of_find?_eq_some hp
  have : p.1 = x := by simpa using h1
  rw [← this]
  exact h2
theorem behind_nodup {l : List (Int × List Int)} (bt : List (Int × List Int)) (h : (l.map (·.1)).Nodup) : ((l.map (behind bt)).map (·.1)).Nodup := by
  rw [List.map_map]
  exact h
/-- All at once is one behind the other. -/
theorem sub_behind {ul bl bt : List (Int × List Int)} (h : ul.Perm ((widen bl bt).map (behind bt))) (hl : (bl.map (·.1)).Nodup) (ht : (bt.map (·.1)).Nodup) (x : Int) : sub ul x = subs bt (sub bl x) := by
  have hw := behind_nodup bt (widen_nodup hl ht)
  have hlk := look_perm h hw x
  cases hx : look bl x with
  | some l =>
    have h1 : (x, subs bt l) ∈ (widen bl bt).map (behind bt) := List.mem_map.2 ⟨(x, l), List.mem_append_left _ (look_mem_of hx), rfl⟩
    have h2 := look_of_mem hw h1
    unfold sub
    rw [hlk, h2, hx]; rfl
  | none =>
    have e1 : sub bl x = [x] := by unfold sub; rw [hx]; rfl
    rw [e1]
    cases hy : look bt x with
    | some l =>
      have h1 : (x, subs bt [x]) ∈ (widen bl bt).map (behind bt) := List.mem_map.2 ⟨(x, [x]), List.mem_append_right _ (List.mem_map.2 ⟨(x, l), List.mem_filter.2 ⟨look_mem_of hy, by simp [hx]⟩, rfl⟩), rfl⟩
      have h2 := look_of_mem hw h1
      unfold sub
      rw [hlk, h2]; rfl
    | none =>
      have h1 : look ((widen bl bt).map (behind bt)) x = none := look_out fun p hp e => by
        obtain ⟨q, hq, rfl⟩ := List.mem_map.1 hp
        have e' : q.1 = x := e
        rcases List.mem_append.1 hq with h3 | h3
        · exact look_some_of h3 (by rw [e']; exact hx)
        · obtain ⟨r, hr, rfl⟩ := List.mem_map.1 h3
          have e2 : r.1 = x := e'
          exact look_some_of (List.mem_filter.1 hr).1 (by rw [e2]; exact hy)
      rw [subs_one]
      unfold sub
      rw [hlk, h1, hy]
theorem subs_behind {ul bl bt : List (Int × List Int)} (h : ul.Perm ((widen bl bt).map (behind bt))) (hl : (bl.map (·.1)).Nodup) (ht : (bt.map (·.1)).Nodup) (e : List Int) : subs ul e = subs bt (subs bl e) := by
  unfold subs
  rw [List.flatMap_assoc]
  congr 1
  funext x
  exact sub_behind h hl ht x
end Go.Proofs.YtjaccgkeldabfaaGreat.S
