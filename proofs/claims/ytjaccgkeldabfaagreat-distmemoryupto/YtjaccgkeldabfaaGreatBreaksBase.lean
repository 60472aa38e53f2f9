/- DistBreaks: what the law is given; what the calls answer, in one form. -/
import Derived.Test.YtjaccgkeldabfaaGreatBreaksPure
import Derived.Test.YtjaccgkeldabfaaGreatOrdAlive
import Derived.Test.YtjaccgkeldabfaaGreatThenGiven
import Derived.Laws.StructEq
import Derived.Test.YtjaccgkeldabfaaGreatKeys
namespace Go.Proofs.YtjaccgkeldabfaaGreat
open Go.RowKit

/-- What the law is given, and what bounds it. -/
structure Dat (l hv : List Pr) (b0 : List (Int × List Int)) (U : List Int) (m d : Int) : Prop where
  wl : ∀ q ∈ l, wfP q
  wh : ∀ q ∈ hv, wfP q
  w0 : ∀ q ∈ b0, ∀ x ∈ q.2, wfI x
  wm : wfI m
  wd : wfI d
  ul : ∀ q ∈ l, q.1 ∈ U ∧ q.2 ∈ U
  u0 : ∀ q ∈ b0, ∀ x ∈ q.2, x ∈ U
  g0 : ∀ q ∈ b0, q.2.length ≤ 1048576
  len : U.length ≤ 1048576
theorem Dat.inn {l hv : List Pr} {b0 sl : List (Int × List Int)} {U : List Int} {m d : Int} (D : Dat l hv b0 U m d) (hs : ∀ q ∈ sl, q ∈ b0) : ∀ q ∈ l, (∀ x ∈ strOf sl q.1, x ∈ U) ∧ ∀ x ∈ strOf sl q.2, x ∈ U := fun q hq => by
  have key : ∀ v x, v ∈ U → x ∈ strOf sl v → x ∈ U := fun v x hv hx => by
    rcases str_in hx with rfl | ⟨p, hp, hx⟩
    · exact hv
    · exact D.u0 p (hs p hp) x hx
  obtain ⟨a, b⟩ := D.ul q hq
  exact ⟨fun x hx => key _ x a hx, fun x hx => key _ x b hx⟩
/-- What Carry answers, in one form. -/
def AskIs (bl : List (Int × List Int)) (p : Int → Bool) (l mm : List Pr) (z : Pr) (fine : Bool) : Prop :=
  (fine = false ∧ mm = [] ∧ l.find? (badM bl p) = some z) ∨ (fine = true ∧ z = (0, 0) ∧ l.find? (badM bl p) = none ∧ ∃ mn, IsNorm l mn ∧ Told (askS bl p mn) mm)
theorem newU2 (w : World) (a : Option Addr) (n c : Nat) (vs0 : List (Int × Value)) (bl : List (Int × List Int)) (hl : bl.length = n) (hn : n ≤ 4398046511000) (hbig : ∀ p ∈ bl, p.2.length ≤ 17592186043904) (hR : S.RowAt w a (S.rowB vs0)) (hM : S.Matches w vs0 bl) :
    Calls Tryz.prog 7 #[.slice a n c] w fun e w' => Below w.heap.size w w' ∧ ∃ (sl : List (Int × List Int)) (a1 : Option Addr) (c1 : Nat) (er : Int), e = .returned (.tuple #[.agg #[.slice a1 sl.length c1], .int .i64 er]) ∧ S.BindsC w' a1 sl.length sl ∧ ((er = 40 ∧ ¬ (bl.map (·.1)).Nodup) ∨ (er = 0 ∧ sl.Perm bl ∧ (bl.map (·.1)).Nodup)) := by
  refine (S.new_any w a n c vs0 bl hl hn hbig hR hM).mono ?_
  rintro e w' ⟨hb, ⟨hd, he⟩ | ⟨hd, bl', a1, c1, vs, hp, hr, he, ho, hO⟩⟩
  · exact ⟨hb, [], none, 0, 40, he, bindsC_none _ _, .inl ⟨rfl, hd⟩⟩
  · have hl' : bl'.length = n := by rw [hp.length_eq, hl]
    refine ⟨hb, bl', a1, c1, 0, by rw [hl']; exact he, ?_, .inr ⟨rfl, hp, hd⟩⟩
    rw [hl']
    exact hO.bindsC ho hr hl'
theorem carryU {w w' : World} {e : Ending} {bl : List (Int × List Int)} {p : Int → Bool} {l : List Pr} (h : CarryIs w w' e bl p l) : Below w.heap.size w w' ∧ ∃ (a : Option Addr) (c : Nat) (mm : List Pr) (z : Pr) (fine : Bool), e = .returned (.tuple #[.slice a mm.length c, encP z, .bool fine]) ∧ PairsAt w' a mm ∧ (mm.length ≤ 1099511627776 ∧ mm.length ≤ c) ∧ AskIs bl p l mm z fine := by
  obtain ⟨hb, ⟨q, hq, he⟩ | ⟨hn, v, mm, mn, he, h1, h2, h3, h4⟩⟩ := h
  · exact ⟨hb, none, 0, [], q, false, he, fun i p hi => by simp at hi, ⟨by simp, by simp⟩, .inl ⟨rfl, rfl, hq⟩⟩
  · obtain ⟨a, c, rfl, hc⟩ := own_shape h4
    exact ⟨hb, a, c, mm, (0, 0), true, he, own_pairs h4, ⟨h3, hc⟩, .inr ⟨rfl, rfl, hn, mn, h1, h2⟩⟩
theorem AskIs.up {bl : List (Int × List Int)} {p : Int → Bool} {l mm : List Pr} {z : Pr} {fine : Bool} (h : AskIs bl p l mm z fine) : Up mm ∧ (∀ q ∈ mm, q.1 < q.2) ∧ ∀ q ∈ mm, wfP q := by
  rcases h with ⟨_, rfl, _⟩ | ⟨_, _, hf, mn, hn, ht⟩
  · exact ⟨List.Pairwise.nil, by simp, by simp⟩
  · exact ⟨ht.up, ask_lt hn ht hf, ht.wf⟩
/-- How the three answers hang together. -/
theorem three {bl : List (Int × List Int)} {p : Int → Bool} {l mm hv : List Pr} {z : Pr} {fine : Bool} (hwb : ∀ q ∈ bl, ∀ x ∈ q.2, wfI x) (hwl : ∀ q ∈ l, wfP q) (h : AskIs bl p l mm z fine) : (l.find? (badH bl p hv)).isSome = !(fine && mm.all (standsL hv)) := by
  rcases h with ⟨rfl, rfl, hf⟩ | ⟨rfl, _, hf, mn, hn, ht⟩
  · rw [Bool.false_and]
    cases hh : l.find? (badH bl p hv) with
    | none => rw [fine_of_whole hh] at hf; cases hf
    | some q => rfl
  · rw [Bool.true_and]
    cases hh : l.find? (badH bl p hv) with
    | none =>
      have := (whole_ask hwb hwl hn ht hf).1 hh
      rw [List.all_eq_true.2 this]
      rfl
    | some q =>
      cases ha : mm.all (standsL hv) with
      | false => rfl
      | true =>
        rw [(whole_ask hwb hwl hn ht hf).2 (List.all_eq_true.1 ha)] at hh
        cases hh
theorem pairs_one {w : World} {b o j : Nat} {x y : Int} (h0 : w.cell? ⟨b, o + j * 2, none⟩ = some (.int .i64 x)) (h1 : w.cell? ⟨b, o + j * 2 + 1, none⟩ = some (.int .i64 y)) : PairsAt w (some ⟨b, o + j * 2, none⟩) [(x, y)] := fun i q hi => by
  rcases i with _ | i
  · simp at hi
    subst hi
    exact ⟨b, o + j * 2, rfl, h0, h1⟩
  · simp at hi
theorem pairs_row {w : World} {a : Option Addr} {l : List Pr} (h : PairsAt w a l) : RowAt w a (rowP l) := fun t u ht => by
  have hlt : t < l.length * 2 := by have := (List.getElem?_eq_some_iff.1 ht).1; rwa [rowP_len] at this
  have h2 : t / 2 < l.length := by omega
  obtain ⟨b, off, rfl, c0, c1⟩ := h (t / 2) _ (List.getElem?_eq_getElem h2)
  have hr := rowP_at l (t / 2) _ (List.getElem?_eq_getElem h2)
  refine ⟨b, off, rfl, ?_⟩
  rcases Nat.mod_two_eq_zero_or_one t with hm | hm
  · have e : t / 2 * 2 = t := by omega
    rw [e] at c0 hr
    rw [hr.1] at ht
    cases ht
    exact c0
  · have e : t / 2 * 2 + 1 = t := by omega
    have c1' : w.cell? ⟨b, off + (t / 2 * 2 + 1), none⟩ = some (.int .i64 l[t / 2].2) := c1
    rw [e] at c1' hr
    rw [hr.2] at ht
    cases ht
    exact c1'
theorem rowP_one (l : List Pr) : ∀ u ∈ rowP l, u.oneCell' = true := fun u hu => by
  unfold rowP at hu
  rw [List.mem_flatMap] at hu
  obtain ⟨p, _, hp⟩ := hu
  simp at hp
  rcases hp with rfl | rfl <;> rfl
theorem rowP_append (l m : List Pr) : rowP (l ++ m) = rowP l ++ rowP m := by simp [rowP]
theorem pairs_drop {w : World} {b o : Nat} {l : List Pr} (h : PairsAt w (some ⟨b, o, none⟩) l) (k : Nat) : PairsAt w (some ⟨b, o + k * 2, none⟩) (l.drop k) := fun i q hi => by
  rw [List.getElem?_drop] at hi
  obtain ⟨b', o', e, h0, h1⟩ := h _ _ hi
  cases e
  refine ⟨b, o + k * 2, rfl, ?_, ?_⟩
  · rw [show o + k * 2 + i * 2 = o + (k + i) * 2 by omega]; exact h0
  · rw [show o + k * 2 + i * 2 = o + (k + i) * 2 by omega]; exact h1
theorem pairs_take {w : World} {a : Option Addr} {l : List Pr} (h : PairsAt w a l) (k : Nat) : PairsAt w a (l.take k) := fun i q hi => by
  rw [List.getElem?_take] at hi
  split at hi
  · exact h i q hi
  · cases hi
theorem newE (w : World) : Calls Tryz.prog 7 #[.slice none 0 0] w fun e w' => Below w.heap.size w w' ∧ ∃ (a1 : Option Addr) (c1 : Nat), e = .returned (.tuple #[.agg #[.slice a1 0 c1], .int .i64 0]) := by
  refine (S.new_any w none 0 0 [] [] rfl (by omega) (by simp) (fun i u hi => by simp [S.rowB] at hi) ⟨rfl, fun i p hi => by simp at hi⟩).mono ?_
  rintro e w' ⟨hb, ⟨hd, _⟩ | ⟨_, bl', a1, c1, vs, _, _, he, _⟩⟩
  · exact absurd List.nodup_nil hd
  · exact ⟨hb, a1, c1, he⟩
end Go.Proofs.YtjaccgkeldabfaaGreat
