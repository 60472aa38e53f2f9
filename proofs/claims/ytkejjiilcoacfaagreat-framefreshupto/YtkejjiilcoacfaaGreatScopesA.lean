/- A scope that is opened and closed: what is said without memory; what was told stays. -/
import Derived.Test.YtkejjiilcoacfaaGreatNeedsW
namespace Go.Proofs.YtkejjiilcoacfaaGreat
open Go.Maps Go.RowKit Go.WideMaps

theorem say_same {l : List Sa} {o : OpA} (h : sayE l o ≠ 0) : sayL l o = l := by
  unfold sayE at h
  unfold sayL
  split
  · rename_i h1
    rw [if_pos h1] at h
    unfold openE at h
    unfold openL
    split
    · rfl
    · rename_i h2; rw [if_neg h2] at h; exact absurd rfl h
  rename_i h1
  rw [if_neg h1] at h
  split
  · rename_i h2
    rw [if_pos h2] at h
    unfold closeE at h
    unfold closeL
    split
    · rfl
    · rename_i h3; rw [if_neg h3] at h; exact absurd rfl h
  rename_i h2
  rw [if_neg h2] at h
  split
  · rename_i h3
    rw [if_pos h3] at h
    unfold floatL
    rw [if_neg h]
  rename_i h3
  rw [if_neg h3] at h
  split
  · rename_i h4
    rw [if_pos h4] at h
    unfold essL
    rw [if_neg h]
  rename_i h4
  rw [if_neg h4] at h
  split
  · rename_i h5
    rw [if_pos h5] at h
    unfold distL
    rw [if_neg h]
  · rfl
theorem inLast_app (f : Sa → Sa) (l r : List Sa) (h : 0 < r.length) : inLast f (l ++ r) = l ++ inLast f r := by
  rcases List.eq_nil_or_concat r with rfl | ⟨r', z, rfl⟩
  · simp at h
  · rw [List.concat_eq_append, ← List.append_assoc, inLast_snoc, inLast_snoc, List.append_assoc]
theorem inLast_len (f : Sa → Sa) (r : List Sa) : (inLast f r).length = r.length := by
  rcases List.eq_nil_or_concat r with rfl | ⟨r', z, rfl⟩
  · rfl
  · rw [List.concat_eq_append, inLast_snoc]; simp
/-- A step within a scope: what lies beneath it stays. -/
theorem say_in (l r : List Sa) (o : OpA) (h0 : 0 < l.length) (hr : 0 < r.length) (hc : o.k = 2 → 1 < r.length) : ∃ r', sayL (l ++ r) o = l ++ r' ∧ ((o.k = 1 ∧ sayE (l ++ r) o = 0 ∧ r'.length = r.length + 1) ∨ (o.k = 2 ∧ sayE (l ++ r) o = 0 ∧ r'.length + 1 = r.length) ∨ (¬ (sayE (l ++ r) o = 0 ∧ (o.k = 1 ∨ o.k = 2)) ∧ r'.length = r.length)) := by
  unfold sayL sayE
  by_cases h1 : o.k = 1
  · rw [if_pos h1, if_pos h1]
    unfold openL openE
    split
    · exact ⟨r, rfl, .inr (.inr ⟨fun h => by simp at h, rfl⟩)⟩
    · exact ⟨r ++ [⟨[], []⟩], by rw [List.append_assoc], .inl ⟨h1, rfl, by simp⟩⟩
  rw [if_neg h1, if_neg h1]
  by_cases h2 : o.k = 2
  · rw [if_pos h2, if_pos h2]
    have h3 := hc h2
    unfold closeL closeE
    rw [if_neg (by rw [List.length_append]; omega), if_neg (by rw [List.length_append]; omega)]
    refine ⟨r.take (r.length - 1), ?_, .inr (.inl ⟨h2, rfl, by rw [List.length_take]; omega⟩)⟩
    rw [List.length_append, List.take_append, List.take_of_length_le (by omega), show l.length + r.length - 1 - l.length = r.length - 1 by omega]
  rw [if_neg h2, if_neg h2]
  have key : ∀ E : Int, ¬ (E = 0 ∧ (o.k = 1 ∨ o.k = 2)) := fun E h => by rcases h.2 with h | h <;> contradiction
  by_cases h3 : o.k = 3
  · rw [if_pos h3, if_pos h3]
    unfold floatL
    split
    · exact ⟨_, inLast_app _ l r hr, .inr (.inr ⟨key _, inLast_len _ r⟩)⟩
    · exact ⟨r, rfl, .inr (.inr ⟨key _, rfl⟩)⟩
  rw [if_neg h3, if_neg h3]
  by_cases h4 : o.k = 4
  · rw [if_pos h4, if_pos h4]
    unfold essL
    split
    · exact ⟨_, inLast_app _ l r hr, .inr (.inr ⟨key _, inLast_len _ r⟩)⟩
    · exact ⟨r, rfl, .inr (.inr ⟨key _, rfl⟩)⟩
  rw [if_neg h4, if_neg h4]
  by_cases h5 : o.k = 5
  · rw [if_pos h5, if_pos h5]
    unfold distL
    split
    · exact ⟨_, inLast_app _ l r hr, .inr (.inr ⟨key _, inLast_len _ r⟩)⟩
    · exact ⟨r, rfl, .inr (.inr ⟨key _, rfl⟩)⟩
  rw [if_neg h5, if_neg h5]
  exact ⟨r, rfl, .inr (.inr ⟨key _, rfl⟩)⟩
theorem close_in (l r : List Sa) (h0 : 0 < l.length) (hr : 0 < r.length) : closeE (l ++ r) = 0 ∧ closeL (l ++ r) = l ++ r.take (r.length - 1) := by
  unfold closeL closeE
  rw [if_neg (by rw [List.length_append]; omega), if_neg (by rw [List.length_append]; omega)]
  refine ⟨rfl, ?_⟩
  rw [List.length_append, List.take_append, List.take_of_length_le (by omega), show l.length + r.length - 1 - l.length = r.length - 1 by omega]
/-- What was told, in a box, stays while only blocks below N and from M on turn. -/
structure KeepS (N U : Nat) (W : World) (l : List Sa) (S : Nat) (a p : Option Addr) (n c k d : Nat) (ts : List HyC) (m : List Pp) : Prop where
  t : ToldH N W (.slice a n c) ts
  pr : W.ownsRow N 64 2 (.slice p k d) k (rowQ m)
  box : W.heap[S]? = some (.cells #[.slice a n c, .slice p k d] 37 (0, 0))
  nl : ts.length = n
  kl : m.length = k
  h : ts.map (·.h) = hypsA l
  nm : IsNorm (apsA l) m
  sN : N ≤ S
  sM : S < U
  tM : ∀ g, (Value.slice a n c).ownBlock = some g → g < U
  eM : ∀ y ∈ ts, ∀ g, y.ve.ownBlock = some g → g < U
  pM : ∀ g, (Value.slice p k d).ownBlock = some g → g < U
theorem KeepS.ch {N U : Nat} {W W' : World} {l : List Sa} {S : Nat} {a p : Option Addr} {n c k d : Nat} {ts : List HyC} {m : List Pp} {X : Nat → Prop} (h : KeepS N U W l S a p n c k d ts m) (hc : M.Ch X W W') (hX : ∀ g, X g → g < N ∨ U ≤ g) : KeepS N U W' l S a p n c k d ts m := by
  have no : ∀ g, N ≤ g → g < U → ¬ X g := fun g h1 h2 e => by rcases hX g e with h3 | h3 <;> omega
  exact ⟨⟨M.owns_ch h.t.own hc fun g e => no g (M.own_ge' h.t.own g e) (h.tM g e), fun y hy => M.owns_ch (h.t.e y hy) hc fun g e => no g (M.own_ge' (h.t.e y hy) g e) (h.eM y hy g e), h.t.ap⟩, M.owns_ch h.pr hc fun g e => no g (M.own_ge' h.pr g e) (h.pM g e), (hc.block S (Array.getElem?_eq_some_iff.1 h.box).1 (no S h.sN h.sM)).trans h.box, h.nl, h.kl, h.h, h.nm, h.sN, h.sM, h.tM, h.eM, h.pM⟩
theorem KeepS.below {N U : Nat} {W W' : World} {l : List Sa} {S : Nat} {a p : Option Addr} {n c k d : Nat} {ts : List HyC} {m : List Pp} (h : KeepS N U W l S a p n c k d ts m) (hb : Below W.heap.size W W') : KeepS N U W' l S a p n c k d ts m := h.ch (M.Ch.of_below (X := fun _ => False) hb) fun _ e => e.elim
theorem KeepS.told {N U : Nat} {W : World} {l : List Sa} {S : Nat} {a p : Option Addr} {n c k d : Nat} {ts : List HyC} {m : List Pp} (h : KeepS N U W l S a p n c k d ts m) : ScopeL W l a p n k ts m := by
  obtain ⟨a', c', e, _, ha⟩ := h.t.at
  cases e
  exact ⟨h.nl, h.kl, h.h, h.nm, ha, own_pairs h.pr⟩
/-- Scope, and its answer laid in a box. -/
theorem scope_keep {N0 i : Nat} {w : World} {P : Nat} {l : List Sa} (h : StA N0 w P l) (hg : Good i 1048576 l) (hi : i ≤ 1000000) : Calls Tryz.prog 15 #[.pointer (some ⟨P, 0, none⟩)] w fun e w' => Below w.heap.size w w' ∧ ∃ a n c p k d ts m, e = .returned (.agg #[.slice a n c, .slice p k d]) ∧ KeepS w.heap.size (w'.heap.size + 1) (w'.alloc (.cells #[.slice a n c, .slice p k d] 37)) l w'.heap.size a p n c k d ts m :=
  (scope_st h (hg.ok hi (by omega))).mono fun e w' ⟨hb, vh, vp, ts, m, he, hs⟩ => by
    obtain ⟨a, c, rfl, _, _⟩ := hs.t.at
    obtain ⟨p, d, rfl, _⟩ := own_shape hs.p
    have bA : Below w'.heap.size w' (w'.alloc (.cells #[.slice a ts.length c, .slice p m.length d] 37)) := fr_below_alloc _ _
    exact ⟨hb, a, _, c, p, _, d, ts, m, he, hs.t.below bA, M.owns_ch hs.p (M.Ch.of_below (X := fun _ => False) bA) (fun _ _ e => e), heap_alloc_new w' _, rfl, rfl, hs.h, hs.n, hb.size, by omega, fun g e => by have := M.own_lt hs.t.own g e; omega, fun y hy g e => by have := M.own_lt (hs.t.e y hy) g e; omega, fun g e => by have := M.own_lt hs.p g e; omega⟩
end Go.Proofs.YtkejjiilcoacfaaGreat
