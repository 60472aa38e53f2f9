/- A search with borders (pure): how many of a part's first items were met last. -/
import Derived.Test.YtmgpnaehniohgaaDoorEOrd
namespace Go.Proofs.YtmgpnaehniohgaaDoor.E

/-- The first k items of p were met last in s. -/
def Met (p : List Int) (k : Nat) (s : List Int) : Prop := k ≤ p.length ∧ p.take k <:+ s
/-- .. and no more of them, of those counts that are below m. -/
def Most (p : List Int) (m k : Nat) (s : List Int) : Prop := Met p k s ∧ ∀ j, j < m → Met p j s → j ≤ k
theorem met_zero (p s : List Int) : Met p 0 s := ⟨Nat.zero_le _, by simp⟩
theorem met_succ {p s : List Int} {k : Nat} {x : Int} : Met p (k + 1) (s ++ [x]) ↔ Met p k s ∧ p[k]? = some x := by
  constructor
  · rintro ⟨hk, hs⟩
    have hlt : k < p.length := by omega
    rw [List.take_add_one, List.getElem?_eq_getElem hlt, Option.toList_some] at hs
    obtain ⟨t, ht⟩ := hs
    rw [← List.append_assoc] at ht
    obtain ⟨h1, h2⟩ := List.append_inj' ht rfl
    refine ⟨⟨by omega, t, h1⟩, ?_⟩
    rw [List.getElem?_eq_getElem hlt]
    simpa using h2
  · rintro ⟨⟨hk, t, ht⟩, hx⟩
    have hlt : k < p.length := (List.getElem?_eq_some_iff.1 hx).1
    refine ⟨by omega, t, ?_⟩
    rw [List.take_add_one, hx, Option.toList_some, ← List.append_assoc, ht]
theorem met_within {p s : List Int} {j f : Nat} (hj : Met p j s) (hf : Met p f s) (h : j ≤ f) : Met p j (p.take f) := by
  refine ⟨hj.1, List.suffix_of_suffix_length_le hj.2 hf.2 ?_⟩
  rw [List.length_take, List.length_take]; omega
theorem met_through {p s : List Int} {j f : Nat} (hj : Met p j (p.take f)) (hf : Met p f s) : Met p j s := ⟨hj.1, hj.2.trans hf.2⟩
/-- The state of a search for the next count: f were met last in s, and behind x at most f + 1 (of those below m + 1). -/
def Seek (p : List Int) (m f : Nat) (s : List Int) (x : Int) : Prop := Met p f s ∧ ∀ j, j < m → Met p j s → p[j]? = some x → j ≤ f
theorem seek_start {p s : List Int} {m f : Nat} {x : Int} (h : Most p m f s) : Seek p m f s x := ⟨h.1, fun j hj hm _ => h.2 j hj hm⟩
/-- The next shorter beginning is tried: b is the longest shorter one with which the first f items end. -/
theorem seek_step {p s : List Int} {m f b : Nat} {x : Int} (h : Seek p m f s x) (hx : p[f]? ≠ some x) (hb : Most p f b (p.take f)) : Seek p m b s x := by
  refine ⟨met_through hb.1 h.1, fun j hj hm he => ?_⟩
  have h1 := h.2 j hj hm he
  have hne : j ≠ f := fun e => hx (e ▸ he)
  exact hb.2 j (by omega) (met_within hm h.1 h1)
theorem seek_found {p s : List Int} {m f : Nat} {x : Int} (h : Seek p m f s x) (hx : p[f]? = some x) : Most p (m + 1) (f + 1) (s ++ [x]) := by
  refine ⟨met_succ.2 ⟨h.1, hx⟩, fun j hj hm => ?_⟩
  cases j with
  | zero => omega
  | succ j =>
    obtain ⟨h1, h2⟩ := met_succ.1 hm
    have := h.2 j (by omega) h1 h2
    omega
theorem seek_none {p s : List Int} {m : Nat} {x : Int} (h : Seek p m 0 s x) (hx : p[0]? ≠ some x) : Most p (m + 1) 0 (s ++ [x]) := by
  refine ⟨met_zero _ _, fun j hj hm => ?_⟩
  cases j with
  | zero => omega
  | succ j =>
    obtain ⟨h1, h2⟩ := met_succ.1 hm
    have := h.2 j (by omega) h1 h2
    have e : j = 0 := by omega
    subst e
    exact absurd h2 hx
/-- The table of borders up to n items: of each beginning the longest shorter one with which it ends. -/
def Borders (p : List Int) (L : List Nat) (n : Nat) : Prop := ∀ i, i < n → ∃ b, L[i]? = some b ∧ b ≤ i ∧ Most p (i + 1) b (p.take (i + 1))
/-- Where the whole part was met last: it stands there. -/
theorem met_all {p s : List Int} : Met p p.length s ↔ p <:+ s := by
  unfold Met
  rw [List.take_length]
  simp
end Go.Proofs.YtmgpnaehniohgaaDoor.E
