/- What Read answers of what Print wrote, and of the same with a word put in that is no name. -/
import Derived.Test.YtmgpnaehniohgaaDoorEGlue
import Derived.Test.YtmgpnaehniohgaaDoorSymGood
namespace Go.Proofs.YtmgpnaehniohgaaDoor.E
open Go.RowKit Go.Deep

/-- Numbers of active symbols. -/
def Actives (T : Tab) (xs : List Int) : Prop := ∀ x ∈ xs, ∃ m p, x = ((m : Nat) : Int) ∧ T.syms[m]? = some p ∧ m ∈ T.act
theorem Actives.shown {T : Tab} {k : Nat} {xs : List Int} (h : Actives T xs) (ho : T.Ok k) : ∀ x ∈ xs, ∃ p, symAt T x = some p ∧ p.1 ≠ ⟨#[]⟩ ∧ p.1.size ≤ 32 := fun x hx => by
  obtain ⟨m, p, rfl, hp, _⟩ := h x hx
  have hm := ho.names p (List.mem_of_getElem? hp)
  exact ⟨p, sym_at hp, made_ne hm, made_size hm⟩
theorem Actives.names {T : Tab} {k : Nat} {xs : List Int} (h : Actives T xs) (ho : T.Ok k) : ∀ t ∈ namesOf T xs, madeB t 3 = true := fun t ht => by
  obtain ⟨x, hx, rfl⟩ := List.mem_map.1 ht
  obtain ⟨m, p, rfl, hp, _⟩ := h x hx
  rw [sym_at hp]
  exact ho.names p (List.mem_of_getElem? hp)
theorem Actives.found {T : Tab} {k : Nat} {xs : List Int} (h : Actives T xs) (ho : T.Ok k) {i : Nat} {s : ByteArray} (hs : (namesOf T xs)[i]? = some s) : ∃ m : Nat, actOf T s = some m ∧ xs[i]? = some (m : Int) := by
  unfold namesOf at hs
  rw [List.getElem?_map] at hs
  obtain ⟨x, hx, rfl⟩ := Option.map_eq_some_iff.1 hs
  obtain ⟨m, p, rfl, hp, ha⟩ := h x (List.mem_of_getElem? hx)
  rw [sym_at hp]
  refine ⟨m, ?_, hx⟩
  show actOf T p.1 = _
  rw [act_at ho.nodup hp, if_pos ha]
theorem names_len (T : Tab) (xs : List Int) : (namesOf T xs).length = xs.length := by simp [namesOf]
theorem Actives.read {T : Tab} {k : Nat} {xs : List Int} (h : Actives T xs) (ho : T.Ok k) (hl : xs.length ≤ 200) {w w' : World} {e : Ending} (hr : ReadIs w w' e T (namesOf T xs)) :
    Below w.heap.size w w' ∧ ∃ v, e = .returned (.tuple #[v, .int .i64 0, .int .i64 0]) ∧ w'.ownsRow w.heap.size 3 1 v xs.length (xs.map intV) := by
  obtain ⟨hb, ⟨_, ns, v, hn, hf, he, hown⟩ | ⟨i, s, hs, _, ⟨rfl, _⟩ | ⟨_, hno, _⟩⟩⟩ := hr
  · have e2 : ns = xs := by
      apply List.ext_getElem?
      intro i
      cases hs : (namesOf T xs)[i]? with
      | none =>
        have h1 := List.getElem?_eq_none_iff.1 hs
        rw [names_len] at h1
        rw [names_len] at hn
        rw [List.getElem?_eq_none (by omega), List.getElem?_eq_none h1]
      | some s =>
        obtain ⟨m, h1, h2⟩ := hf i s hs
        obtain ⟨m', h3, h4⟩ := h.found ho hs
        rw [h1] at h3
        cases h3
        rw [h2, h4]
    subst e2
    rw [names_len] at hown
    exact ⟨hb, v, he, hown⟩
  · have := (List.getElem?_eq_some_iff.1 hs).1
    rw [names_len] at this
    omega
  · obtain ⟨m, h1, _⟩ := h.found ho hs
    rw [hno] at h1
    cases h1
/-- No symbol is called so. -/
def noneB : ByteArray := ⟨#[36, 110, 111, 110, 101]⟩
theorem none_act {T : Tab} {k : Nat} (ho : T.Ok k) : actOf T noneB = none := by
  have : numOf T.syms noneB = none := by
    unfold numOf
    rw [List.findIdx?_eq_none_iff]
    intro p hp
    have h1 := ho.names p hp
    simp only [decide_eq_false_iff_not]
    intro e
    rw [e, show madeB noneB 3 = false from none_bad] at h1
    cases h1
  unfold actOf
  rw [this]
  rfl
theorem Actives.bad {T : Tab} {k : Nat} {xs : List Int} (h : Actives T xs) (ho : T.Ok k) (hl : xs.length ≤ 200) (c : Nat) (hc : c ≤ xs.length) {w w' : World} {e : Ending} (hr : ReadIs w w' e T ((namesOf T xs).take c ++ [noneB] ++ (namesOf T xs).drop c)) :
    Below w.heap.size w w' ∧ ∃ er : Int, e = .returned (.tuple #[.slice none 0 0, .int .i64 c, .int .i64 er]) ∧ (er = 30 ∨ (c = 200 ∧ er = 31)) := by
  have hlen : ((namesOf T xs).take c).length = c := by rw [List.length_take, names_len]; omega
  have hat : ((namesOf T xs).take c ++ [noneB] ++ (namesOf T xs).drop c)[c]? = some noneB := by
    rw [List.append_assoc, List.getElem?_append_right (by omega), hlen, Nat.sub_self]; rfl
  have hbef : ∀ i s, i < c → ((namesOf T xs).take c ++ [noneB] ++ (namesOf T xs).drop c)[i]? = some s → (actOf T s).isSome = true := fun i s hi hs => by
    rw [List.append_assoc, List.getElem?_append_left (by omega), List.getElem?_take, if_pos hi] at hs
    obtain ⟨m, h1, _⟩ := h.found ho hs
    rw [h1]; rfl
  obtain ⟨hb, ⟨_, ns, v, hn, hf, he, hown⟩ | ⟨i, s, hs, hall, ⟨rfl, he⟩ | ⟨hi2, hno, he⟩⟩⟩ := hr
  · obtain ⟨m, h1, _⟩ := hf c noneB hat
    rw [none_act ho] at h1
    cases h1
  · have hc200 : c = 200 := by
      rcases Nat.lt_or_ge c 200 with h1 | h1
      · have := hall c noneB h1 hat
        rw [none_act ho] at this
        cases this
      · omega
    subst hc200
    exact ⟨hb, 31, he, .inr ⟨rfl, rfl⟩⟩
  · have hic : i = c := by
      rcases Nat.lt_trichotomy i c with h1 | h1 | h1
      · have := hbef i s h1 hs
        rw [hno] at this
        cases this
      · exact h1
      · have := hall c noneB h1 hat
        rw [none_act ho] at this
        cases this
    subst hic
    exact ⟨hb, 30, he, .inl rfl⟩
end Go.Proofs.YtmgpnaehniohgaaDoor.E
