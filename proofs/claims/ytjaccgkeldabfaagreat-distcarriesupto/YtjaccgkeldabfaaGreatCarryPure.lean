/- The document's Carry and Breach against the program's (pure). -/
import Derived.Test.YtjaccgkeldabfaaGreatRAsked
import Derived.Test.YtjaccgkeldabfaaGreatRefH
import Derived.Test.YtjaccgkeldabfaaGreatBreaksPure
namespace Go.Proofs.YtjaccgkeldabfaaGreat
open Go.RowKit

theorem hasP_iff {l : List Pr} {p : Pr} : hasP l p = true ↔ ∃ q ∈ l, turnP q = turnP p := by
  unfold hasP
  rw [List.any_eq_true]
  constructor
  · rintro ⟨q, h, e⟩
    rw [Bool.and_eq_true, beq_iff_eq, beq_iff_eq] at e
    exact ⟨q, h, Prod.ext e.1 e.2⟩
  · rintro ⟨q, h, e⟩
    exact ⟨q, h, by rw [e]; simp⟩
/-- One more, if it is not there either way round. -/
def addN (acc : List Pr) (z : Pr) : List Pr := if hasP acc z then acc else acc ++ [z]
def addAll (acc : List Pr) (Z : List Pr) : List Pr := Z.foldl addN acc
/-- All that pairs ask for, doubles left out as they come. -/
def allN (xs : Int → List Int) (l : List Pr) : List Pr := l.foldl (fun acc q => addAll acc (askL (xs q.1) (xs q.2))) []
theorem addAll_snoc (acc Z : List Pr) (z : Pr) : addAll acc (Z ++ [z]) = addN (addAll acc Z) z := by unfold addAll; rw [List.foldl_append]; rfl
theorem allN_snoc (xs : Int → List Int) (l : List Pr) (q : Pr) : allN xs (l ++ [q]) = addAll (allN xs l) (askL (xs q.1) (xs q.2)) := by unfold allN; rw [List.foldl_append]; rfl
/-- No two alike either way round, and none beside L. -/
structure Few (acc : List Pr) (L : List Pr) : Prop where
  nd : (acc.map turnP).Nodup
  sub : ∀ q ∈ acc, turnP q ∈ L
theorem Few.len {acc L : List Pr} (h : Few acc L) : acc.length ≤ L.length := by
  have := nodup_le h.nd (m := L) fun x hx => by obtain ⟨q, hq, rfl⟩ := List.mem_map.1 hx; exact h.sub q hq
  simpa using this
theorem Few.add {acc L : List Pr} {z : Pr} (h : Few acc L) (hz : turnP z ∈ L) : Few (addN acc z) L := by
  unfold addN
  by_cases hh : hasP acc z = true
  · rw [if_pos hh]; exact h
  · rw [if_neg hh]
    refine ⟨?_, fun q hq => ?_⟩
    · rw [List.map_append, List.nodup_append]
      refine ⟨h.nd, by simp, fun x hx y hy e => hh ?_⟩
      obtain ⟨q, hq, rfl⟩ := List.mem_map.1 hx
      simp at hy
      exact hasP_iff.2 ⟨q, hq, by rw [e, hy]⟩
    · rcases List.mem_append.1 hq with hq | hq
      · exact h.sub q hq
      · simp at hq; rw [hq]; exact hz
theorem Few.addAll {L : List Pr} : ∀ {Z acc : List Pr}, Few acc L → (∀ z ∈ Z, turnP z ∈ L) → Few (addAll acc Z) L
  | [], _, h, _ => h
  | z :: Z, _, h, hZ => Few.addAll (Z := Z) (h.add (hZ z (by simp))) fun y hy => hZ y (by simp [hy])
theorem addN_mem {acc : List Pr} {z p : Pr} : (∃ q ∈ addN acc z, turnP q = p) ↔ (∃ q ∈ acc, turnP q = p) ∨ turnP z = p := by
  unfold addN
  by_cases hh : hasP acc z = true
  · rw [if_pos hh]
    refine ⟨.inl, ?_⟩
    rintro (h | h)
    · exact h
    · obtain ⟨q, hq, e⟩ := hasP_iff.1 hh
      exact ⟨q, hq, e.trans h⟩
  · rw [if_neg hh]
    constructor
    · rintro ⟨q, hq, e⟩
      rcases List.mem_append.1 hq with hq | hq
      · exact .inl ⟨q, hq, e⟩
      · simp at hq; rw [hq] at e; exact .inr e
    · rintro (⟨q, hq, e⟩ | e)
      · exact ⟨q, List.mem_append_left _ hq, e⟩
      · exact ⟨z, by simp, e⟩
theorem addAll_mem {p : Pr} : ∀ {Z acc : List Pr}, (∃ q ∈ addAll acc Z, turnP q = p) ↔ (∃ q ∈ acc, turnP q = p) ∨ ∃ z ∈ Z, turnP z = p
  | [], acc => by unfold addAll; simp
  | z :: Z, acc => by
    have h := addAll_mem (p := p) (Z := Z) (acc := addN acc z)
    have e : addAll acc (z :: Z) = addAll (addN acc z) Z := rfl
    rw [e, h, addN_mem]
    simp only [List.mem_cons, exists_eq_or_imp]
    rw [or_assoc]
theorem askL_mem {X Y : List Int} {z : Pr} : z ∈ askL X Y ↔ z.1 ∈ X ∧ z.2 ∈ Y := by
  unfold askL
  rw [List.mem_flatMap]
  constructor
  · rintro ⟨x, hx, h⟩
    obtain ⟨y, hy, rfl⟩ := List.mem_map.1 h
    exact ⟨hx, hy⟩
  · rintro ⟨h1, h2⟩
    exact ⟨z.1, h1, List.mem_map.2 ⟨z.2, h2, rfl⟩⟩
theorem allN_fold {xs : Int → List Int} {p : Pr} : ∀ {l acc : List Pr}, (∃ z ∈ l.foldl (fun acc q => addAll acc (askL (xs q.1) (xs q.2))) acc, turnP z = p) ↔ (∃ z ∈ acc, turnP z = p) ∨ ∃ q ∈ l, ∃ z ∈ askL (xs q.1) (xs q.2), turnP z = p
  | [], acc => by simp
  | q :: l, acc => by
    rw [List.foldl_cons, allN_fold (l := l), addAll_mem]
    simp only [List.mem_cons, exists_eq_or_imp]
    rw [or_assoc]
theorem allN_mem {xs : Int → List Int} {l : List Pr} {p : Pr} : (∃ z ∈ allN xs l, turnP z = p) ↔ ∃ q ∈ l, ∃ a ∈ xs q.1, ∃ b ∈ xs q.2, turnP (a, b) = p := by
  unfold allN
  rw [allN_fold]
  simp only [List.not_mem_nil, false_and, exists_false, false_or]
  constructor
  · rintro ⟨q, hq, z, hz, e⟩
    obtain ⟨h1, h2⟩ := askL_mem.1 hz
    exact ⟨q, hq, z.1, h1, z.2, h2, e⟩
  · rintro ⟨q, hq, a, ha, b, hb, e⟩
    exact ⟨q, hq, (a, b), askL_mem.2 ⟨ha, hb⟩, e⟩
theorem allN_few {xs : Int → List Int} {U : List Int} {l : List Pr} (h : ∀ q ∈ l, (∀ x ∈ xs q.1, x ∈ U) ∧ ∀ x ∈ xs q.2, x ∈ U) : Few (allN xs l) (boxP U) := by
  have key : ∀ (l acc : List Pr), (∀ q ∈ l, (∀ x ∈ xs q.1, x ∈ U) ∧ ∀ x ∈ xs q.2, x ∈ U) → Few acc (boxP U) → Few (l.foldl (fun acc q => addAll acc (askL (xs q.1) (xs q.2))) acc) (boxP U) := by
    intro l
    induction l with
    | nil => intro acc _ h; exact h
    | cons q l ih =>
      intro acc hl ha
      rw [List.foldl_cons]
      refine ih _ (fun y hy => hl y (by simp [hy])) (ha.addAll fun z hz => ?_)
      obtain ⟨h1, h2⟩ := askL_mem.1 hz
      obtain ⟨u1, u2⟩ := hl q (by simp)
      exact box_mem (u1 _ h1) (u2 _ h2)
  exact key l [] h ⟨by simp, by simp⟩
theorem onc_mem {p : Int → Bool} {l : List Int} {x : Int} : x ∈ onc p l ↔ x ∈ l ∧ p x = true := by
  have key : ∀ (l acc : List Int), x ∈ l.foldl (fun acc x => if p x && !hasI acc x then acc ++ [x] else acc) acc ↔ x ∈ acc ∨ (x ∈ l ∧ p x = true) := by
    intro l
    induction l with
    | nil => intro acc; simp
    | cons y l ih =>
      intro acc
      rw [List.foldl_cons, ih]
      by_cases hp : p y = true
      · by_cases hh : hasI acc y = true
        · have hm := hasI_iff.1 hh
          rw [if_neg (by rw [hh]; simp)]
          constructor
          · rintro (h | ⟨h, e⟩)
            · exact .inl h
            · exact .inr ⟨List.mem_cons_of_mem _ h, e⟩
          · rintro (h | ⟨h, e⟩)
            · exact .inl h
            · rcases List.mem_cons.1 h with rfl | h
              · exact .inl hm
              · exact .inr ⟨h, e⟩
        · rw [if_pos (by rw [hp]; simpa using hh)]
          constructor
          · rintro (h | ⟨h, e⟩)
            · rcases List.mem_append.1 h with h | h
              · exact .inl h
              · simp at h; subst h; exact .inr ⟨by simp, hp⟩
            · exact .inr ⟨List.mem_cons_of_mem _ h, e⟩
          · rintro (h | ⟨h, e⟩)
            · exact .inl (List.mem_append_left _ h)
            · rcases List.mem_cons.1 h with rfl | h
              · exact .inl (by simp)
              · exact .inr ⟨h, e⟩
      · rw [if_neg (by simp [hp])]
        constructor
        · rintro (h | ⟨h, e⟩)
          · exact .inl h
          · exact .inr ⟨List.mem_cons_of_mem _ h, e⟩
        · rintro (h | ⟨h, e⟩)
          · exact .inl h
          · rcases List.mem_cons.1 h with rfl | h
            · exact absurd e hp
            · exact .inr ⟨h, e⟩
  have := key l []
  simpa [onc] using this
theorem onc_vL {bl : List (Int × List Int)} {p : Int → Bool} {v x : Int} : x ∈ onc p (strOf bl v) ↔ x ∈ vL bl p v := by rw [onc_mem, vL_mem]
/-- What the document's Carry tells is what the program's tells. -/
theorem carry_same {bl : List (Int × List Int)} {p : Int → Bool} {l mn mm out : List Pr} (hwb : ∀ q ∈ bl, ∀ x ∈ q.2, wfI x) (hwl : ∀ q ∈ l, wfP q) (hn : IsNorm l mn) (ht : Told (askS bl p mn) mm) (hf : l.find? (badM bl p) = none)
    (ho : IsNorm (allN (fun v => onc p (strOf bl v)) l) out) : mm = out := by
  refine up_eq ht.up ho.up fun z => ?_
  rw [ho.mem]
  constructor
  · intro hz
    obtain ⟨q, hq, a, ha, b, hb, rfl, hab⟩ := ask_from hn ht hf hz
    exact ⟨turn_lt.2 hab, allN_mem.2 ⟨q, hq, a, onc_vL.2 ha, b, onc_vL.2 hb, rfl⟩⟩
  · rintro ⟨_, h⟩
    obtain ⟨q, hq, a, ha, b, hb, rfl⟩ := allN_mem.1 h
    exact (ask_in hwb hwl hn ht hf hq (onc_vL.1 ha) (onc_vL.1 hb)).1
/-- A pair that is broken outright, as the document tells it. -/
def badR (xs : Int → List Int) (q : Pr) : Bool := (xs q.1).any fun x => hasI (xs q.2) x
theorem badR_iff {xs : Int → List Int} {q : Pr} : badR xs q = true ↔ ∃ x ∈ xs q.1, x ∈ xs q.2 := by
  unfold badR
  rw [List.any_eq_true]
  exact ⟨fun ⟨x, h, g⟩ => ⟨x, h, hasI_iff.1 g⟩, fun ⟨x, h, g⟩ => ⟨x, h, hasI_iff.2 g⟩⟩
theorem bad_same {bl : List (Int × List Int)} {p : Int → Bool} : badR (fun v => onc p (strOf bl v)) = badM bl p := by
  funext q
  rw [Bool.eq_iff_iff, badR_iff]
  unfold badM
  rw [meet_iff]
  constructor
  · rintro ⟨x, h, g⟩; exact ⟨x, onc_vL.1 h, onc_vL.1 g⟩
  · rintro ⟨x, h, g⟩; exact ⟨x, onc_vL.2 h, onc_vL.2 g⟩
/-- A pair that is kept: no variable on both sides, and all that it asks for is there. -/
def keptR (xs : Int → List Int) (h : List Pr) (q : Pr) : Bool := !badR xs q && (askL (xs q.1) (xs q.2)).all fun z => hasP h z
theorem kept_same {bl : List (Int × List Int)} {p : Int → Bool} {hv : List Pr} (q : Pr) : (!keptR (fun v => onc p (strOf bl v)) hv q) = badH bl p hv q := by
  unfold badH keptR
  rw [bad_same, Bool.not_eq_eq_eq_not, Bool.not_not, Bool.eq_iff_iff, Bool.and_eq_true, each_iff, List.all_eq_true, Bool.not_eq_true']
  constructor
  · rintro ⟨h1, h2⟩ a ha b hb
    have hab : a ≠ b := fun e => by
      subst e
      have : badM bl p q = true := meet_iff.2 ⟨a, ha, hb⟩
      rw [h1] at this
      cases this
    obtain ⟨r, hr, e⟩ := hasP_iff.1 (h2 (a, b) (askL_mem.2 ⟨onc_vL.2 ha, onc_vL.2 hb⟩))
    exact had_iff.2 ⟨turn_lt.2 hab, r, hr, e⟩
  · intro h
    refine ⟨?_, fun z hz => ?_⟩
    · rw [← Bool.not_eq_true]
      intro hb
      obtain ⟨a, h1, h2⟩ := meet_iff.1 hb
      have := (had_iff.1 (h a h1 a h2)).1
      unfold turnP at this
      simp at this
    · obtain ⟨h1, h2⟩ := askL_mem.1 hz
      obtain ⟨_, r, hr, e⟩ := had_iff.1 (h z.1 (onc_vL.1 h1) z.2 (onc_vL.1 h2))
      exact hasP_iff.2 ⟨r, hr, e⟩
theorem breach_same {bl : List (Int × List Int)} {p : Int → Bool} {l hv : List Pr} : l.find? (fun q => !keptR (fun v => onc p (strOf bl v)) hv q) = l.find? (badH bl p hv) := find_ext fun q _ => kept_same q
theorem find_take {l : List Pr} {f : Pr → Bool} {j : Nat} {q : Pr} (h : ∀ z ∈ l.take j, f z = false) (hq : l[j]? = some q) (hf : f q = true) : l.find? f = some q := by
  obtain ⟨hj, rfl⟩ := List.getElem?_eq_some_iff.1 hq
  rw [List.find?_eq_some_iff_getElem]
  refine ⟨hf, j, hj, rfl, fun i hi => ?_⟩
  have := h l[i] (List.mem_iff_getElem.2 ⟨i, by rw [List.length_take]; omega, by simp⟩)
  simp [this]
theorem all_step (f : Pr → Bool) (Z : List Pr) (j : Nat) (z : Pr) (hz : Z[j]? = some z) : (Z.take (j + 1)).all f = ((Z.take j).all f && f z) := by
  rw [List.take_add_one, hz, List.all_append]; simp
theorem all_cut (f : Pr → Bool) (Z : List Pr) (j : Nat) (h : (Z.take j).all f = false) : Z.all f = false := by
  rw [List.all_eq_false] at h ⊢
  obtain ⟨x, hx, hf⟩ := h
  exact ⟨x, List.mem_of_mem_take hx, hf⟩
end Go.Proofs.YtjaccgkeldabfaaGreat
