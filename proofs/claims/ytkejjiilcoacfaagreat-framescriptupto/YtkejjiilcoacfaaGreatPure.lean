/- Pairs of numbers in order (pure). -/
namespace Go.Proofs.YtkejjiilcoacfaaGreat

abbrev Pr := Int × Int
/-- The order of pairs: by the first, then by the second. -/
def ltP (p q : Pr) : Prop := p.1 < q.1 ∨ (p.1 = q.1 ∧ p.2 < q.2)
instance (p q : Pr) : Decidable (ltP p q) := by unfold ltP; infer_instance
theorem ltP_irrefl (p : Pr) : ¬ ltP p p := by unfold ltP; omega
theorem ltP_trans {p q r : Pr} (h : ltP p q) (g : ltP q r) : ltP p r := by unfold ltP at *; omega
theorem ltP_total {p q : Pr} (h : p ≠ q) : ltP p q ∨ ltP q p := by
  unfold ltP
  by_cases h1 : p.1 = q.1
  · have h2 : p.2 ≠ q.2 := fun e => h (Prod.ext h1 e)
    omega
  · omega
theorem ltP_asymm {p q : Pr} (h : ltP p q) : ¬ ltP q p := by unfold ltP at *; omega
/-- In order, none twice. -/
abbrev Up (l : List Pr) : Prop := l.Pairwise ltP
theorem up_eq : ∀ {l m : List Pr}, Up l → Up m → (∀ p, p ∈ l ↔ p ∈ m) → l = m
  | [], [], _, _, _ => rfl
  | [], q :: m, _, _, h => absurd ((h q).2 (by simp)) (by simp)
  | p :: l, [], _, _, h => absurd ((h p).1 (by simp)) (by simp)
  | p :: l, q :: m, h1, h2, h => by
    obtain ⟨a1, a2⟩ := List.pairwise_cons.1 h1
    obtain ⟨b1, b2⟩ := List.pairwise_cons.1 h2
    have e : p = q := by
      rcases List.mem_cons.1 ((h p).1 (by simp)) with e | hp
      · exact e
      · rcases List.mem_cons.1 ((h q).2 (by simp)) with e | hq
        · exact e.symm
        · exact absurd (a1 q hq) (ltP_asymm (b1 p hp))
    subst e
    rw [up_eq a2 b2 fun x => ?_]
    constructor
    · intro hx
      rcases List.mem_cons.1 ((h x).1 (by simp [hx])) with e | h'
      · subst e; exact absurd (a1 x hx) (ltP_irrefl x)
      · exact h'
    · intro hx
      rcases List.mem_cons.1 ((h x).2 (by simp [hx])) with e | h'
      · subst e; exact absurd (b1 x hx) (ltP_irrefl x)
      · exact h'
/-- A below B, where they differ. -/
def turnP (p : Pr) : Pr := (min p.1 p.2, max p.1 p.2)
theorem turn_turn (p : Pr) : turnP (turnP p) = turnP p := by unfold turnP; ext <;> simp <;> omega
/-- What is told of a list of pairs in order. -/
def inN (l : List Pr) (p : Pr) : Prop := p.1 < p.2 ∧ ∃ q ∈ l, turnP q = p
structure IsNorm (l m : List Pr) : Prop where
  up : Up m
  mem : ∀ p, p ∈ m ↔ inN l p
theorem norm_one {l m m' : List Pr} (h : IsNorm l m) (h' : IsNorm l m') : m = m' := up_eq h.up h'.up fun p => (h.mem p).trans (h'.mem p).symm
theorem turn_id {p : Pr} (h : p.1 ≤ p.2) : turnP p = p := by unfold turnP; ext <;> simp <;> omega
/-- Above all that has been told. -/
def above (out : List Pr) (p : Pr) : Prop := ∀ q ∈ out, ltP q p
/-- What has been told so far of a list, from the front. -/
structure Part (l out : List Pr) : Prop where
  up : Up out
  mem : ∀ p ∈ out, inN l p
  all : ∀ p, inN l p → p ∈ out ∨ above out p
theorem part_nil (l : List Pr) : Part l [] := ⟨List.Pairwise.nil, by simp, fun p _ => .inr fun q hq => by simp at hq⟩
theorem part_snoc {l out : List Pr} {m : Pr} (h : Part l out) (hm : inN l m) (ha : above out m) (hl : ∀ p, inN l p → above out p → p = m ∨ ltP m p) : Part l (out ++ [m]) := by
  refine ⟨List.pairwise_append.2 ⟨h.up, by simp, fun q hq r hr => by simp at hr; subst hr; exact ha q hq⟩, fun p hp => ?_, fun p hp => ?_⟩
  · rcases List.mem_append.1 hp with hp | hp
    · exact h.mem p hp
    · simp at hp; subst hp; exact hm
  · rcases h.all p hp with h1 | h1
    · exact .inl (by simp [h1])
    · rcases hl p hp h1 with rfl | h2
      · exact .inl (by simp)
      · refine .inr fun q hq => ?_
        rcases List.mem_append.1 hq with hq | hq
        · exact h1 q hq
        · simp at hq; subst hq; exact h2
theorem part_done {l out : List Pr} (h : Part l out) (hn : ∀ p, inN l p → ¬ above out p) : IsNorm l out :=
  ⟨h.up, fun p => ⟨h.mem p, fun hp => (h.all p hp).resolve_right (hn p hp)⟩⟩
theorem up_nodup {l : List Pr} (h : Up l) : l.Nodup := h.imp fun {a b} hab e => by subst e; exact ltP_irrefl a hab
theorem nodup_le {α : Type} [DecidableEq α] : ∀ {l m : List α}, l.Nodup → (∀ x ∈ l, x ∈ m) → l.length ≤ m.length
  | [], _, _, _ => Nat.zero_le _
  | a :: l, m, h, hs => by
    obtain ⟨h1, h2⟩ := List.nodup_cons.1 h
    have ha : a ∈ m := hs a (by simp)
    have := nodup_le (m := m.erase a) h2 fun x hx => by
      have hne : x ≠ a := fun e => h1 (e ▸ hx)
      exact (List.mem_erase_of_ne hne).2 (hs x (by simp [hx]))
    rw [List.length_erase_of_mem ha] at this
    have hpos : 0 < m.length := List.length_pos_of_mem ha
    simp only [List.length_cons]
    omega
theorem part_len {l out : List Pr} (h : Part l out) : out.length ≤ l.length := by
  have := nodup_le (l := out) (m := l.map turnP) (up_nodup h.up) fun p hp => by
    obtain ⟨_, q, hq, e⟩ := h.mem p hp
    exact List.mem_map.2 ⟨q, hq, e⟩
  simpa using this
theorem above_last {out : List Pr} (h : Up out) {p : Pr} : above out p ↔ ∀ q, out.getLast? = some q → ltP q p := by
  constructor
  · intro ha q hq
    exact ha q (List.mem_of_getLast? hq)
  · intro ha q hq
    rcases List.eq_nil_or_concat out with rfl | ⟨r, z, rfl⟩
    · simp at hq
    · have hz : ltP z p := ha z (by simp)
      rw [List.concat_eq_append] at hq h
      rcases List.mem_append.1 hq with hq | hq
      · have := (List.pairwise_append.1 h).2.2 q hq z (by simp)
        exact ltP_trans this hz
      · simp at hq; subst hq; exact hz
end Go.Proofs.YtkejjiilcoacfaaGreat
