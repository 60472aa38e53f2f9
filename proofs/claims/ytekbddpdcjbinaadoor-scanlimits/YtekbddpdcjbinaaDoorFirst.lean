/- What stands behind the first fault changes nothing: said without the program. -/
import Derived.Test.YtekbddpdcjbinaaDoorEvents
import Derived.Lib.SmallJoins
namespace Go.Proofs.YtekbddpdcjbinaaDoor

/-- What comes of a stretch of bytes, and where it leads. -/
def evsTo (s : ByteArray) : List UInt8 → Nat → Nat → Nat → Nat → List (Tok × Int) × Option (Nat × Nat × Nat × Nat)
  | [], k, start, line, ls => ([], some (k, start, line, ls))
  | c :: rest, k, start, line, ls =>
    if codeAt k c = 0 then
      if kindF c.toNat = 1 then
        ((if start < k then [(wordAt s start k line ls, 0)] else []) ++ (evsTo s rest (k + 1) (k + 1) (if c = 10 then line + 1 else line) (if c = 10 then k + 1 else ls)).1,
          (evsTo s rest (k + 1) (k + 1) (if c = 10 then line + 1 else line) (if c = 10 then k + 1 else ls)).2)
      else evsTo s rest (k + 1) start line ls
    else ([(⟨⟨#[]⟩, k, line, k - ls + 1⟩, codeAt k c)], none)
/-- What comes behind a stretch. -/
def evsGo (s : ByteArray) (p : List (Tok × Int) × Option (Nat × Nat × Nat × Nat)) (b : List UInt8) : List (Tok × Int) :=
  match p.2 with
  | none => p.1
  | some (k, start, line, ls) => p.1 ++ evs s b k start line ls

theorem evs_append (s : ByteArray) (a b : List UInt8) : ∀ k start line ls, evs s (a ++ b) k start line ls = evsGo s (evsTo s a k start line ls) b := by
  induction a with
  | nil => intro k start line ls; simp [evsTo, evsGo]
  | cons c rest ih =>
    intro k start line ls
    simp only [List.cons_append, evs, evsTo]
    split
    · split
      · rw [ih]
        unfold evsGo
        dsimp only
        cases (evsTo s rest (k + 1) (k + 1) (if c = 10 then line + 1 else line) (if c = 10 then k + 1 else ls)).2 with
        | none => rfl
        | some q => simp
      · exact ih _ _ _ _
    · rfl

theorem extract_congr {s s' : ByteArray} {k : Nat} (h : s.data.toList.take k = s'.data.toList.take k) (start : Nat) : s.extract start k = s'.extract start k := by
  apply ByteArray.ext
  apply Array.toList_inj.1
  rw [Lib.extract_data, Lib.extract_data, ← List.drop_take, ← List.drop_take, h]
theorem take_less {s s' : ByteArray} {k j : Nat} (h : s.data.toList.take j = s'.data.toList.take j) (hk : k ≤ j) : s.data.toList.take k = s'.data.toList.take k := by
  have := congrArg (List.take k) h
  rwa [List.take_take, List.take_take, Nat.min_eq_left hk] at this
/-- A stretch within bytes that two texts share comes to the same. -/
theorem evsTo_congr {s s' : ByteArray} {j : Nat} (h : s.data.toList.take j = s'.data.toList.take j) (a : List UInt8) : ∀ k start line ls, k + a.length ≤ j → evsTo s a k start line ls = evsTo s' a k start line ls := by
  induction a with
  | nil => intros; rfl
  | cons c rest ih =>
    intro k start line ls hk
    simp only [List.length_cons] at hk
    simp only [evsTo]
    have hw : wordAt s start k line ls = wordAt s' start k line ls := by unfold wordAt; rw [extract_congr (take_less h (by omega))]
    rw [hw, ih (k + 1) (k + 1) _ _ (by omega), ih (k + 1) start line ls (by omega)]

/-- A byte at which the text may not go on. -/
theorem evs_byte (s : ByteArray) (l : List UInt8) : ∀ k start line ls (t : Tok) (c : Int), c ≠ 0 → (t, c) ∈ evs s l k start line ls →
    ∃ k' : Nat, t.off = k' ∧ t.text = ⟨#[]⟩ ∧ k ≤ k' ∧ k' < k + l.length ∧ evsTo s (l.take (k' + 1 - k)) k start line ls = (evs s l k start line ls, none) := by
  induction l with
  | nil =>
    intro k start line ls t c hc hm
    simp only [evs] at hm
    split at hm
    · simp at hm; exact absurd hm.2 hc
    · simp at hm
  | cons b rest ih =>
    intro k start line ls t c hc hm
    simp only [evs] at hm ⊢
    split at hm
    · rename_i h0
      split at hm
      · rename_i h1
        rw [List.mem_append] at hm
        rcases hm with hm | hm
        · split at hm
          · simp at hm; exact absurd hm.2 hc
          · simp at hm
        · obtain ⟨k', e1, e2, e3, e4, e5⟩ := ih _ _ _ _ t c hc hm
          refine ⟨k', e1, e2, by omega, by simp; omega, ?_⟩
          rw [show k' + 1 - k = (k' + 1 - (k + 1)) + 1 by omega, List.take_succ_cons, evsTo, if_pos h0, if_pos h1, e5, if_pos h0, if_pos h1]
      · rename_i h1
        obtain ⟨k', e1, e2, e3, e4, e5⟩ := ih _ _ _ _ t c hc hm
        refine ⟨k', e1, e2, by omega, by simp; omega, ?_⟩
        rw [show k' + 1 - k = (k' + 1 - (k + 1)) + 1 by omega, List.take_succ_cons, evsTo, if_pos h0, if_neg h1, e5, if_pos h0, if_neg h1]
    · rename_i h0
      simp only [List.mem_singleton, Prod.mk.injEq] at hm
      obtain ⟨rfl, rfl⟩ := hm
      refine ⟨k, rfl, rfl, by omega, by simp, ?_⟩
      rw [show k + 1 - k = 0 + 1 by omega, List.take_succ_cons, evsTo, if_neg h0, if_neg h0]

/-- A word: all ahead of it came of the bytes ahead of its end. -/
theorem evs_word (s : ByteArray) (l : List UInt8) : ∀ k start line ls (o : List (Tok × Int)) (t : Tok), o ++ [(t, 0)] <+: evs s l k start line ls →
    ∃ (kk st' ln' ls' : Nat), k ≤ kk ∧ kk ≤ k + l.length ∧ st' < kk ∧ t = wordAt s st' kk ln' ls' ∧ evsTo s (l.take (kk - k)) k start line ls = (o, some (kk, st', ln', ls')) := by
  induction l with
  | nil =>
    intro k start line ls o t hp
    simp only [evs] at hp
    split at hp
    · rename_i hlt
      have ho : o = [] := by
        have := hp.length_le
        simp at this
        exact this
      subst ho
      simp at hp
      exact ⟨k, start, line, ls, Nat.le_refl _, by simp, hlt, hp, by simp [evsTo]⟩
    · simp at hp
  | cons b rest ih =>
    intro k start line ls o t hp
    simp only [evs] at hp
    split at hp
    · rename_i h0
      split at hp
      · rename_i h1
        have go : ∀ o', o' ++ [(t, 0)] <+: evs s rest (k + 1) (k + 1) (if b = 10 then line + 1 else line) (if b = 10 then k + 1 else ls) → o = (if start < k then [(wordAt s start k line ls, 0)] else []) ++ o' →
            ∃ (kk st' ln' ls' : Nat), k ≤ kk ∧ kk ≤ k + (b :: rest).length ∧ st' < kk ∧ t = wordAt s st' kk ln' ls' ∧ evsTo s ((b :: rest).take (kk - k)) k start line ls = (o, some (kk, st', ln', ls')) := by
          intro o' ho' he
          obtain ⟨kk, st', ln', ls', e1, e2, e3, e4, e5⟩ := ih _ _ _ _ o' t ho'
          refine ⟨kk, st', ln', ls', by omega, by simp; omega, e3, e4, ?_⟩
          rw [show kk - k = (kk - (k + 1)) + 1 by omega, List.take_succ_cons, evsTo, if_pos h0, if_pos h1, e5, he]
        by_cases hlt : start < k
        · rw [if_pos hlt] at hp go
          cases o with
          | nil =>
            simp only [List.nil_append, List.singleton_append, List.cons_prefix_cons, List.nil_prefix, and_true, Prod.mk.injEq] at hp
            exact ⟨k, start, line, ls, Nat.le_refl _, by simp, hlt, hp, by simp [evsTo]⟩
          | cons y o' =>
            simp only [List.cons_append, List.nil_append, List.cons_prefix_cons] at hp
            exact go o' hp.2 (by rw [hp.1]; rfl)
        · rw [if_neg hlt] at hp go
          exact go o hp (by simp)
      · rename_i h1
        obtain ⟨kk, st', ln', ls', e1, e2, e3, e4, e5⟩ := ih _ _ _ _ o t hp
        refine ⟨kk, st', ln', ls', by omega, by simp; omega, e3, e4, ?_⟩
        rw [show kk - k = (kk - (k + 1)) + 1 by omega, List.take_succ_cons, evsTo, if_pos h0, if_neg h1, e5]
    · rename_i h0
      have ho : o = [] := by
        have := hp.length_le
        simp at this
        exact this
      subst ho
      simp at hp
      exact absurd hp.2.symm h0

/-- Where the reader ends. -/
theorem runF_stops (es : List (Tok × Int)) : ∀ (r r' : Rd) (f : Tok × Int), runF r es = (r', some f) → ∃ o x, o ++ [x] <+: es ∧ runF r (o ++ [x]) = (r', some f) ∧ (x.2 ≠ 0 ∧ f = x ∨ x.2 = 0 ∧ f.1 = x.1) := by
  induction es with
  | nil => intro r r' f h; simp [runF] at h
  | cons x es ih =>
    intro r r' f h
    obtain ⟨t, c⟩ := x
    by_cases hc : c = 0
    · by_cases h1 : (takeF r t).1 = 0
      · have h' : runF (takeF r t).2 es = (r', some f) := by rw [runF, if_pos hc, if_pos h1] at h; exact h
        obtain ⟨o, x, e1, e2, e3⟩ := ih _ _ _ h'
        refine ⟨(t, c) :: o, x, ?_, ?_, e3⟩
        · simpa using e1
        · rw [List.cons_append, runF, if_pos hc, if_pos h1]; exact e2
      · have h' : ((takeF r t).2, some (t, (takeF r t).1)) = (r', some f) := by rw [runF, if_pos hc, if_neg h1] at h; exact h
        simp only [Prod.mk.injEq, Option.some.injEq] at h'
        refine ⟨[], (t, c), by simp, ?_, .inr ⟨hc, by rw [← h'.2]⟩⟩
        rw [List.nil_append, runF, if_pos hc, if_neg h1, h'.1, h'.2]
    · have h' : (r, some (t, c)) = (r', some f) := by rw [runF, if_neg hc] at h; exact h
      simp only [Prod.mk.injEq, Option.some.injEq] at h'
      refine ⟨[], (t, c), by simp, ?_, .inl ⟨hc, h'.2.symm⟩⟩
      rw [List.nil_append, runF, if_neg hc, h'.1, h'.2]

theorem take_head (s u : ByteArray) (j : Nat) (hj : j ≤ s.size) : (s.extract 0 j ++ u).data.toList.take j = s.data.toList.take j := by
  rw [Joins.data_append, data_ext, List.take_append_of_le_length (by simp; omega), List.take_take, Nat.min_self]
theorem drop_head (s u : ByteArray) (j : Nat) (hj : j ≤ s.size) : (s.extract 0 j ++ u).data.toList.drop j = u.data.toList := by
  rw [Joins.data_append, data_ext, List.drop_append_of_le_length (by simp; omega), List.drop_take, Nat.sub_self, List.take_zero, List.nil_append]
theorem events_split (s : ByteArray) (j : Nat) : events s = evsGo s (evsTo s (s.data.toList.take j) 0 0 1 0) (s.data.toList.drop j) := by
  unfold events
  rw [← evs_append, List.take_append_drop]
/-- A scan's fault other than an open comment, and what stands in the text there. -/
theorem first_pure (s u : ByteArray) (f : Tok × Int) (h : (scanF s).2 = some f) (h12 : f.2 ≠ 12) :
    (f.1.text = ⟨#[]⟩ ∧ ∃ k : Nat, f.1.off = k ∧ k < s.size ∧ scanF (s.extract 0 (k + 1) ++ u) = scanF s) ∨
    (∃ st kk : Nat, f.1.off = st ∧ st < kk ∧ kk ≤ s.size ∧ f.1.text = s.extract st kk ∧ (kk < 65536 → scanF ((s.extract 0 kk ++ ⟨#[32]⟩) ++ u) = scanF s)) := by
  cases hr : runF rd0 (events s) with
  | mk r g =>
    cases g with
    | none =>
      exfalso
      unfold scanF at h
      rw [hr] at h
      dsimp only at h
      split at h
      · simp only [Option.some.injEq] at h; rw [← h] at h12; exact h12 rfl
      · cases h
    | some g =>
      have hF : scanF s = (r.told, some g) := by unfold scanF; rw [hr]
      rw [hF] at h
      simp only [Option.some.injEq] at h
      subst h
      obtain ⟨o, x, e1, e2, e3⟩ := runF_stops _ _ _ _ hr
      rcases e3 with ⟨hx, rfl⟩ | ⟨hx, hx1⟩
      · left
        have hmem : g ∈ events s := e1.subset (by simp)
        obtain ⟨k', a1, a2, _, a4, a5⟩ := evs_byte s s.data.toList 0 0 1 0 g.1 g.2 hx hmem
        have a4' : k' < s.size := by have : s.data.toList.length = s.size := rfl; omega
        refine ⟨a2, k', a1, a4', ?_⟩
        have ht := take_head s u (k' + 1) (by omega)
        have hev : events (s.extract 0 (k' + 1) ++ u) = events s := by
          rw [events_split _ (k' + 1), ht, ← evsTo_congr ht.symm _ 0 0 1 0 (by simp; omega)]
          simp only [Nat.sub_zero] at a5
          rw [a5]; rfl
        unfold scanF
        rw [hev]
      · right
        obtain ⟨t, c⟩ := x
        dsimp only at hx hx1
        subst hx
        obtain ⟨kk, st', ln', ls', b1, b2, b3, b4, b5⟩ := evs_word s s.data.toList 0 0 1 0 o t e1
        have b2' : kk ≤ s.size := by have : s.data.toList.length = s.size := rfl; omega
        refine ⟨st', kk, by rw [hx1, b4]; rfl, b3, b2', by rw [hx1, b4]; rfl, fun hk6 => ?_⟩
        have ha : (s.extract 0 kk ++ ⟨#[32]⟩) ++ u = s.extract 0 kk ++ (⟨#[32]⟩ ++ u) := ByteArray.append_assoc
        rw [ha]
        have ht := take_head s (⟨#[32]⟩ ++ u) kk b2'
        have hd := drop_head s (⟨#[32]⟩ ++ u) kk b2'
        simp only [Nat.sub_zero] at b5
        have hev : o ++ [(t, 0)] <+: events (s.extract 0 kk ++ (⟨#[32]⟩ ++ u)) := by
          rw [events_split _ kk, ht, hd, ← evsTo_congr ht.symm _ 0 0 1 0 (by simp; omega), b5]
          unfold evsGo
          dsimp only
          rw [Joins.data_append]
          have hc0 : codeAt kk 32 = 0 := by unfold codeAt; rw [if_neg (by omega), if_neg (by decide)]
          have hw : wordAt (s.extract 0 kk ++ (⟨#[32]⟩ ++ u)) st' kk ln' ls' = t := by rw [b4]; unfold wordAt; rw [extract_congr ht]
          show _ <+: o ++ evs _ (32 :: u.data.toList) kk st' ln' ls'
          rw [evs, if_pos hc0, if_pos (by decide), if_pos b3, hw, ← List.append_assoc]
          exact List.prefix_append _ _
        obtain ⟨z, hz⟩ := hev
        rw [hF]
        unfold scanF
        rw [← hz, runF_append, e2]
end Go.Proofs.YtekbddpdcjbinaaDoor
