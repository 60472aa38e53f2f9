/- Every word that a scan tells stands in the text where it says, between blanks, in the text's order; the fault too: said without the program. -/
import Derived.Test.YtipfhfeaalbmcaaDoorKScanB
namespace Go.Proofs.YtipfhfeaalbmcaaDoor.K

theorem inCmt_data (r : Rd) : inCmt r = !r.opn.text.data.toList.isEmpty := by
  unfold inCmt
  rw [ByteArray.toList_eq]
/-- The byte number i is of a kind (nothing is asked where there is none). -/
def KindAt (s : ByteArray) (i : Nat) (p : Int → Prop) : Prop := ∀ h : i < s.size, p (kindF (s[i]'h).toNat)
/-- A word that stands in a text from the byte n up to the byte m. -/
structure Stands (s : ByteArray) (t : Tok) (n m : Nat) : Prop where
  off : t.off = n
  lt : n < m
  le : m ≤ s.size
  le6 : m ≤ 65536
  text : t.text = s.extract n m
  line : t.line = lineL (s.data.toList.take n)
  col : t.col = colL (s.data.toList.take n)
  word : ∀ i, n ≤ i → i < m → KindAt s i (2 ≤ ·)
  ahead : 0 < n → KindAt s (n - 1) (· = 1)
  behind : KindAt s m (· = 1)
/-- A fault at a byte. -/
structure FaultBy (s : ByteArray) (t : Tok) (c : Int) (n : Nat) : Prop where
  text : t.text = ⟨#[]⟩
  off : t.off = n
  lt : n < s.size
  line : t.line = lineL (s.data.toList.take n)
  col : t.col = colL (s.data.toList.take n)
  code : c = 13 ∧ n = 65536 ∨ c = 10 ∧ n < 65536 ∧ KindAt s n (· = 0)
/-- What comes of a text from the byte p on. -/
inductive Chain (s : ByteArray) : Nat → List (Tok × Int) → Prop
  | done {p : Nat} : s.size ≤ 65536 → Chain s p []
  | word {p n m : Nat} {t : Tok} {es : List (Tok × Int)} : p ≤ n → Stands s t n m → Chain s (m + 1) es → Chain s p ((t, 0) :: es)
  | fault {p n : Nat} {t : Tok} {c : Int} : p ≤ n → FaultBy s t c n → Chain s p [(t, c)]
theorem Chain.less {s : ByteArray} {p q : Nat} {es : List (Tok × Int)} (h : Chain s p es) (hq : q ≤ p) : Chain s q es := by
  cases h with
  | done h => exact .done h
  | word a b c => exact .word (Nat.le_trans hq a) b c
  | fault a b => exact .fault (Nat.le_trans hq a) b

theorem evs_chain (s : ByteArray) : ∀ (j k start : Nat) (line ls : Nat), k + j = s.size → k ≤ 65536 → start ≤ k → line = lineL (s.data.toList.take k) → line = lineL (s.data.toList.take start) →
    (colL (s.data.toList.take k) : Int) = k - ls + 1 → (colL (s.data.toList.take start) : Int) = start - ls + 1 → (∀ i, start ≤ i → i < k → KindAt s i (2 ≤ ·)) → (0 < start → KindAt s (start - 1) (· = 1)) →
    Chain s start (evs s (s.data.toList.drop k) k start line ls) := by
  intro j
  induction j with
  | zero =>
    intro k start line ls hk hK hs hl1 hl2 hc1 hc2 hw ha
    rw [ev_end s k start line ls (by omega)]
    by_cases h : start < k
    · rw [if_pos h]
      exact .word (Nat.le_refl _) ⟨rfl, h, by omega, by omega, rfl, by show (line : Int) = _; omega, hc2.symm, hw, ha, fun hx => by omega⟩ (.done (by omega))
    · rw [if_neg h]; exact .done (by omega)
  | succ j ih =>
    intro k start line ls hk hK hs hl1 hl2 hc1 hc2 hw ha
    have hlt : k < s.size := by omega
    have hr := kindF_range (s[k].toNat : Int) (by omega)
    by_cases hc : codeAt k s[k] = 0
    · have hk6 : k ≠ 65536 := by intro e; unfold codeAt at hc; rw [if_pos e] at hc; omega
      have hk0 : kindF s[k].toNat ≠ 0 := by intro e; unfold codeAt at hc; rw [if_neg hk6, if_pos e] at hc; omega
      by_cases hb : kindF s[k].toNat = 1
      · rw [ev_blank s k start line ls hlt hc hb]
        have hC : Chain s (k + 1) (evs s (s.data.toList.drop (k + 1)) (k + 1) (k + 1) (if s[k] = 10 then line + 1 else line) (if s[k] = 10 then k + 1 else ls)) := by
          have e1 : (if s[k] = 10 then line + 1 else line) = lineL (s.data.toList.take (k + 1)) := by
            rw [take_snoc s k hlt, lineL_snoc, ← hl1]; split <;> rfl
          have e2 : (colL (s.data.toList.take (k + 1)) : Int) = ((k + 1 : Nat) : Int) - ((if s[k] = 10 then k + 1 else ls : Nat) : Int) + 1 := by
            rw [take_snoc s k hlt, colL_snoc]
            by_cases e : s[k] = 10
            · rw [if_pos e, if_pos e]; omega
            · rw [if_neg e, if_neg e]; omega
          refine ih (k + 1) (k + 1) _ _ (by omega) (by omega) (Nat.le_refl _) e1 e1 e2 e2 (fun i h1 h2 => by omega) (fun _ h => ?_)
          simpa using hb
        by_cases h : start < k
        · rw [if_pos h]
          exact .word (Nat.le_refl _) ⟨rfl, h, by omega, by omega, rfl, by show (line : Int) = _; omega, hc2.symm, hw, ha, fun _ => hb⟩ hC
        · rw [if_neg h]; exact hC.less (by omega)
      · rw [ev_skip s k start line ls hlt hc hb]
        have hn : s[k] ≠ 10 := by intro e; rw [e] at hb; exact hb (by decide)
        refine ih (k + 1) start line ls (by omega) (by omega) (by omega) ?_ hl2 ?_ hc2 (fun i h1 h2 => ?_) ha
        · rw [take_snoc s k hlt, lineL_snoc, if_neg hn]; omega
        · rw [take_snoc s k hlt, colL_snoc, if_neg hn]; omega
        · by_cases e : i = k
          · subst e; intro _; show (2 : Int) ≤ _; omega
          · exact hw i h1 (by omega)
    · rw [ev_fault s k start line ls hlt hc]
      refine .fault (n := k) hs ⟨rfl, rfl, hlt, by show (line : Int) = _; omega, hc1.symm, ?_⟩
      unfold codeAt
      by_cases e : k = 65536
      · rw [if_pos e]; exact .inl ⟨rfl, e⟩
      · rw [if_neg e]
        by_cases e0 : kindF s[k].toNat = 0
        · rw [if_pos e0]; exact .inr ⟨rfl, by omega, fun _ => e0⟩
        · exact absurd (by unfold codeAt; rw [if_neg e, if_neg e0]) hc
theorem events_chain (s : ByteArray) : Chain s 0 (events s) := by
  unfold events
  have := evs_chain s s.size 0 0 1 0 (by omega) (by omega) (Nat.le_refl _) rfl rfl (by rfl) (by rfl) (fun i h1 h2 => by omega) (fun h => by omega)
  simpa using this

/-- The words that were told, ahead of the byte q. -/
inductive ToldTo (s : ByteArray) : Nat → List Tok → Prop
  | nil {q : Nat} : ToldTo s q []
  | snoc {p q n m : Nat} {l : List Tok} {t : Tok} : ToldTo s p l → p ≤ n → Stands s t n m → isOpen t.text = false → isShut t.text = false → m < q → ToldTo s q (l ++ [t])
theorem ToldTo.more {s : ByteArray} {p q : Nat} {l : List Tok} (h : ToldTo s p l) (hq : p ≤ q) : ToldTo s q l := by
  cases h with
  | nil => exact .nil
  | snoc a b c d e f => exact .snoc a b c d e (Nat.lt_of_lt_of_le f hq)
theorem ToldTo.last {s : ByteArray} {q : Nat} {l : List Tok} (h : ToldTo s q l) (t : Tok) (ht : l[l.length - 1]? = some t) : ∃ n m, Stands s t n m ∧ m < q := by
  cases h with
  | nil => simp at ht
  | snoc a b c d e f =>
    simp only [List.length_append, List.length_singleton, Nat.add_sub_cancel, List.getElem?_concat_length, Option.some.injEq] at ht
    subst ht
    exact ⟨_, _, c, f⟩
theorem ToldTo.at {s : ByteArray} {q : Nat} {l : List Tok} (h : ToldTo s q l) : ∀ (i : Nat) (t : Tok), l[i]? = some t →
    ∃ n m, Stands s t n m ∧ isOpen t.text = false ∧ isShut t.text = false ∧ ∀ t', 0 < i → l[i - 1]? = some t' → ∃ n' m', Stands s t' n' m' ∧ m' < n := by
  induction h with
  | nil => intro i t h; simp at h
  | @snoc p q n m l x a b c d e f ih =>
    intro i t ht
    by_cases hi : i < l.length
    · rw [List.getElem?_append_left hi] at ht
      obtain ⟨n, m, h1, h2, h3, h4⟩ := ih i t ht
      refine ⟨n, m, h1, h2, h3, fun t' h0 ht' => h4 t' h0 ?_⟩
      rwa [List.getElem?_append_left (by omega)] at ht'
    · have hi' : i = l.length := by
        have := (List.getElem?_eq_some_iff.1 ht).1
        simp only [List.length_append, List.length_singleton] at this
        omega
      subst hi'
      simp only [List.getElem?_concat_length, Option.some.injEq] at ht
      subst ht
      refine ⟨n, m, c, d, e, fun t' h0 ht' => ?_⟩
      rw [List.getElem?_append_left (by omega)] at ht'
      obtain ⟨n', m', h1, h2⟩ := a.last t' ht'
      exact ⟨n', m', h1, by omega⟩

/-- What a fault may be. -/
def FaultOf (s : ByteArray) (told : List Tok) (t : Tok) (c : Int) : Prop :=
  (∃ q n, ToldTo s q told ∧ q ≤ n ∧ FaultBy s t c n) ∨ ∃ q n m, ToldTo s q told ∧ q ≤ n ∧ Stands s t n m ∧ (c = 11 ∨ c = 12 ∧ isOpen t.text = true ∨ c = 13 ∧ told.length = 16384)
def OpnOf (s : ByteArray) (r : Rd) : Prop := inCmt r = true → isOpen r.opn.text = true ∧ ∃ q n m, ToldTo s q r.told ∧ q ≤ n ∧ Stands s r.opn n m

theorem takeC_code (o t : Tok) : (takeC o t).1 = 0 ∨ (takeC o t).1 = 11 := by
  unfold takeC; split
  · exact .inl rfl
  · split
    · exact .inr rfl
    · exact .inl rfl
theorem takeC_opn (o t : Tok) : (takeC o t).2 = o ∨ (takeC o t).2 = zeroTok := by
  unfold takeC; split
  · exact .inr rfl
  · split
    · exact .inl rfl
    · exact .inl rfl
theorem run_chain (s : ByteArray) : ∀ (es : List (Tok × Int)) (p : Nat) (r : Rd), Chain s p es → ToldTo s p r.told → OpnOf s r →
    (∃ q, ToldTo s q (runF r es).1.told) ∧ OpnOf s (runF r es).1 ∧ ((runF r es).2 = none → s.size ≤ 65536) ∧ ∀ t c, (runF r es).2 = some (t, c) → FaultOf s (runF r es).1.told t c := by
  intro es
  induction es with
  | nil =>
    intro p r hC hT hO
    cases hC with
    | done h => exact ⟨⟨p, hT⟩, hO, fun _ => h, fun t c h => by cases h⟩
  | cons e es ih =>
    intro p r hC hT hO
    cases hC with
    | fault hpn hf =>
      rename_i n t c
      have hne : c ≠ 0 := by rcases hf.code with ⟨h, _⟩ | ⟨h, _⟩ <;> omega
      simp only [runF, if_neg hne]
      exact ⟨⟨p, hT⟩, hO, fun h => (by cases h), fun t' c' h => by cases h; exact .inl ⟨p, n, hT, hpn, hf⟩⟩
    | word hp hs hC =>
      rename_i n m t
      simp only [runF, if_true]
      have hnm := hs.lt
      by_cases hin : inCmt r = true
      · have e1 : takeF r t = ((takeC r.opn t).1, { r with opn := (takeC r.opn t).2 }) := by unfold takeF; rw [if_pos hin]
        have hO' : OpnOf s { r with opn := (takeC r.opn t).2 } := by
          intro h
          rcases takeC_opn r.opn t with e | e
          · simp only [e]; exact hO hin
          · simp only [inCmt_data, e] at h; exact absurd h (by decide)
        rw [e1]
        by_cases hc : (takeC r.opn t).1 = 0
        · simp only [hc, if_true]
          exact ih _ _ hC (hT.more (by omega)) hO'
        · simp only [if_neg hc]
          have h11 : (takeC r.opn t).1 = 11 := (takeC_code r.opn t).resolve_left hc
          exact ⟨⟨p, hT⟩, hO', fun h => (by cases h), fun t' c' h => by cases h; exact .inr ⟨p, n, m, hT, hp, hs, .inl h11⟩⟩
      · by_cases ho : isOpen t.text = true
        · have e1 : takeF r t = (0, { r with opn := t }) := by unfold takeF; rw [if_neg hin, if_pos ho]
          rw [e1]
          simp only [if_true]
          exact ih _ _ hC (hT.more (by omega)) (fun _ => ⟨ho, p, n, m, hT, hp, hs⟩)
        · by_cases hsh : isShut t.text = true
          · have e1 : takeF r t = (11, r) := by unfold takeF; rw [if_neg hin, if_neg ho, if_pos hsh]
            rw [e1]
            simp only [show ¬ (11 : Int) = 0 by omega, if_false]
            exact ⟨⟨p, hT⟩, hO, fun h => (by cases h), fun t' c' h => by cases h; exact .inr ⟨p, n, m, hT, hp, hs, .inl rfl⟩⟩
          · by_cases hl : r.told.length = 16384
            · have e1 : takeF r t = (13, r) := by unfold takeF; rw [if_neg hin, if_neg ho, if_neg hsh, if_pos hl]
              rw [e1]
              simp only [show ¬ (13 : Int) = 0 by omega, if_false]
              exact ⟨⟨p, hT⟩, hO, fun h => (by cases h), fun t' c' h => by cases h; exact .inr ⟨p, n, m, hT, hp, hs, .inr (.inr ⟨rfl, hl⟩)⟩⟩
            · have e1 : takeF r t = (0, { r with told := r.told ++ [t] }) := by unfold takeF; rw [if_neg hin, if_neg ho, if_neg hsh, if_neg hl]
              rw [e1]
              simp only [if_true]
              exact ih _ _ hC (.snoc hT hp hs (by simpa using ho) (by simpa using hsh) (Nat.lt_succ_self m)) (fun h => absurd h hin)

/-- What a scan tells stands where it says. -/
theorem scan_stands (s : ByteArray) : (∃ q, ToldTo s q (scanF s).1) ∧ ((scanF s).2 = none → s.size ≤ 65536) ∧ ∀ t c, (scanF s).2 = some (t, c) → FaultOf s (scanF s).1 t c := by
  obtain ⟨h1, h2, h3, h4⟩ := run_chain s (events s) 0 rd0 (events_chain s) .nil (fun h => absurd h (by rw [inCmt_data]; decide))
  unfold scanF
  generalize hR : runF rd0 (events s) = R at h1 h2 h3 h4 ⊢
  obtain ⟨r, f⟩ := R
  cases f with
  | some f => exact ⟨h1, fun h => (by cases h), h4⟩
  | none =>
    refine ⟨h1, fun _ => h3 rfl, fun t c h => ?_⟩
    simp only at h
    by_cases hin : inCmt r = true
    · rw [if_pos hin] at h
      cases h
      obtain ⟨ho, q, n, m, hT, hp, hs⟩ := h2 hin
      exact .inr ⟨q, n, m, hT, hp, hs, .inr (.inl ⟨rfl, ho⟩)⟩
    · rw [if_neg hin] at h; cases h
theorem takeF_told (r : Rd) (t : Tok) (h : r.told.length ≤ 16384) : (takeF r t).2.told.length ≤ 16384 := by
  unfold takeF
  split
  · exact h
  · split
    · exact h
    · split
      · exact h
      · split
        · exact h
        · simp; omega
theorem runF_told : ∀ (es : List (Tok × Int)) (r : Rd), r.told.length ≤ 16384 → (runF r es).1.told.length ≤ 16384
  | [], r, h => h
  | (t, c) :: es, r, h => by
    unfold runF
    split
    · split
      · exact runF_told es _ (takeF_told r t h)
      · exact takeF_told r t h
    · exact h
theorem scanF_few (s : ByteArray) : (scanF s).1.length ≤ 16384 := by
  have h := runF_told (events s) rd0 (by decide)
  unfold scanF
  generalize runF rd0 (events s) = R at h ⊢
  obtain ⟨r, f⟩ := R
  cases f <;> exact h
end Go.Proofs.YtipfhfeaalbmcaaDoor.K
