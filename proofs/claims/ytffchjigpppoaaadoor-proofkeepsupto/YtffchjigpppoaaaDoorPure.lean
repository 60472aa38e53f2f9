/- Numbers as letters, and what letters say; own. -/
import Derived.WalkKit
namespace Go.Proofs.YtffchjigpppoaaaDoor

/-- The digits ahead of the last letter. -/
def ahead : Nat → List UInt8
  | 0 => []
  | r + 1 => ahead (r / 5) ++ [UInt8.ofNat (85 + r % 5)]
decreasing_by omega
/-- The letters of a number. -/
def enc (n : Nat) : List UInt8 := ahead (n / 20) ++ [UInt8.ofNat (65 + n % 20)]
def lim : Nat := 1125899906842624

def isD (c : UInt8) : Bool := decide (85 ≤ c.toNat ∧ c.toNat ≤ 89)
def isL (c : UInt8) : Bool := decide (65 ≤ c.toNat ∧ c.toNat ≤ 84)
/-- What a byte says that is no digit and no last letter. -/
def aloneN (c : UInt8) : Int := if c.toNat = 90 then -1 else if c.toNat = 63 then -2 else -3
/-- What is told at a byte. -/
def stepN (a : Nat) (c : UInt8) : List Int :=
  if isD c then [] else if isL c then [((min (20 * a + (c.toNat - 65)) lim : Nat) : Int)] else (if 0 < a then [-3] else []) ++ [aloneN c]
/-- Which digits are there behind a byte. -/
def stepA (a : Nat) (c : UInt8) : Nat := if isD c then min (5 * a + (c.toNat - 85) + 1) lim else 0
def numsOf (a : Nat) : List UInt8 → List Int
  | [] => []
  | c :: l => stepN a c ++ numsOf (stepA a c) l
def endA (a : Nat) (l : List UInt8) : Nat := l.foldl stepA a

theorem numsOf_append (l m : List UInt8) : ∀ a, numsOf a (l ++ m) = numsOf a l ++ numsOf (endA a l) m := by
  induction l with
  | nil => intro a; rfl
  | cons c l ih => intro a; simp only [List.cons_append, numsOf, endA, List.foldl_cons, List.append_assoc]; rw [ih]; rfl
theorem endA_append (a : Nat) (l m : List UInt8) : endA a (l ++ m) = endA (endA a l) m := by simp [endA]
theorem stepA_le (a : Nat) (c : UInt8) : stepA a c ≤ lim := by unfold stepA; split <;> omega
theorem endA_le (l : List UInt8) : ∀ a, a ≤ lim → endA a l ≤ lim := by
  induction l with
  | nil => intro a h; exact h
  | cons c l ih => intro a _; exact ih _ (stepA_le a c)
theorem stepN_len (a : Nat) (c : UInt8) : (stepN a c).length ≤ 2 := by unfold stepN; split <;> (try split) <;> (try split) <;> simp
/-- At most one code for each byte, and one more where digits are there. -/
theorem numsOf_len (l : List UInt8) : ∀ a, (numsOf a l).length + (if 0 < endA a l then 1 else 0) ≤ l.length + (if 0 < a then 1 else 0) := by
  induction l with
  | nil => intro a; exact Nat.le_refl _
  | cons c l ih =>
    intro a
    have h := ih (stepA a c)
    have e : endA a (c :: l) = endA (stepA a c) l := rfl
    rw [e]
    simp only [numsOf, List.length_append, List.length_cons]
    have : (stepN a c).length + (if 0 < stepA a c then 1 else 0) ≤ 1 + (if 0 < a then 1 else 0) := by
      unfold stepN stepA
      by_cases hd : isD c = true
      · simp only [hd, if_true, List.length_nil]; split <;> split <;> omega
      · by_cases hl : isL c = true
        · simp [hd, hl]; try split <;> omega
        · simp [hd, hl]; split <;> simp
    omega
theorem stepN_range (a : Nat) (c : UInt8) : ∀ n ∈ stepN a c, -3 ≤ n ∧ n ≤ (lim : Int) := by
  intro n hn
  unfold stepN at hn
  split at hn
  · simp at hn
  · split at hn
    · simp at hn; subst hn; unfold lim; omega
    · unfold aloneN at hn
      unfold lim
      split at hn <;> split at hn <;> (try split at hn) <;> simp at hn <;> omega
theorem numsOf_range (l : List UInt8) : ∀ a, ∀ n ∈ numsOf a l, -3 ≤ n ∧ n ≤ (lim : Int) := by
  induction l with
  | nil => intro a n hn; simp [numsOf] at hn
  | cons c l ih =>
    intro a n hn
    rcases List.mem_append.1 hn with h | h
    · exact stepN_range a c n h
    · exact ih _ n h

/-- The value of digits. -/
def valD (v : Nat) (b : List UInt8) : Nat := b.foldl (fun v c => 5 * v + (c.toNat - 85) + 1) v
theorem valD_append (v : Nat) (b c : List UInt8) : valD v (b ++ c) = valD (valD v b) c := by simp [valD]
def AllD (b : List UInt8) : Prop := ∀ c ∈ b, isD c = true
theorem isD_range {c : UInt8} (h : isD c = true) : 85 ≤ c.toNat ∧ c.toNat ≤ 89 := by simpa [isD] using h
theorem isL_range {c : UInt8} (h : isL c = true) : 65 ≤ c.toNat ∧ c.toNat ≤ 84 := by simpa [isL] using h
theorem u8_toNat (n : Nat) (h : n < 256) : (UInt8.ofNat n).toNat = n := by simp [UInt8.toNat_ofNat', Nat.mod_eq_of_lt h]
theorem u8_back (c : UInt8) : UInt8.ofNat c.toNat = c := by simp
theorem ahead_all (r : Nat) : AllD (ahead r) := by
  induction r using Nat.strongRecOn with
  | ind r ih =>
    cases r with
    | zero => intro c hc; simp [ahead] at hc
    | succ r =>
      intro c hc
      rw [ahead] at hc
      rcases List.mem_append.1 hc with h | h
      · exact ih (r / 5) (by omega) c h
      · rw [List.mem_singleton] at h; subst h
        have := u8_toNat (85 + r % 5) (by omega)
        simp only [isD, decide_eq_true_eq]
        rw [this]; omega
theorem valD_ahead (r : Nat) : valD 0 (ahead r) = r := by
  induction r using Nat.strongRecOn with
  | ind r ih =>
    cases r with
    | zero => simp [ahead, valD]
    | succ r =>
      rw [ahead, valD_append, ih (r / 5) (by omega)]
      simp only [valD, List.foldl_cons, List.foldl_nil]
      rw [u8_toNat _ (by omega)]; omega
/-- Digits are those of their value. -/
theorem rev_ind {p : List UInt8 → Prop} (h0 : p []) (h1 : ∀ b c, p b → p (b ++ [c])) (l : List UInt8) : p l := by
  have : ∀ r : List UInt8, p r.reverse := by
    intro r
    induction r with
    | nil => exact h0
    | cons c r ih => rw [List.reverse_cons]; exact h1 _ _ ih
  have h := this l.reverse
  rwa [List.reverse_reverse] at h
theorem ahead_valD (b : List UInt8) : AllD b → ahead (valD 0 b) = b := by
  refine rev_ind (p := fun b => AllD b → ahead (valD 0 b) = b) ?_ ?_ b
  · intro _; simp [ahead, valD]
  · intro b c ih h
    have hc := isD_range (h c (by simp))
    have hb : ahead (valD 0 b) = b := ih (fun x hx => h x (by simp [hx]))
    rw [valD_append]
    have e : valD (valD 0 b) [c] = (5 * valD 0 b + (c.toNat - 85)) + 1 := rfl
    rw [e, ahead]
    have e1 : (5 * valD 0 b + (c.toNat - 85)) / 5 = valD 0 b := by omega
    have e2 : (5 * valD 0 b + (c.toNat - 85)) % 5 = c.toNat - 85 := by omega
    rw [e1, e2, hb]
    have e3 : 85 + (c.toNat - 85) = c.toNat := by omega
    rw [e3, u8_back]
theorem enc_of (b : List UInt8) (c : UInt8) (h : AllD b) (hc : isL c = true) : enc (20 * valD 0 b + (c.toNat - 65)) = b ++ [c] := by
  have hc' := isL_range hc
  unfold enc
  have e1 : (20 * valD 0 b + (c.toNat - 65)) / 20 = valD 0 b := by omega
  have e2 : (20 * valD 0 b + (c.toNat - 65)) % 20 = c.toNat - 65 := by omega
  rw [e1, e2, ahead_valD b h]
  have e3 : 65 + (c.toNat - 65) = c.toNat := by omega
  rw [e3, u8_back]
theorem valD_cons (v : Nat) (c : UInt8) (b : List UInt8) : valD v (c :: b) = valD (5 * v + (c.toNat - 85) + 1) b := rfl
theorem valD_mono : ∀ (b : List UInt8) (x y : Nat), x ≤ y → valD x b ≤ valD y b := by
  intro b
  induction b with
  | nil => intro x y h; exact h
  | cons d b ih => intro x y h; rw [valD_cons, valD_cons]; exact ih _ _ (by omega)
theorem valD_ge : ∀ (b : List UInt8) (x : Nat), x ≤ valD x b := by
  intro b
  induction b with
  | nil => intro x; exact Nat.le_refl _
  | cons d b ih => intro x; rw [valD_cons]; exact Nat.le_trans (by omega) (ih _)
/-- Digits that are read: their value, up to the limit. -/
theorem endA_digits (b : List UInt8) (h : AllD b) : ∀ v, v ≤ lim → endA v b = min (valD v b) lim := by
  induction b with
  | nil => intro v hv; simp [endA, valD]; omega
  | cons c b ih =>
    intro v hv
    have hc := h c (by simp)
    have e : endA v (c :: b) = endA (stepA v c) b := rfl
    rw [e, ih (fun x hx => h x (by simp [hx])) _ (stepA_le v c)]
    have e2 : stepA v c = min (5 * v + (c.toNat - 85) + 1) lim := by unfold stepA; rw [if_pos hc]
    have e3 : valD v (c :: b) = valD (5 * v + (c.toNat - 85) + 1) b := rfl
    rw [e2, e3]
    by_cases hl : 5 * v + (c.toNat - 85) + 1 ≤ lim
    · rw [Nat.min_eq_left hl]
    · rw [Nat.min_eq_right (a := 5 * v + (c.toNat - 85) + 1) (by omega)]
      have h1 := valD_ge b lim
      have h2 := valD_ge b (5 * v + (c.toNat - 85) + 1)
      omega
theorem numsOf_digits (b : List UInt8) (h : AllD b) : ∀ v, numsOf v b = [] := by
  induction b with
  | nil => intro v; rfl
  | cons c b ih =>
    intro v
    simp only [numsOf, stepN, if_pos (h c (by simp)), List.nil_append]
    exact ih (fun x hx => h x (by simp [hx])) _
/-- Digits and a letter: one number. -/
theorem nums_form (b : List UInt8) (c : UInt8) (h : AllD b) (hc : isL c = true) : numsOf 0 (b ++ [c]) = [((min (20 * valD 0 b + (c.toNat - 65)) lim : Nat) : Int)] ∧ endA 0 (b ++ [c]) = 0 := by
  have hd : isD c = false := by
    have := isL_range hc
    simp only [isD, decide_eq_false_iff_not]; omega
  constructor
  · rw [numsOf_append, numsOf_digits b h, endA_digits b h 0 (by unfold lim; omega)]
    simp only [List.nil_append, numsOf, stepN, hd, hc, if_true, List.append_nil]
    have hcr := isL_range hc
    congr 2
    show (if false = true then _ else _) = _
    simp only [Bool.false_eq_true, if_false]
    by_cases hl : valD 0 b ≤ lim
    · rw [Nat.min_eq_left hl]
    · rw [Nat.min_eq_right (by omega : lim ≤ valD 0 b)]
      simp; unfold lim at *; omega
  · rw [endA_append]
    simp [endA, stepA, hd]
theorem lastL (n : Nat) : isL (UInt8.ofNat (65 + n % 20)) = true := by
  have := u8_toNat (65 + n % 20) (by omega)
  simp only [isL, decide_eq_true_eq]
  rw [this]; omega
theorem nums_enc (n : Nat) (h : n < lim) : numsOf 0 (enc n) = [(n : Int)] ∧ endA 0 (enc n) = 0 := by
  have := nums_form (ahead (n / 20)) _ (ahead_all _) (lastL n)
  rw [valD_ahead, u8_toNat _ (by omega)] at this
  have e : 20 * (n / 20) + (65 + n % 20 - 65) = n := by omega
  rw [e, Nat.min_eq_left (by omega)] at this
  exact this
theorem enc_inj {m n : Nat} (h : enc m = enc n) : m = n := by
  have key : ∀ n, 20 * valD 0 ((enc n).dropLast) + (((enc n).getLastD 0).toNat - 65) = n := by
    intro n
    unfold enc
    rw [List.dropLast_concat, valD_ahead]
    simp only [List.getLastD_concat]
    rw [u8_toNat _ (by omega)]; omega
  rw [← key m, ← key n, h]
theorem ahead_mono : ∀ {r s : Nat}, r ≤ s → (ahead r).length ≤ (ahead s).length := by
  intro r
  induction r using Nat.strongRecOn with
  | ind r ih =>
    intro s h
    cases r with
    | zero => simp [ahead]
    | succ r =>
      cases s with
      | zero => omega
      | succ s =>
        rw [ahead, ahead, List.length_append, List.length_append]
        have := ih (r / 5) (by omega) (s := s / 5) (by omega)
        simp; omega
theorem enc_len_mono {m n : Nat} (h : m ≤ n) : (enc m).length ≤ (enc n).length := by
  unfold enc
  have := ahead_mono (show m / 20 ≤ n / 20 by omega)
  simp; omega
theorem ahead_len (r : Nat) : ∀ k, r < 5 ^ k → (ahead r).length ≤ k := by
  induction r using Nat.strongRecOn with
  | ind r ih =>
    intro k h
    cases r with
    | zero => simp [ahead]
    | succ r =>
      cases k with
      | zero => simp at h
      | succ k =>
        rw [ahead, List.length_append]
        have := ih (r / 5) (by omega) k (by rw [Nat.pow_succ] at h; omega)
        simp; omega
theorem enc_len (n : Nat) (h : n < lim) : (enc n).length ≤ 21 := by
  unfold enc
  have := ahead_len (n / 20) 20 (by unfold lim at h; omega)
  simp; omega
/-- No form is the beginning of another. -/
theorem enc_apart {m n : Nat} (h : enc m <+: enc n) : m = n := by
  obtain ⟨t, ht⟩ := h
  rcases List.eq_nil_or_concat t with rfl | ⟨t, c, rfl⟩
  · rw [List.append_nil] at ht; exact enc_inj ht
  · exfalso
    rw [List.concat_eq_append] at ht
    unfold enc at ht
    rw [← List.append_assoc] at ht
    have h2 := List.append_inj_left' ht rfl
    have hm : UInt8.ofNat (65 + m % 20) ∈ ahead (n / 20) := by rw [← h2]; simp
    have hd := isD_range (ahead_all _ _ hm)
    rw [u8_toNat _ (by omega)] at hd
    omega
end Go.Proofs.YtffchjigpppoaaaDoor
