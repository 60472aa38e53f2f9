/- A text of blanks and of words of one letter: what a scan of it answers, said without the program. -/
import Derived.Test.YtekbddpdcjbinaaDoorSame
namespace Go.Proofs.YtekbddpdcjbinaaDoor

def letters : Nat → List UInt8
  | 0 => []
  | n + 1 => 97 :: 32 :: letters n
/-- So many blanks, then so many words of one letter with a blank behind each. -/
def limitL (front n : Nat) : List UInt8 := List.replicate front 32 ++ letters n
def limitS (front n : Nat) : ByteArray := ⟨(limitL front n).toArray⟩
theorem letters_len (n : Nat) : (letters n).length = 2 * n := by
  induction n with
  | zero => rfl
  | succ n ih => simp [letters, ih]; omega
theorem letters_snoc (n : Nat) : letters (n + 1) = letters n ++ [97, 32] := by
  induction n with
  | zero => rfl
  | succ n ih =>
    show 97 :: 32 :: letters (n + 1) = (97 :: 32 :: letters n) ++ [97, 32]
    rw [ih]; rfl
theorem letters_get (n : Nat) : ∀ i, i < n → (letters n)[2 * i]? = some 97 := by
  induction n with
  | zero => intro i h; omega
  | succ n ih =>
    intro i h
    cases i with
    | zero => rfl
    | succ i =>
      have := ih i (by omega)
      rw [show 2 * (i + 1) = 2 * i + 1 + 1 by omega]
      simpa [letters] using this

def faultTok : Tok := ⟨⟨#[]⟩, 65536, 1, 65537⟩
def aTok (k : Nat) : Tok := ⟨⟨#[97]⟩, k, 1, k + 1⟩
/-- What comes of n words from k on. -/
def lw : Nat → Nat → List (Tok × Int)
  | _, 0 => []
  | k, n + 1 => if k = 65536 ∨ k + 1 = 65536 then [(faultTok, 13)] else (aTok k, 0) :: lw (k + 2) n

theorem code32 (k : Nat) (h : k ≠ 65536) : codeAt k 32 = 0 := by unfold codeAt; rw [if_neg h, if_neg (by decide)]
theorem code97 (k : Nat) (h : k ≠ 65536) : codeAt k 97 = 0 := by unfold codeAt; rw [if_neg h, if_neg (by decide)]
theorem codeMax (c : UInt8) : codeAt 65536 c = 13 := by unfold codeAt; rw [if_pos rfl]

theorem evs_blanks (s : ByteArray) (rest : List UInt8) : ∀ j k, k ≤ 65536 → evs s (List.replicate j 32 ++ rest) k k 1 0 = if k + j ≤ 65536 then evs s rest (k + j) (k + j) 1 0 else [(faultTok, 13)] := by
  intro j
  induction j with
  | zero => intro k hk; rw [if_pos (by omega)]; rfl
  | succ j ih =>
    intro k hk
    rw [List.replicate_succ, List.cons_append, evs]
    by_cases h : k = 65536
    · subst h
      rw [if_neg (by rw [codeMax]; decide), if_neg (by omega), codeMax]; rfl
    · rw [if_pos (code32 k h), if_pos (by decide), if_neg (by omega), List.nil_append, if_neg (by decide), if_neg (by decide), ih (k + 1) (by omega)]
      by_cases h2 : k + 1 + j ≤ 65536
      · rw [if_pos h2, if_pos (by omega), show k + (j + 1) = k + 1 + j by omega]
      · rw [if_neg h2, if_neg (by omega)]
theorem evs_letters (s : ByteArray) : ∀ n k, k ≤ 65536 → (∀ i, i < n → s.extract (k + 2 * i) (k + 2 * i + 1) = ⟨#[97]⟩) → evs s (letters n) k k 1 0 = lw k n := by
  intro n
  induction n with
  | zero => intro k _ _; rw [letters, evs, if_neg (by omega)]; rfl
  | succ n ih =>
    intro k hk hx
    rw [letters, evs, lw]
    by_cases h : k = 65536
    · subst h
      rw [if_neg (by rw [codeMax]; decide), codeMax, if_pos (.inl rfl)]; rfl
    · rw [if_pos (code97 k h), if_neg (by decide), evs]
      by_cases h1 : k + 1 = 65536
      · rw [if_neg (show ¬ codeAt (k + 1) 32 = 0 by rw [h1, codeMax]; decide), if_pos (Or.inr h1), h1, codeMax]; rfl
      · rw [if_pos (code32 _ h1), if_pos (by decide), if_pos (by omega), if_neg (by decide), if_neg (by decide), if_neg (show ¬ (k = 65536 ∨ k + 1 = 65536) by omega), ih (k + 2) (by omega) (fun i hi => by have := hx (i + 1) (by omega); rwa [show k + 2 * (i + 1) = k + 2 + 2 * i by omega] at this)]
        have e : wordAt s k (k + 1) 1 0 = aTok k := by
          have := hx 0 (by omega)
          unfold wordAt aTok
          rw [show s.extract k (k + 1) = ⟨#[97]⟩ from this]; simp
        rw [e]; rfl

theorem take_a (told : List Tok) (k : Nat) : takeF ⟨told, zeroTok⟩ (aTok k) = if told.length = 16384 then (13, ⟨told, zeroTok⟩) else (0, ⟨told ++ [aTok k], zeroTok⟩) := by
  simp [takeF, inCmt_data, isOpen_data, isShut_data, zeroTok, aTok]

theorem fit_step (n k c : Nat) (h : ¬ (k = 65536 ∨ k + 1 = 65536)) (hk : k ≤ 65536) : c + 1 + min n ((65536 - (k + 2)) / 2) = c + min (n + 1) ((65536 - k) / 2) := by omega
theorem run_lw : ∀ (n k : Nat) (told : List Tok), k ≤ 65536 → told.length ≤ 16384 →
    (16384 < told.length + min n ((65536 - k) / 2) → ∃ r, runF ⟨told, zeroTok⟩ (lw k n) = (r, some (aTok (k + 2 * (16384 - told.length)), 13)) ∧ r.told.length = 16384) ∧
    (told.length + min n ((65536 - k) / 2) ≤ 16384 → 65536 < k + 2 * n → ∃ r, runF ⟨told, zeroTok⟩ (lw k n) = (r, some (faultTok, 13)) ∧ r.told.length = told.length + min n ((65536 - k) / 2)) ∧
    (told.length + min n ((65536 - k) / 2) ≤ 16384 → k + 2 * n ≤ 65536 → ∃ r, runF ⟨told, zeroTok⟩ (lw k n) = (r, none) ∧ r.told.length = told.length + n ∧ r.opn = zeroTok) := by
  intro n
  induction n with
  | zero =>
    intro k told hk ht
    refine ⟨fun h => by omega, fun _ h => by omega, fun _ _ => ⟨_, rfl, rfl, rfl⟩⟩
  | succ n ih =>
    intro k told hk ht
    rw [lw]
    by_cases h : k = 65536 ∨ k + 1 = 65536
    · rw [if_pos h]
      refine ⟨fun h' => by omega, fun _ _ => ⟨_, rfl, by show told.length = _; omega⟩, fun _ h' => by omega⟩
    · rw [if_neg h]
      by_cases hf : told.length = 16384
      · have hr : runF ⟨told, zeroTok⟩ ((aTok k, 0) :: lw (k + 2) n) = (⟨told, zeroTok⟩, some (aTok k, 13)) := by
          rw [runF, if_pos rfl, take_a, if_pos hf]; rfl
        rw [hr]
        refine ⟨fun _ => ⟨_, by rw [hf]; rfl, hf⟩, fun h' => by omega, fun h' => by omega⟩
      · have hr : runF ⟨told, zeroTok⟩ ((aTok k, 0) :: lw (k + 2) n) = runF ⟨told ++ [aTok k], zeroTok⟩ (lw (k + 2) n) := by
          rw [runF, if_pos rfl, take_a, if_neg hf]; rfl
        rw [hr]
        obtain ⟨i1, i2, i3⟩ := ih (k + 2) (told ++ [aTok k]) (by omega) (by simp; omega)
        simp only [List.length_append, List.length_singleton] at i1 i2 i3
        rw [fit_step n k told.length h hk] at i1 i2 i3
        have e0 : k + 2 + 2 * (16384 - (told.length + 1)) = k + 2 * (16384 - told.length) := by clear i1 i2 i3; omega
        have e4 : k + 2 + 2 * n = k + 2 * (n + 1) := by clear i1 i2 i3; omega
        have e5 : told.length + 1 + n = told.length + (n + 1) := by clear i1 i2 i3; omega
        rw [e0] at i1
        rw [e4] at i2 i3
        rw [e5] at i3
        exact ⟨i1, i2, i3⟩

theorem limit_events (front n : Nat) : events (limitS front n) = if front ≤ 65536 then lw front n else [(faultTok, 13)] := by
  unfold events
  show evs (limitS front n) (limitL front n) 0 0 1 0 = _
  unfold limitL
  rw [evs_blanks _ _ front 0 (by omega)]
  simp only [Nat.zero_add]
  by_cases h : front ≤ 65536
  · rw [if_pos h, if_pos h]
    apply evs_letters _ n front h
    intro i hi
    apply ByteArray.ext
    apply Array.toList_inj.1
    rw [Lib.extract_data]
    show ((limitL front n).drop (front + 2 * i)).take _ = [97]
    unfold limitL
    rw [List.drop_append, List.drop_eq_nil_of_le (by simp), List.nil_append]
    simp only [List.length_replicate]
    rw [show front + 2 * i - front = 2 * i by omega, show front + 2 * i + 1 - (front + 2 * i) = 1 by omega, List.drop_eq_getElem_cons (by rw [letters_len]; omega)]
    have := letters_get n i hi
    rw [List.getElem?_eq_getElem (by rw [letters_len]; omega)] at this
    simp only [Option.some.injEq] at this
    rw [this]; rfl
  · rw [if_neg h, if_neg h]
/-- What a scan of such a text answers. -/
theorem limit_scan (front n : Nat) :
    (16384 < min n ((65536 - front) / 2) → (scanF (limitS front n)).1.length = 16384 ∧ (scanF (limitS front n)).2 = some (aTok (front + 32768), 13)) ∧
    (min n ((65536 - front) / 2) ≤ 16384 → 65536 < front + 2 * n → (scanF (limitS front n)).1.length = min n ((65536 - front) / 2) ∧ (scanF (limitS front n)).2 = some (faultTok, 13)) ∧
    (min n ((65536 - front) / 2) ≤ 16384 → front + 2 * n ≤ 65536 → (scanF (limitS front n)).1.length = min n ((65536 - front) / 2) ∧ (scanF (limitS front n)).2 = none) := by
  unfold scanF
  rw [limit_events]
  by_cases h : front ≤ 65536
  · rw [if_pos h]
    obtain ⟨i1, i2, i3⟩ := run_lw n front [] h (by decide)
    simp only [List.length_nil, Nat.zero_add, Nat.sub_zero] at i1 i2 i3
    refine ⟨fun h' => ?_, fun h' h'' => ?_, fun h' h'' => ?_⟩
    · obtain ⟨r, e1, e2⟩ := i1 h'
      rw [show rd0 = ⟨[], zeroTok⟩ from rfl, e1]; exact ⟨e2, rfl⟩
    · obtain ⟨r, e1, e2⟩ := i2 h' h''
      rw [show rd0 = ⟨[], zeroTok⟩ from rfl, e1]; exact ⟨e2, rfl⟩
    · obtain ⟨r, e1, e2, e3⟩ := i3 h' h''
      rw [show rd0 = ⟨[], zeroTok⟩ from rfl, e1]
      have hc : inCmt r = false := by rw [inCmt_data, e3]; rfl
      refine ⟨by show r.told.length = _; omega, by simp [hc]⟩
  · rw [if_neg h]
    refine ⟨fun h' => by omega, fun _ _ => ⟨by show (0 : Nat) = _; omega, rfl⟩, fun _ h' => by omega⟩
end Go.Proofs.YtekbddpdcjbinaaDoor
