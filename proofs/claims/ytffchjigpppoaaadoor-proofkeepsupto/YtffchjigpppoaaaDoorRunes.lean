/- Runes and bytes. -/
import Derived.Test.YtffchjigpppoaaaDoorTake
import Derived.Laws.RangeAny
namespace Go.Proofs.YtffchjigpppoaaaDoor
open Go.RowKit

/-- Bytes of 128 and above. -/
theorem high_nums (l : List UInt8) (h : ∀ c ∈ l, 128 ≤ c.toNat) : ∀ a, 0 < l.length → numsOf a l = (if 0 < a then [-3] else []) ++ List.replicate l.length (-3) ∧ endA a l = 0 := by
  induction l with
  | nil => intro a h0; simp at h0
  | cons c l ih =>
    intro a _
    have hc := h c (by simp)
    have hd : isD c = false := by simp only [isD, decide_eq_false_iff_not]; omega
    have hl : isL c = false := by simp only [isL, decide_eq_false_iff_not]; omega
    have hN : stepN a c = (if 0 < a then [-3] else []) ++ [-3] := by
      unfold stepN aloneN
      rw [hd, hl, if_neg (by omega : ¬ c.toNat = 90), if_neg (by omega : ¬ c.toNat = 63)]
      simp
    have hA : stepA a c = 0 := by unfold stepA; rw [hd]; simp
    have e1 : numsOf a (c :: l) = stepN a c ++ numsOf (stepA a c) l := rfl
    have e2 : endA a (c :: l) = endA (stepA a c) l := rfl
    rw [e1, e2, hN, hA]
    by_cases h0 : 0 < l.length
    · obtain ⟨i1, i2⟩ := ih (fun x hx => h x (by simp [hx])) 0 h0
      rw [i1, i2]
      simp [List.replicate_succ]
    · have : l = [] := List.eq_nil_of_length_eq_zero (by omega)
      subst this
      simp [numsOf, endA]
theorem low_take (a : Nat) (c : UInt8) (_ : c.toNat < 128) : takeN a c.toNat 1 = numsOf a [c] ∧ takeA a c.toNat = endA a [c] := by
  have e1 : numsOf a [c] = stepN a c := by simp [numsOf]
  have e2 : endA a [c] = stepA a c := rfl
  rw [e1, e2]
  unfold takeN takeA stepN stepA isD isL aloneR aloneN
  constructor
  · by_cases h1 : 85 ≤ c.toNat ∧ c.toNat ≤ 89
    · simp [h1]
    · by_cases h2 : 65 ≤ c.toNat ∧ c.toNat ≤ 84
      · simp [h1, h2]
      · simp only [h1, h2, if_false, decide_false, Bool.false_eq_true]
        by_cases h90 : c.toNat = 90
        · simp [h90]
        · by_cases h63 : c.toNat = 63
          · simp [h63]
          · simp [h90, h63]
  · by_cases h1 : 85 ≤ c.toNat ∧ c.toNat ≤ 89
    · simp [h1]
    · simp [h1]
theorem high_take (a r k : Nat) (hr : 128 ≤ r) : takeN a r k = (if 0 < a then [-3] else []) ++ List.replicate k (-3) ∧ takeA a r = 0 := by
  unfold takeN takeA aloneR
  rw [if_neg (by omega : ¬ (85 ≤ r ∧ r ≤ 89)), if_neg (by omega : ¬ (65 ≤ r ∧ r ≤ 84)), if_neg (by omega : ¬ r = 90), if_neg (by omega : ¬ r = 63), if_neg (by omega : ¬ (85 ≤ r ∧ r ≤ 89))]
  exact ⟨rfl, rfl⟩
theorem decodeN_high {n b0 b1 b2 b3 : Nat} (hn : 0 < n) (h0 : ¬ b0 < 128) : ∃ k, (Lib.decodeN n b0 b1 b2 b3).2 = k ∧ 1 ≤ k ∧ k ≤ 4 ∧ k ≤ n ∧ 128 ≤ (Lib.decodeN n b0 b1 b2 b3).1 ∧ (2 ≤ k → 128 ≤ b1) ∧ (3 ≤ k → 128 ≤ b2) ∧ (4 ≤ k → 128 ≤ b3) := by
  refine ⟨_, rfl, ?_⟩
  unfold Lib.decodeN
  rw [if_neg h0]
  repeat' split
  all_goals (simp only []; omega)
theorem bytes_at (s : ByteArray) (i : Nat) (h : i < s.size) : s.data.toList[i]? = some (s.get! i) := by
  have hl : i < s.data.toList.length := by rw [← Lib.size_eq]; exact h
  rw [← Lib.getD_get!', List.getD, List.getElem?_eq_getElem hl]; rfl
/-- A rune of a text, and its bytes. -/
theorem chunk (s : ByteArray) (pos : Nat) (hp : pos < s.size) (a : Nat) : ∃ k, (Utf8.decode s pos).2 = k ∧ 1 ≤ k ∧ k ≤ 4 ∧ pos + k ≤ s.size ∧
    takeN a (Utf8.decode s pos).1 k = numsOf a ((s.data.toList.drop pos).take k) ∧ takeA a (Utf8.decode s pos).1 = endA a ((s.data.toList.drop pos).take k) := by
  have hb0 := bytes_at s pos hp
  have hlen : s.data.toList.length = s.size := (Lib.size_eq s).symm
  rw [Lib.decode_at]
  by_cases h0 : (s.get! pos).toNat < 128
  · refine ⟨1, by simp [Lib.decodeN, h0], by omega, by omega, by omega, ?_⟩
    have e1 : (Lib.decodeN (s.size - pos) (s.get! pos).toNat (s.get! (pos + 1)).toNat (s.get! (pos + 2)).toNat (s.get! (pos + 3)).toNat).1 = (s.get! pos).toNat := by simp [Lib.decodeN, h0]
    have e2 : (s.data.toList.drop pos).take 1 = [s.get! pos] := by
      rw [List.drop_eq_getElem_cons (by omega : pos < s.data.toList.length)]
      rw [List.getElem?_eq_getElem (by omega : pos < s.data.toList.length)] at hb0
      simp [Option.some.inj hb0]
    rw [e1, e2]
    exact low_take a _ h0
  · obtain ⟨k, hk, k1, k4, kn, hr, x1, x2, x3⟩ := decodeN_high (n := s.size - pos) (b0 := (s.get! pos).toNat) (b1 := (s.get! (pos + 1)).toNat) (b2 := (s.get! (pos + 2)).toNat) (b3 := (s.get! (pos + 3)).toNat) (by omega) h0
    refine ⟨k, hk, k1, k4, by omega, ?_⟩
    have hl : ((s.data.toList.drop pos).take k).length = k := by rw [List.length_take, List.length_drop]; omega
    have hall : ∀ c ∈ (s.data.toList.drop pos).take k, 128 ≤ c.toNat := by
      intro c hc
      obtain ⟨j, hj, rfl⟩ := List.getElem_of_mem hc
      rw [hl] at hj
      have e : ((s.data.toList.drop pos).take k)[j]? = some (s.get! (pos + j)) := by
        rw [List.getElem?_take, if_pos hj, List.getElem?_drop]
        exact bytes_at s (pos + j) (by omega)
      rw [List.getElem?_eq_getElem (by rw [hl]; exact hj)] at e
      rw [Option.some.inj e]
      match j, hj with
      | 0, _ => simpa using h0
      | 1, _ => exact x1 (by omega)
      | 2, _ => exact x2 (by omega)
      | 3, _ => exact x3 (by omega)
      | j + 4, hj => omega
    obtain ⟨h1, h2⟩ := high_nums _ hall a (by omega)
    obtain ⟨t1, t2⟩ := high_take a _ k hr
    rw [h1, h2, hl]
    exact ⟨t1, t2⟩
end Go.Proofs.YtffchjigpppoaaaDoor
