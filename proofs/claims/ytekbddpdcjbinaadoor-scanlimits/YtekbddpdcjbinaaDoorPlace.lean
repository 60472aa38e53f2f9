/- Places in a text, said without the program. -/
import Derived.Test.YtekbddpdcjbinaaDoorPure
import Derived.Lib.LastIndexByte
import Derived.Lib.Strings
import Derived.Lib.Bytealg
namespace Go.Proofs.YtekbddpdcjbinaaDoor

/-- The line and the column behind the bytes l. -/
def lineL (l : List UInt8) : Nat := l.count 10 + 1
def colL (l : List UInt8) : Nat := l.foldl (fun c b => if b = 10 then 1 else c + 1) 1
theorem lineL_snoc (l : List UInt8) (b : UInt8) : lineL (l ++ [b]) = lineL l + if b = 10 then 1 else 0 := by
  unfold lineL; rw [List.count_append, List.count_singleton]; simp only [beq_iff_eq]; split <;> omega
theorem colL_snoc (l : List UInt8) (b : UInt8) : colL (l ++ [b]) = if b = 10 then 1 else colL l + 1 := by
  unfold colL; rw [List.foldl_append]; rfl
theorem lineL_le (l : List UInt8) : 1 ≤ lineL l ∧ lineL l ≤ l.length + 1 := by
  unfold lineL; have := List.count_le_length (a := (10 : UInt8)) (l := l); omega
theorem colL_snoc_hit (l : List UInt8) (b : UInt8) (h : b = 10) : colL (l ++ [b]) = 1 := by rw [colL_snoc, if_pos h]
theorem colL_le : ∀ (n : Nat) (l : List UInt8), l.length = n → 1 ≤ colL l ∧ colL l ≤ l.length + 1 := by
  intro n
  induction n with
  | zero => intro l h; rw [List.length_eq_zero_iff.1 h]; decide
  | succ n ih =>
    intro l h
    obtain ⟨l', b, rfl⟩ : ∃ l' b, l = l' ++ [b] := ⟨l.dropLast, l.getLast (by intro e; subst e; simp at h), (List.dropLast_concat_getLast _).symm⟩
    have := ih l' (by simpa using h)
    rw [colL_snoc]; simp only [List.length_append, List.length_singleton] at *
    split <;> omega
theorem colL_bd (l : List UInt8) : 1 ≤ colL l ∧ colL l ≤ l.length + 1 := colL_le l.length l rfl

theorem byte_ten (b : UInt8) : ((b.toNat : Int) = 10) ↔ b = 10 := by
  constructor
  · intro h; apply UInt8.toNat_inj.1; have : b.toNat = 10 := by omega
    rw [this]; rfl
  · rintro rfl; rfl

/-- What scan.Place's column says is the column. -/
theorem col_last (t : ByteArray) : ∀ k : Nat, k ≤ t.size → (colL (t.data.toList.take k) : Int) = k - Lib.lastIdx t 10 k := by
  intro k
  induction k with
  | zero => intro _; rfl
  | succ k ih =>
    intro hk
    have hb : t.data[k]! = t[k] := by rw [getElem!_pos t.data k (by simpa using (show k < t.size by omega))]; rfl
    rw [take_snoc t k (by omega), colL_snoc]
    by_cases h : t[k] = 10
    · rw [if_pos h, Lib.lastIdx_hit _ _ _ (by rw [hb]; exact (byte_ten _).2 h)]
      omega
    · rw [if_neg h, Lib.lastIdx_miss _ _ _ (by rw [hb]; exact fun e => h ((byte_ten _).1 e))]
      have := ih (by omega)
      omega
theorem lastIdx_bd (t : ByteArray) (c : Int) (k : Nat) : -1 ≤ Lib.lastIdx t c k ∧ Lib.lastIdx t c k < k := by
  rcases Lib.lastIdx_spec t c k with ⟨e, _⟩ | ⟨i, hi, e, _⟩ <;> omega
theorem take_all (t : ByteArray) : t.data.toList.take t.size = t.data.toList := List.take_of_length_le (Nat.le_of_eq rfl)
theorem size_ext (s : ByteArray) (off : Nat) (h : off ≤ s.size) : (s.extract 0 off).size = off := by rw [ByteArray.size_extract]; omega
theorem data_ext (s : ByteArray) (off : Nat) : (s.extract 0 off).data.toList = s.data.toList.take off := by rw [Lib.extract_data]; simp
theorem col_ext (s : ByteArray) (off : Nat) (h : off ≤ s.size) : (off : Int) - (Lib.lastIndexByte (s.extract 0 off) 10 + 1) + 1 = colL (s.data.toList.take off) := by
  have h1 := col_last (s.extract 0 off) (s.extract 0 off).size (Nat.le_refl _)
  rw [take_all, data_ext] at h1
  unfold Lib.lastIndexByte
  rw [size_ext s off h] at h1 ⊢
  omega
theorem line_ext (s : ByteArray) (off : Nat) : ((Lib.countByte (s.extract 0 off).data.toList 10 : Nat) : Int) + 1 = lineL (s.data.toList.take off) := by
  rw [data_ext]; unfold lineL Lib.countByte; omega
theorem line_take_le (s : ByteArray) (k : Nat) : 1 ≤ lineL (s.data.toList.take k) ∧ lineL (s.data.toList.take k) ≤ k + 1 := by
  have := lineL_le (s.data.toList.take k); have h2 : (s.data.toList.take k).length ≤ k := List.length_take_le _ _; omega
theorem col_take_le (s : ByteArray) (k : Nat) : 1 ≤ colL (s.data.toList.take k) ∧ colL (s.data.toList.take k) ≤ k + 1 := by
  have := colL_bd (s.data.toList.take k); have h2 : (s.data.toList.take k).length ≤ k := List.length_take_le _ _; omega
end Go.Proofs.YtekbddpdcjbinaaDoor
