/- The law's number, digits and value. -/
import Derived.Test.YtffchjigpppoaaaDoorEnc
import Derived.Lib.RuneCountTail
namespace Go.Proofs.YtffchjigpppoaaaDoor
open Go.RowKit

theorem encode_any (w : World) (n : Int) : Calls Tryd.prog 60 #[.int .i64 n] w fun e w' => e = .returned (.tuple #[.string (encT n), .int .i64 (encE n)]) ∧ Below w.heap.size w w' := by
  by_cases h : n < 0 ∨ (lim : Int) ≤ n
  · refine (encode_bad w n h).mono ?_
    rintro e w' ⟨rfl, rfl⟩
    unfold encT encE
    rw [if_pos h, if_pos h]
    exact ⟨rfl, Below.refl _ _⟩
  · obtain ⟨m, rfl⟩ : ∃ m : Nat, n = m := ⟨n.toNat, by omega⟩
    refine (encode_good w m (by omega)).mono ?_
    rintro e w' ⟨rfl, hb⟩
    unfold encT encE
    rw [if_neg h, if_neg h]
    exact ⟨rfl, hb⟩

theorem num_eq (n : Int) : wrap64 ((IntKind.u64.wrap n).tmod 1125899906842624) = n % 1125899906842624 := by
  rw [IntKind.wrap_u64]
  have h0 : 0 ≤ n % 18446744073709551616 := Int.emod_nonneg _ (by omega)
  rw [Int.tmod_eq_emod_of_nonneg h0]
  have h1 : n % 18446744073709551616 % 1125899906842624 = n % 1125899906842624 := by omega
  rw [h1]
  unfold wrap64
  omega
/-- Digits and a letter. -/
def FormIs (s : ByteArray) (b : List UInt8) (c : UInt8) : Prop := s.data.toList = b ++ [c] ∧ AllD b ∧ isL c = true
theorem FormIs.size {s : ByteArray} {b : List UInt8} {c : UInt8} (h : FormIs s b c) : s.size = b.length + 1 := by
  rw [Lib.size_eq, h.1]; simp
theorem FormIs.get {s : ByteArray} {b : List UInt8} {c : UInt8} (h : FormIs s b c) (i : Nat) (hi : i < b.length) (hs : i < s.size) : b[i]? = some (s[i]'hs) ∧ isD (s[i]'hs) = true := by
  have e : s.data.toList[i]? = some (s[i]'hs) := by
    rw [Array.getElem?_toList]; exact Array.getElem?_eq_getElem _
  rw [h.1, List.getElem?_append_left hi] at e
  exact ⟨e, h.2.1 _ (List.mem_of_getElem? e)⟩
theorem FormIs.last {s : ByteArray} {b : List UInt8} {c : UInt8} (h : FormIs s b c) (hs : b.length < s.size) : s[b.length]'hs = c := by
  have e : s.data.toList[b.length]? = some (s[b.length]'hs) := by
    rw [Array.getElem?_toList]; exact Array.getElem?_eq_getElem _
  rw [h.1, List.getElem?_append_right (Nat.le_refl _)] at e
  simpa using e.symm

theorem valD_snoc (b : List UInt8) (x : UInt8) : valD 0 (b ++ [x]) = 5 * valD 0 b + (x.toNat - 85) + 1 := by rw [valD_append]; rfl
theorem valD_take (b : List UInt8) (j : Nat) : valD 0 (b.take j) ≤ valD 0 b := by
  conv => rhs; rw [← List.take_append_drop j b, valD_append]
  exact valD_ge _ _
end Go.Proofs.YtffchjigpppoaaaDoor
