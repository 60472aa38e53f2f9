/- The law's number, digits and value. -/
import Derived.Test.YtlhdkhjajcfdoaaDoorEnc
import Derived.Lib.RuneCountTail
namespace Go.Proofs.YtlhdkhjajcfdoaaDoor
open Go.RowKit

theorem encode_any (w : World) (n : Int) : Calls Tryd.prog 10 #[.int .i64 n] w fun e w' => e = .returned (.tuple #[.string (encT n), .int .i64 (encE n)]) ∧ Below w.heap.size w w' := by
  by_cases h : n < 0 ∨ (lim : Int) ≤ n
  · refine (encode_bad w n h).mono ?_
    rintro e w' ⟨rfl, rfl⟩
    unfold encT encE
    rw [if_pos h, if_pos h]
    exact ⟨rfl, Below.refl _ _⟩
  · obtain ⟨m, rfl⟩ : ∃ m : Nat, n = m := ⟨n.toNat, by omega⟩
    refine (encode_good w m (by omega)).mono ?_
    rintro e w' ⟨rfl, hb⟩
    unfold encT encE
    rw [if_neg h, if_neg h]
    exact ⟨rfl, hb⟩

theorem num_eq (n : Int) : wrap64 ((IntKind.u64.wrap n).tmod 1125899906842624) = n % 1125899906842624 := by
  rw [IntKind.wrap_u64]
  have h0 : 0 ≤ n % 18446744073709551616 := Int.emod_nonneg _ (by omega)
  rw [Int.tmod_eq_emod_of_nonneg h0]
  have h1 : n % 18446744073709551616 % 1125899906842624 = n % 1125899906842624 := by omega
  rw [h1]
  unfold wrap64
  omega
set_option maxRecDepth 100000 in
theorem number_any (w : World) (n : Int) : Calls Tryd.prog 11 #[.int .i64 n] w fun e w' => e = .returned (.int .i64 (n % 1125899906842624)) ∧ w' = w := by
  go_enter Tryd.func11, Tryd.ntmps11
  go_wp2
  go_ret
  refine ⟨?_, rfl⟩
  show Ending.returned (.int .i64 (wrap64 ((IntKind.u64.wrap n).tmod 1125899906842624))) = _
  rw [num_eq]

/-- Digits and a letter. -/
def FormIs (s : ByteArray) (b : List UInt8) (c : UInt8) : Prop := s.data.toList = b ++ [c] ∧ AllD b ∧ isL c = true
theorem FormIs.size {s : ByteArray} {b : List UInt8} {c : UInt8} (h : FormIs s b c) : s.size = b.length + 1 := by
  rw [Lib.size_eq, h.1]; simp
theorem FormIs.get {s : ByteArray} {b : List UInt8} {c : UInt8} (h : FormIs s b c) (i : Nat) (hi : i < b.length) (hs : i < s.size) : b[i]? = some (s[i]'hs) ∧ isD (s[i]'hs) = true := by
  have e : s.data.toList[i]? = some (s[i]'hs) := by
    rw [Array.getElem?_toList]; exact Array.getElem?_eq_getElem _
  rw [h.1, List.getElem?_append_left hi] at e
  exact ⟨e, h.2.1 _ (List.mem_of_getElem? e)⟩
theorem FormIs.last {s : ByteArray} {b : List UInt8} {c : UInt8} (h : FormIs s b c) (hs : b.length < s.size) : s[b.length]'hs = c := by
  have e : s.data.toList[b.length]? = some (s[b.length]'hs) := by
    rw [Array.getElem?_toList]; exact Array.getElem?_eq_getElem _
  rw [h.1, List.getElem?_append_right (Nat.le_refl _)] at e
  simpa using e.symm

set_option maxRecDepth 100000 in
set_option maxHeartbeats 4000000 in
theorem digits_any (w : World) (s : ByteArray) (b : List UInt8) (c : UInt8) (h : FormIs s b c) (hsz : s.size ≤ 140737488355328) :
    Calls Tryd.prog 12 #[.string s] w fun e w' => e = .returned (.bool true) ∧ w' = w := by
  have HS : Hid (FormIs s b c) := h
  have hsz1 : Hid (s.size = b.length + 1) := h.size
  obtain ⟨N, hN⟩ : ∃ N, N = b.length := ⟨_, rfl⟩
  have HN : Hid (b.length = N) := hN.symm
  have hs : s.size = N + 1 := by rw [hsz1.out, HN.out]
  clear h hN
  go_enter Tryd.func12, Tryd.ntmps12
  go_wp2_with fail
  go_loop [3] (fun i => ∃ j : Nat, j ≤ N ∧ i = .int .i64 j) (fun i => N - (intOf i).toNat)
  case atStart => exact ⟨0, Nat.zero_le _, rfl⟩
  case round =>
    obtain ⟨j, hj, rfl⟩ := hrel
    by_cases hlt : j < N
    · have n1 : (j : Int) < (N : Int) := by omega
      have hjs : j < s.size := by omega
      obtain ⟨_, hd⟩ := HS.out.get j (by rw [HN.out]; exact hlt) hjs
      obtain ⟨x, hx⟩ : ∃ x, s[j]'hjs = x := ⟨_, rfl⟩
      rw [hx] at hd
      have hr := isD_range hd
      have d1 : decide ((x.toNat : Int) < 85) = false := decide_eq_false (by omega)
      have d2 : decide ((89 : Int) < (x.toNat : Int)) = false := decide_eq_false (by omega)
      go_wp2
      exact ⟨⟨j + 1, by omega, by go_num⟩, by simp [intOf]; omega⟩
    · have n1 : ¬ (j : Int) < (N : Int) := by omega
      have hjs : N < s.size := by omega
      have hl : s[N]'hjs = c := by have := HS.out.last (by rw [HN.out]; exact hjs); simp only [HN.out] at this; exact this
      have hr := isL_range HS.out.2.2
      have p1 : decide ((0 : Int) < (N : Int) + 1) = true := decide_eq_true (by omega)
      have d1 : decide ((65 : Int) ≤ (c.toNat : Int)) = true := decide_eq_true (by omega)
      have d2 : decide ((c.toNat : Int) ≤ 84) = true := decide_eq_true (by omega)
      go_wp2
      go_ret
      exact ⟨rfl, rfl⟩

theorem valD_snoc (b : List UInt8) (x : UInt8) : valD 0 (b ++ [x]) = 5 * valD 0 b + (x.toNat - 85) + 1 := by rw [valD_append]; rfl
theorem valD_take (b : List UInt8) (j : Nat) : valD 0 (b.take j) ≤ valD 0 b := by
  conv => rhs; rw [← List.take_append_drop j b, valD_append]
  exact valD_ge _ _
set_option maxRecDepth 100000 in
set_option maxHeartbeats 4000000 in
theorem value_any (w : World) (s : ByteArray) (b : List UInt8) (c : UInt8) (h : FormIs s b c) (hsz : s.size ≤ 140737488355328) (hv : valD 0 b ≤ 1125899906842624) :
    Calls Tryd.prog 13 #[.string s] w fun e w' => e = .returned (.int .i64 ((20 * valD 0 b + (c.toNat - 65) : Nat) : Int)) ∧ w' = w := by
  have HS : Hid (FormIs s b c) := h
  have hsz1 : Hid (s.size = b.length + 1) := h.size
  obtain ⟨N, hN⟩ : ∃ N, N = b.length := ⟨_, rfl⟩
  have HN : Hid (b.length = N) := hN.symm
  have hs : s.size = N + 1 := by rw [hsz1.out, HN.out]
  clear h hN
  go_enter Tryd.func13, Tryd.ntmps13
  go_wp2_with fail
  go_loop [3, 4] (fun v i => ∃ j z : Nat, j ≤ N ∧ z ≤ 1125899906842624 ∧ i = .int .i64 j ∧ v = .int .i64 z ∧ Hid (valD 0 (b.take j) = z)) (fun _ i => N - (intOf i).toNat)
  case atStart => exact ⟨0, 0, Nat.zero_le _, by omega, rfl, rfl, rfl⟩
  case round =>
    obtain ⟨j, z, hj, hz, rfl, rfl, hV⟩ := hrel
    by_cases hlt : j < N
    · have n1 : (j : Int) < (N : Int) := by omega
      have hjs : j < s.size := by omega
      obtain ⟨hg, hd⟩ := HS.out.get j (by rw [HN.out]; exact hlt) hjs
      obtain ⟨x, hx⟩ : ∃ x, s[j]'hjs = x := ⟨_, rfl⟩
      rw [hx] at hd hg
      have hr := isD_range hd
      have hV2 : Hid (valD 0 (b.take (j + 1)) = 5 * z + (x.toNat - 85) + 1) := by show _ = _; rw [List.take_add_one, hg]; show valD 0 (b.take j ++ [x]) = _; rw [valD_snoc, hV.out]
      have hle : 5 * z + (x.toNat - 85) + 1 ≤ 1125899906842624 := by have h1 := valD_take b (j + 1); rw [hV2.out] at h1; omega
      clear hg hd
      go_wp2
      exact ⟨⟨j + 1, 5 * z + (x.toNat - 85) + 1, by omega, hle, by go_num, by congr 1; omega, hV2.out⟩, by simp [intOf]; omega⟩
    · have n1 : ¬ (j : Int) < (N : Int) := by omega
      have hjs : N < s.size := by omega
      have hl : s[N]'hjs = c := by have := HS.out.last (by rw [HN.out]; exact hjs); simp only [HN.out] at this; exact this
      have hr := isL_range HS.out.2.2
      have hV3 : Hid (valD 0 b = z) := by show _ = _; have := hV.out; rwa [List.take_of_length_le (by rw [HN.out]; omega)] at this
      go_wp2
      go_ret
      refine ⟨?_, rfl⟩
      rw [hV3.out]
      have e9 : ((c.toNat - 65 : Nat) : Int) = (c.toNat : Int) - 65 := by omega
      rw [e9]
      rfl
end Go.Proofs.YtlhdkhjajcfdoaaDoor
