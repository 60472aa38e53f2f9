/- What the document's own small functions answer: its tests of bytes, where the going stops, brackets within a word, a fault. -/
import Derived.Test.YtndjcppfkcndgaaDoorPlaces
import Derived.Test.YtndjcppfkcndgaaDoorMark
import Derived.Test.YtndjcppfkcndgaaDoorFaults
namespace Go.Proofs.YtndjcppfkcndgaaDoor
open Go.RowKit

set_option maxHeartbeats 2000000 in
theorem blank_no (c : Int) (w : World) (h1 : (c == 32) = false) (h2 : (c == 9) = false) (h3 : (c == 10) = false) (h4 : (c == 12) = false) (h5 : (c == 13) = false) : Calls Tryd.prog 35 #[.int .u8 c] w fun e w' => e = .returned (.bool false) ∧ w' = w := by
  go_enter Tryd.func35, Tryd.ntmps35
  go_wp2
  go_ret
  exact ⟨rfl, rfl⟩
set_option maxHeartbeats 2000000 in
theorem blank_yes (c : Int) (w : World) (h : c = 9 ∨ c = 10 ∨ c = 12 ∨ c = 13 ∨ c = 32) : Calls Tryd.prog 35 #[.int .u8 c] w fun e w' => e = .returned (.bool true) ∧ w' = w := by
  rcases h with rfl | rfl | rfl | rfl | rfl <;>
  · go_enter Tryd.func35, Tryd.ntmps35
    go_wp2
    go_ret
    exact ⟨rfl, rfl⟩
theorem blank_true (c : UInt8) (w : World) (h : kindF c.toNat = 1) : Calls Tryd.prog 35 #[.int .u8 c.toNat] w fun e w' => e = .returned (.bool true) ∧ w' = w :=
  blank_yes _ w ((kind1 _ (by omega)).1 h)
theorem blank_false (c : UInt8) (w : World) (h : kindF c.toNat ≠ 1) : Calls Tryd.prog 35 #[.int .u8 c.toNat] w fun e w' => e = .returned (.bool false) ∧ w' = w := by
  have h' := fun x => h ((kind1 (c.toNat : Int) (by omega)).2 x)
  exact blank_no _ w (by simp only [beq_eq_false_iff_ne]; intro e; exact h' (by omega)) (by simp only [beq_eq_false_iff_ne]; intro e; exact h' (by omega)) (by simp only [beq_eq_false_iff_ne]; intro e; exact h' (by omega)) (by simp only [beq_eq_false_iff_ne]; intro e; exact h' (by omega)) (by simp only [beq_eq_false_iff_ne]; intro e; exact h' (by omega))

set_option maxHeartbeats 400000 in
theorem inWord_yes (c : Int) (w : World) (h1 : 33 ≤ c) (h2 : c ≤ 126) : Calls Tryd.prog 36 #[.int .u8 c] w fun e w' => e = .returned (.bool true) ∧ w' = w := by
  go_enter Tryd.func36, Tryd.ntmps36
  go_wp2
  go_ret
  exact ⟨rfl, rfl⟩
set_option maxHeartbeats 400000 in
theorem inWord_low (c : Int) (w : World) (h1 : c < 33) : Calls Tryd.prog 36 #[.int .u8 c] w fun e w' => e = .returned (.bool false) ∧ w' = w := by
  go_enter Tryd.func36, Tryd.ntmps36
  go_wp2
  go_ret
  exact ⟨rfl, rfl⟩
set_option maxHeartbeats 400000 in
theorem inWord_high (c : Int) (w : World) (h1 : 126 < c) : Calls Tryd.prog 36 #[.int .u8 c] w fun e w' => e = .returned (.bool false) ∧ w' = w := by
  have h2 : 33 ≤ c := by omega
  have h3 : decide (c ≤ 126) = false := decide_eq_false (by omega)
  clear h1
  go_enter Tryd.func36, Tryd.ntmps36
  go_wp2
  go_ret
  refine ⟨?_, rfl⟩
  first | rfl | (show Ending.returned (.bool (decide (c ≤ 126))) = _; rw [h3])
theorem word_iff (c : UInt8) : ((33 : Int) ≤ (c.toNat : Int) ∧ (c.toNat : Int) ≤ 126) ↔ 2 ≤ kindF c.toNat := by
  have h := kindF_cases (c.toNat : Int) (by omega)
  generalize hk : kindF (c.toNat : Int) = k at h ⊢
  repeat' split at h
  all_goals omega
theorem inWord_true (c : UInt8) (w : World) (h : 2 ≤ kindF c.toNat) : Calls Tryd.prog 36 #[.int .u8 c.toNat] w fun e w' => e = .returned (.bool true) ∧ w' = w :=
  inWord_yes _ w ((word_iff c).2 h).1 ((word_iff c).2 h).2
theorem inWord_false (c : UInt8) (w : World) (h : kindF c.toNat < 2) : Calls Tryd.prog 36 #[.int .u8 c.toNat] w fun e w' => e = .returned (.bool false) ∧ w' = w := by
  have h' : ¬ ((33 : Int) ≤ (c.toNat : Int) ∧ (c.toNat : Int) ≤ 126) := fun x => by have := (word_iff c).1 x; omega
  by_cases h1 : (c.toNat : Int) < 33
  · exact inWord_low _ w h1
  · exact inWord_high _ w (by omega)

set_option maxRecDepth 100000 in
set_option maxHeartbeats 2000000 in
theorem stop_any (s : ByteArray) (w : World) (hs : s.size ≤ 140737488355328) :
    Calls Tryd.prog 24 #[.string s] w fun e w' => w' = w ∧ ∃ (n : Nat) (c : Int), e = .returned (.tuple #[.int .i64 n, .int .i64 c]) ∧ stopAt s n c := by
  go_enter Tryd.func24, Tryd.ntmps24
  go_wp2
  go_loopw [4] (fun i wr => ∃ k : Nat, k ≤ s.size ∧ i = .int .i64 k ∧ wr = w ∧ Hid (∀ j (h : j < s.size), j < k → codeAt j s[j] = 0)) (fun i _ => s.size - (intOf i).toNat)
  case atStart => exact ⟨0, Nat.zero_le _, rfl, rfl, fun j _ h => absurd h (Nat.not_lt_zero j)⟩
  case round =>
    obtain ⟨k, hk, rfl, rfl, hall⟩ := hrel
    by_cases hlt : k < s.size
    · have k0 : (0 : Int) ≤ (k : Int) := by omega
      have k1 : (k : Int) < (s.size : Int) := by omega
      by_cases h6 : k = 65536
      · have k6 : ((k : Int) == 65536) = true := by simp; omega
        have Hc : Hid (codeAt k (s[k]'hlt) = 13) := by show _ = _; unfold codeAt; rw [if_pos h6]
        clear h6
        go_wp2
        refine bodyPost_ret (v := .tuple #[.int .i64 k, .int .i64 13]) (by simp [results, Tryd.results24, go_sem]) rfl ⟨rfl, k, 13, rfl, hall.out, .inr ⟨hlt, Hc.out.symm, by omega⟩⟩
      · have k6 : ((k : Int) == 65536) = false := by simp only [beq_eq_false_iff_ne]; omega
        have hr := kindF_range ((s[k]'hlt).toNat : Int) (by omega)
        have Hk : Hid (∀ j (h : j < s.size), codeAt k (s[k]'hlt) = 0 → j < k + 1 → codeAt j s[j] = 0) := by
          intro j h hc hj
          by_cases e : j = k
          · subst e; exact hc
          · exact hall.out j h (by omega)
        by_cases hb : kindF (s[k]'hlt).toNat = 1
        · have Hb : Hid (kindF (s[k]'hlt).toNat = 1) := hb
          have Hc : Hid (codeAt k (s[k]'hlt) = 0) := by show _ = _; unfold codeAt; rw [if_neg h6, if_neg (by omega)]
          clear h6 hb hr
          go_wp2_with (first | (go_at_call 35; refine (blank_true _ _ (by with_reducible exact Hb.out)).mono ?_; rintro e w' ⟨rfl, rfl⟩))
          go_roundw
          case rel => exact ⟨k + 1, by omega, by go_num, (by first | rfl | trivial), fun j h hj => Hk.out j h Hc.out hj⟩
          case measure => simp [intOf]; omega
        · have Hb : Hid (kindF (s[k]'hlt).toNat ≠ 1) := hb
          by_cases h0 : kindF (s[k]'hlt).toNat = 0
          · have Hw : Hid (kindF (s[k]'hlt).toNat < 2) := by show _ < _; omega
            have Hc : Hid (codeAt k (s[k]'hlt) = 10) := by show _ = _; unfold codeAt; rw [if_neg h6, if_pos h0]
            clear h6 hb hr h0
            go_wp2_with (first | (go_at_call 35; refine (blank_false _ _ (by with_reducible exact Hb.out)).mono ?_; rintro e w' ⟨rfl, rfl⟩) | (go_at_call 36; refine (inWord_false _ _ (by with_reducible exact Hw.out)).mono ?_; rintro e w' ⟨rfl, rfl⟩))
            refine bodyPost_ret (v := .tuple #[.int .i64 k, .int .i64 10]) (by simp [results, Tryd.results24, go_sem]) rfl ⟨rfl, k, 10, rfl, hall.out, .inr ⟨hlt, Hc.out.symm, by omega⟩⟩
          · have Hw : Hid (2 ≤ kindF (s[k]'hlt).toNat) := by show _ ≤ _; omega
            have Hc : Hid (codeAt k (s[k]'hlt) = 0) := by show _ = _; unfold codeAt; rw [if_neg h6, if_neg h0]
            clear h6 hb hr h0
            go_wp2_with (first | (go_at_call 35; refine (blank_false _ _ (by with_reducible exact Hb.out)).mono ?_; rintro e w' ⟨rfl, rfl⟩) | (go_at_call 36; refine (inWord_true _ _ (by with_reducible exact Hw.out)).mono ?_; rintro e w' ⟨rfl, rfl⟩))
            go_roundw
            case rel => exact ⟨k + 1, by omega, by go_num, (by first | rfl | trivial), fun j h hj => Hk.out j h Hc.out hj⟩
            case measure => simp [intOf]; omega
    · have hks : k = s.size := by omega
      go_wp2
      refine bodyPost_ret (v := .tuple #[.int .i64 s.size, .int .i64 0]) (by simp [results, Tryd.results24, go_sem]) rfl ⟨rfl, s.size, 0, rfl, ?_, .inl ⟨rfl, rfl⟩⟩
      intro j h hj; exact hall.out j h (by omega)

set_option maxRecDepth 100000 in
set_option maxHeartbeats 2000000 in
theorem refFault_any (t : Tok) (c : Int) (w : World) : Calls Tryd.prog 27 #[.agg #[.string t.text, .int .i64 t.off, .int .i64 t.line, .int .i64 t.col], .int .i64 c] w fun e w' => e = .returned (.pointer (some ⟨w.heap.size + 1, 0, none⟩)) ∧ FaultAt w' (w.heap.size + 1) t c ∧ Below w.heap.size w w' := by
  go_enter Tryd.func27, Tryd.ntmps27
  go_wp2
  go_ret
  refine ⟨rfl, ?_, ((Below.refl _ _).alloc (Nat.le_refl _) _).alloc (by simp) _⟩
  exact heap_alloc2_new w _ _
end Go.Proofs.YtndjcppfkcndgaaDoor
