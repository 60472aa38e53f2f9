/- What the statements' own tests of bytes answer. -/
import Derived.Test.YtekbddpdcjbinaaDoorTokens
namespace Go.Proofs.YtekbddpdcjbinaaDoor
open Go.RowKit

set_option maxHeartbeats 400000 in
theorem good_yes (c : Int) (w : World) (h1 : 33 ≤ c) (h2 : c ≤ 126) : Calls Tryd.prog 15 #[.int .u8 c] w fun e w' => e = .returned (.bool true) ∧ w' = w := by
  go_enter Tryd.func15, Tryd.ntmps15
  go_wp2
  go_ret
  exact ⟨rfl, rfl⟩
set_option maxHeartbeats 400000 in
theorem good_low (c : Int) (w : World) (h1 : c < 33) : Calls Tryd.prog 15 #[.int .u8 c] w fun e w' => e = .returned (.bool false) ∧ w' = w := by
  go_enter Tryd.func15, Tryd.ntmps15
  go_wp2
  go_ret
  exact ⟨rfl, rfl⟩
set_option maxHeartbeats 400000 in
theorem good_high (c : Int) (w : World) (h1 : 126 < c) : Calls Tryd.prog 15 #[.int .u8 c] w fun e w' => e = .returned (.bool false) ∧ w' = w := by
  have h2 : 33 ≤ c := by omega
  have h3 : decide (c ≤ 126) = false := decide_eq_false (by omega)
  clear h1
  go_enter Tryd.func15, Tryd.ntmps15
  go_wp2
  go_ret
  refine ⟨?_, rfl⟩
  first | rfl | (show Ending.returned (.bool (decide (c ≤ 126))) = _; rw [h3])
theorem good_any (c : Int) (w : World) : Calls Tryd.prog 15 #[.int .u8 c] w fun e w' => e = .returned (.bool (decide (33 ≤ c) && decide (c ≤ 126))) ∧ w' = w := by
  by_cases h1 : 33 ≤ c
  · by_cases h2 : c ≤ 126
    · rw [decide_eq_true h1, decide_eq_true h2]; exact good_yes c w h1 h2
    · rw [decide_eq_false h2, Bool.and_false]; exact good_high c w (by omega)
  · rw [decide_eq_false h1, Bool.false_and]; exact good_low c w (by omega)

set_option maxHeartbeats 2000000 in
theorem part_no (c : Int) (w : World) (h1 : (c == 32) = false) (h2 : (c == 9) = false) (h3 : (c == 10) = false) (h4 : (c == 12) = false) (h5 : (c == 13) = false) : Calls Tryd.prog 16 #[.int .u8 c] w fun e w' => e = .returned (.bool false) ∧ w' = w := by
  go_enter Tryd.func16, Tryd.ntmps16
  go_wp2
  go_ret
  exact ⟨rfl, rfl⟩
set_option maxHeartbeats 2000000 in
theorem part_yes (c : Int) (w : World) (h : c = 9 ∨ c = 10 ∨ c = 12 ∨ c = 13 ∨ c = 32) : Calls Tryd.prog 16 #[.int .u8 c] w fun e w' => e = .returned (.bool true) ∧ w' = w := by
  rcases h with rfl | rfl | rfl | rfl | rfl <;>
  · go_enter Tryd.func16, Tryd.ntmps16
    go_wp2
    go_ret
    exact ⟨rfl, rfl⟩
theorem good_kind (c : UInt8) : (decide ((33 : Int) ≤ (c.toNat : Int)) && decide ((c.toNat : Int) ≤ 126)) = decide (2 ≤ kindF c.toNat) := by
  have h := kindF_cases (c.toNat : Int) (by omega)
  generalize hk : kindF (c.toNat : Int) = k at h ⊢
  rw [← Bool.decide_and]
  apply decide_eq_decide.2
  repeat' split at h
  all_goals omega
theorem part_any (c : UInt8) (w : World) : Calls Tryd.prog 16 #[.int .u8 c.toNat] w fun e w' => e = .returned (.bool (decide (kindF c.toNat = 1))) ∧ w' = w := by
  by_cases h : kindF c.toNat = 1
  · rw [decide_eq_true h]; exact part_yes _ w ((kind1 _ (by omega)).1 h)
  · rw [decide_eq_false h]
    have h' := fun x => h ((kind1 (c.toNat : Int) (by omega)).2 x)
    exact part_no _ w (by simp only [beq_eq_false_iff_ne]; intro e; exact h' (by omega)) (by simp only [beq_eq_false_iff_ne]; intro e; exact h' (by omega)) (by simp only [beq_eq_false_iff_ne]; intro e; exact h' (by omega)) (by simp only [beq_eq_false_iff_ne]; intro e; exact h' (by omega)) (by simp only [beq_eq_false_iff_ne]; intro e; exact h' (by omega))
theorem good_byte (c : UInt8) (w : World) : Calls Tryd.prog 15 #[.int .u8 c.toNat] w fun e w' => e = .returned (.bool (decide (2 ≤ kindF c.toNat))) ∧ w' = w := by
  rw [← good_kind c]; exact good_any _ w
end Go.Proofs.YtekbddpdcjbinaaDoor
