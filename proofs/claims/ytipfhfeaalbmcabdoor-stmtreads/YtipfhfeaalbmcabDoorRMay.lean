/- The document's answer: which statements may be. -/
import Derived.Test.YtipfhfeaalbmcabDoorMade
import Derived.Deep.DeepCutAuto
namespace Go.Proofs.YtipfhfeaalbmcabDoor
open Go.RowKit

theorem ten {kk : Nat} (h : kk < 10) : kk = 0 ∨ kk = 1 ∨ kk = 2 ∨ kk = 3 ∨ kk = 4 ∨ kk = 5 ∨ kk = 6 ∨ kk = 7 ∨ kk = 8 ∨ kk = 9 := by omega
set_option maxRecDepth 100000 in
set_option maxHeartbeats 4000000 in
theorem rlab_any (w : World) (kk : Nat) (h : kk < 10) : Calls Tryd.prog 28 #[.int .i64 (kk : Int)] w fun e w' => e = .returned (.bool (labB kk)) ∧ w' = w := by
  rcases ten h with rfl | rfl | rfl | rfl | rfl | rfl | rfl | rfl | rfl | rfl
  all_goals (go_enter Tryd.func28, Tryd.ntmps28; go_wp2; go_ret; exact ⟨rfl, rfl⟩)
set_option maxRecDepth 100000 in
set_option maxHeartbeats 4000000 in
theorem rleast_any (w : World) (kk : Nat) (h : kk < 10) (h0 : 0 < kk) : Calls Tryd.prog 26 #[.int .i64 (kk : Int)] w fun e w' => e = .returned (.int .i64 (lstI kk)) ∧ w' = w := by
  rcases ten h with rfl | rfl | rfl | rfl | rfl | rfl | rfl | rfl | rfl | rfl
  · omega
  all_goals (go_enter Tryd.func26, Tryd.ntmps26; go_wp2; go_ret; exact ⟨rfl, rfl⟩)
def rmstI (kk : Nat) : Int := if mstI kk = 9223372036854775807 then -1 else mstI kk
set_option maxRecDepth 100000 in
set_option maxHeartbeats 4000000 in
theorem rmost_any (w : World) (kk : Nat) (h : kk < 10) (h0 : 0 < kk) : Calls Tryd.prog 42 #[.int .i64 (kk : Int)] w fun e w' => e = .returned (.int .i64 (rmstI kk)) ∧ w' = w := by
  rcases ten h with rfl | rfl | rfl | rfl | rfl | rfl | rfl | rfl | rfl | rfl
  · omega
  all_goals (go_enter Tryd.func42, Tryd.ntmps42; go_wp2; go_ret; exact ⟨rfl, rfl⟩)
def brkB (kk : Nat) : Bool := decide (kk = 8) || decide (kk = 9)
set_option maxRecDepth 100000 in
set_option maxHeartbeats 4000000 in
theorem rbrk_any (w : World) (kk : Nat) (h : kk < 10) : Calls Tryd.prog 29 #[.int .i64 (kk : Int)] w fun e w' => e = .returned (.bool (brkB kk)) ∧ w' = w := by
  rcases ten h with rfl | rfl | rfl | rfl | rfl | rfl | rfl | rfl | rfl | rfl
  all_goals (go_enter Tryd.func29, Tryd.ntmps29; go_wp2; go_ret; exact ⟨rfl, rfl⟩)
theorem rm_cases {kk : Nat} (h : kk < 10) (h0 : 0 < kk) : (rmstI kk = -1 ∧ mstI kk = 9223372036854775807) ∨ (0 ≤ rmstI kk ∧ rmstI kk = mstI kk) := by
  rcases ten h with rfl | rfl | rfl | rfl | rfl | rfl | rfl | rfl | rfl | rfl <;> first | omega | (left; exact ⟨by decide, by decide⟩) | (right; exact ⟨by decide, by decide⟩)
theorem allPl_nil {ps : List Tok} (h : ps.length = 0) : allPl ps = true := by rw [List.eq_nil_of_length_eq_zero h]; rfl

end Go.Proofs.YtipfhfeaalbmcabDoor
