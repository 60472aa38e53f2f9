/- What the reference's calls on names answer. -/
import Derived.Test.YtffchjigpppoaaaDoorKKinds
import Derived.Outline
import Derived.Deep.Light
namespace Go.Proofs.YtffchjigpppoaaaDoor.K
open Go.RowKit

set_option maxRecDepth 100000 in
set_option maxHeartbeats 2000000 in
theorem refName_any (s : ByteArray) (w : World) (hs : s.size ≤ maxLen) :
    Calls Tryd.prog 33 #[.string s] w fun e w' => e = .returned (.bool (madeB s 4)) ∧ w' = w := by
  unfold maxLen at hs
  by_cases h1 : s.size < 1
  · have hm : Hid (madeB s 4 = false) := madeB_short s 4 h1
    go_enter Tryd.func33, Tryd.ntmps33
    go_wp2
    go_ret
    exact ⟨ret_bool (by rw [hm.out]), rfl⟩
  by_cases h2 : 32 < s.size
  · have hm : Hid (madeB s 4 = false) := madeB_long s 4 h2
    go_enter Tryd.func33, Tryd.ntmps33
    go_wp2
    go_ret
    exact ⟨ret_bool (by rw [hm.out]), rfl⟩
  have hm : Hid (madeB s 4 = s.data.toList.all (fun b => decide (4 ≤ kindF b.toNat))) := madeB_in s 4 (by omega) (by omega)
  go_enter Tryd.func33, Tryd.ntmps33
  go_wp2
  go_loop [3] (fun i => ∃ n : Nat, n ≤ s.size ∧ i = .int .i64 n ∧ Hid ((s.data.toList.take n).all (fun b => decide (4 ≤ kindF b.toNat)) = true)) (fun i => s.size - (intOf i).toNat)
  case atStart => exact ⟨0, Nat.zero_le _, rfl, rfl⟩
  case round =>
    obtain ⟨n, hn, rfl, ha⟩ := hrel
    by_cases hlt : n < s.size
    · go_wp2
      all_goals first
        | (go_round
           case rel => exact ⟨n + 1, by omega, by go_num, all_step hlt ha.out (by
             go_light
             rw [decide_eq_true_iff, kind4 _ (Int.natCast_nonneg _)]
             simp only [Bool.not_eq_false', bne_eq_false_iff_eq, decide_eq_true_eq] at *
             omega)⟩
           case measure => simp [intOf]; omega)
        | (go_ret
           exact ⟨ret_bool (by
             rw [hm.out, all_miss (p := fun b => decide (4 ≤ kindF b.toNat)) hlt (by
               go_light
               rw [decide_eq_false_iff_not, kind4 _ (Int.natCast_nonneg _)]
               simp only [Bool.not_eq_true', bne_iff_ne, ne_eq, decide_eq_false_iff_not] at *
               omega)]), rfl⟩)
    · go_wp2
      go_ret
      exact ⟨ret_bool (by rw [hm.out, all_done (by omega) ha.out]), rfl⟩

/-- Does a byte make words? -/
def inWordB (c : Int) : Bool := decide (33 ≤ c) && decide (c ≤ 126)
theorem sym_all (s : ByteArray) : madeB s 3 = (s.data.toList.all (fun b => decide (3 ≤ kindF b.toNat)) && (decide (1 ≤ s.size) && decide (s.size ≤ 32))) := by
  unfold madeB; rw [Bool.and_comm]

end Go.Proofs.YtffchjigpppoaaaDoor.K
