/- What the calls on single bytes answer. -/
import Derived.Test.YtffchjigpppoaaaDoorChecked
import Derived.Test.YtffchjigpppoaaaDoorKPure
import Derived.WalkKit
import Derived.WalkLawsBesides
import Derived.WalkSpells
import Derived.BigQuiet
import Derived.Deep.QuietTactic
namespace Go.Proofs.YtffchjigpppoaaaDoor.K
open Go.RowKit

/-- The table of the bytes lies in the first package variable. -/
def KB (w : World) : Prop := ∀ i : Nat, i < 128 → w.cell? ⟨1, i, none⟩ = some (.int .u8 (tbl.getD i 0))

theorem ret_int {k : IntKind} {a b : Int} (h : a = b) : Ending.returned (.int k a) = .returned (.int k b) := by rw [h]
theorem ret_bool {a b : Bool} (h : a = b) : Ending.returned (.bool a) = .returned (.bool b) := by rw [h]

set_option maxHeartbeats 400000 in
theorem kindOf_any (c : Int) (w : World) (h0 : 0 ≤ c) (h1 : c < 256) (hk : KB w) :
    Calls Tryd.prog 66 #[.int .u8 c] w fun e w' => e = .returned (.int .u8 (kindF c)) ∧ w' = w := by
  by_cases hc : c < 128
  · have hcell := hk c.toNat (by omega)
    have hkf : Hid (kindF c = tbl.getD c.toNat 0) := by unfold kindF; rw [if_pos hc]; rfl
    clear hk
    go_enter Tryd.func66, Tryd.ntmps66
    go_wp2
    go_ret
    exact ⟨ret_int (by rw [hkf.out]; simp), rfl⟩
  · have hkf : Hid (kindF c = 0) := by unfold kindF; rw [if_neg hc]; rfl
    clear hk
    go_enter Tryd.func66, Tryd.ntmps66
    go_wp2
    go_ret
    exact ⟨ret_int (by rw [hkf.out]), rfl⟩

theorem byte_lt (b : UInt8) : ((b.toNat : Nat) : Int) < 256 := by have := b.toNat_lt; omega

set_option maxRecDepth 100000 in
set_option maxHeartbeats 1000000 in
theorem madeOf_any (s : ByteArray) (k : Int) (w : World) (hs : s.size ≤ maxLen) (_k0 : 0 ≤ k) (_k1 : k ≤ 4) (hKB : KB w) :
    Calls Tryd.prog 59 #[.string s, .int .u8 k] w fun e w' => e = .returned (.bool (madeB s k)) ∧ w' = w := by
  unfold maxLen at hs
  by_cases h1 : s.size < 1
  · have hm : Hid (madeB s k = false) := madeB_short s k h1
    clear hKB
    go_enter Tryd.func59, Tryd.ntmps59
    go_wp2
    go_ret
    exact ⟨ret_bool (by rw [hm.out]), rfl⟩
  by_cases h2 : 32 < s.size
  · have hm : Hid (madeB s k = false) := madeB_long s k h2
    clear hKB
    go_enter Tryd.func59, Tryd.ntmps59
    go_wp2
    go_ret
    exact ⟨ret_bool (by rw [hm.out]), rfl⟩
  have hm : Hid (madeB s k = s.data.toList.all (fun b => decide (k ≤ kindF b.toNat))) := madeB_in s k (by omega) (by omega)
  go_enter Tryd.func59, Tryd.ntmps59
  go_wp2
  go_loop [16] (fun i => ∃ n : Nat, n ≤ s.size ∧ i = .int .i64 n ∧ Hid ((s.data.toList.take n).all (fun b => decide (k ≤ kindF b.toNat)) = true)) (fun i => s.size - (intOf i).toNat)
  case atStart => exact ⟨0, Nat.zero_le _, rfl, rfl⟩
  case round =>
    obtain ⟨n, hn, rfl, ha⟩ := hrel
    by_cases hlt : n < s.size
    · go_wp2_with (go_at_call 66; refine (kindOf_any _ _ (Int.natCast_nonneg _) (byte_lt _) hKB).mono ?_; rintro e w' ⟨rfl, rfl⟩)
      · have hk : kindF s[n].toNat < k := by assumption
        go_ret
        exact ⟨ret_bool (by rw [hm.out, all_miss hlt (by simpa using hk)]), rfl⟩
      · have hk : k ≤ kindF s[n].toNat := by assumption
        go_round
        case rel => exact ⟨n + 1, by omega, by go_num, all_step hlt ha.out (by simpa using hk)⟩
        case measure => simp [intOf]; omega
    · go_wp2
      go_ret
      exact ⟨ret_bool (by rw [hm.out, all_done (by omega) ha.out]), rfl⟩

set_option maxHeartbeats 400000 in
theorem name_any (s : ByteArray) (w : World) (hs : s.size ≤ maxLen) (hKB : KB w) :
    Calls Tryd.prog 46 #[.string s] w fun e w' => e = .returned (.bool (madeB s 4)) ∧ w' = w := by
  go_enter Tryd.func46, Tryd.ntmps46
  go_wp2_with (go_at_call 59; refine (madeOf_any _ _ _ hs (by omega) (by omega) hKB).mono ?_; rintro e w' ⟨rfl, rfl⟩)
  go_ret
  exact ⟨rfl, rfl⟩
end Go.Proofs.YtffchjigpppoaaaDoor.K
