/- What the calls on single bytes answer. -/
import Derived.Test.YtipfhfeaalbmcaaDoorChecked
import Derived.Test.YtipfhfeaalbmcaaDoorKPure
import Derived.WalkKit
import Derived.WalkLawsBesides
import Derived.WalkSpells
import Derived.BigQuiet
import Derived.Deep.QuietTactic
namespace Go.Proofs.YtipfhfeaalbmcaaDoor.K
open Go.RowKit

/-- The table of the bytes lies in the first package variable. -/
def KB (w : World) : Prop := ∀ i : Nat, i < 128 → w.cell? ⟨2, i, none⟩ = some (.int .u8 (tbl.getD i 0))

theorem ret_int {k : IntKind} {a b : Int} (h : a = b) : Ending.returned (.int k a) = .returned (.int k b) := by rw [h]
theorem ret_bool {a b : Bool} (h : a = b) : Ending.returned (.bool a) = .returned (.bool b) := by rw [h]

set_option maxHeartbeats 400000 in
theorem kindOf_any (c : Int) (w : World) (h0 : 0 ≤ c) (h1 : c < 256) (hk : KB w) :
    Calls Tryd.prog 66 #[.int .u8 c] w fun e w' => e = .returned (.int .u8 (kindF c)) ∧ w' = w := by
  by_cases hc : c < 128
  · have hcell := hk c.toNat (by omega)
    have hkf : Hid (kindF c = tbl.getD c.toNat 0) := by unfold kindF; rw [if_pos hc]; rfl
    clear hk
    go_enter Tryd.func66, Tryd.ntmps66
    go_wp2
    go_ret
    exact ⟨ret_int (by rw [hkf.out]; simp), rfl⟩
  · have hkf : Hid (kindF c = 0) := by unfold kindF; rw [if_neg hc]; rfl
    clear hk
    go_enter Tryd.func66, Tryd.ntmps66
    go_wp2
    go_ret
    exact ⟨ret_int (by rw [hkf.out]), rfl⟩

theorem byte_lt (b : UInt8) : ((b.toNat : Nat) : Int) < 256 := by have := b.toNat_lt; omega

end Go.Proofs.YtipfhfeaalbmcaaDoor.K
