/- The law's own untouched. -/
import Derived.Test.YtjaccgkeldabfaaGreatRoomy
namespace Go.Proofs.YtjaccgkeldabfaaGreat
open Go.RowKit

set_option maxRecDepth 100000 in
set_option maxHeartbeats 8000000 in
theorem untouched_any (w : World) (g n cap : Nat) (a : Option Addr) (c : Nat) (l : List Pr) (hl : l.length = n) (hn : n ≤ 1099511627776) (hc : n + 3 ≤ cap) (hM : PairsAt w (some ⟨g, 0, none⟩) (l ++ room3))
    (hS : Calls Tryz.prog 16 #[.slice (some ⟨g, 0, none⟩) n cap, .slice a n c] w fun e w' => e = .returned (.bool true) ∧ ∃ k, w' = w.drewN k) :
    Calls Tryz.prog 25 #[.slice (some ⟨g, 0, none⟩) n cap, .slice a n c] w fun e w' => e = .returned (.bool true) ∧ Below w.heap.size w w' := by
  have key : ∀ i (p : Pr), room3[i]? = some p → ∀ k, (w.drewN k).cell? ⟨g, (n + i) * 2, none⟩ = some (.int .i64 p.1) ∧ (w.drewN k).cell? ⟨g, (n + i) * 2 + 1, none⟩ = some (.int .i64 p.2) := fun i p hi k => by
    obtain ⟨_, _, e, h0, h1⟩ := (M.pairs_up hM (M.below_dr (Below.refl _ w) k)) (n + i) p (by rw [List.getElem?_append_right (by omega), hl, Nat.add_sub_cancel_left]; exact hi)
    cases e
    rw [Nat.zero_add] at h0 h1
    exact ⟨h0, h1⟩
  have KEY : Hid _ := key
  have SM : Hid _ := hS
  clear key hS hM hl
  have n1 : (n : Int) + 3 ≤ (cap : Int) := by omega
  have n2 : (n : Int) ≤ (cap : Int) := by omega
  have n3 : (n : Int) ≤ (n : Int) + 3 := by omega
  have n4 : (n : Int) < (n : Int) + 3 := by omega
  have n5 : (n : Int) + 1 < (n : Int) + 3 := by omega
  have n6 : (n : Int) + 2 < (n : Int) + 3 := by omega
  have t1 : ((n : Int) + 1).toNat = n + 1 := by omega
  have t2 : ((n : Int) + 2).toNat = n + 2 := by omega
  have t3 : ((n : Int) + 3).toNat = n + 3 := by omega
  go_enter Tryz.func25, Tryz.ntmps25
  go_wp2_with fail
  refine Calls.mono SM.out ?_
  rintro e w1 ⟨rfl, k, rfl⟩
  have a0 : (w.drewN k).cell? ⟨g, n * 2, none⟩ = some (.int .i64 7) := (KEY.out 0 (7, 7) rfl k).1
  have a1 : (w.drewN k).cell? ⟨g, n * 2 + 1, none⟩ = some (.int .i64 7) := (KEY.out 0 (7, 7) rfl k).2
  have b0 : (w.drewN k).cell? ⟨g, (n + 1) * 2, none⟩ = some (.int .i64 8) := (KEY.out 1 (8, 8) rfl k).1
  have b1 : (w.drewN k).cell? ⟨g, (n + 1) * 2 + 1, none⟩ = some (.int .i64 8) := (KEY.out 1 (8, 8) rfl k).2
  have c0 : (w.drewN k).cell? ⟨g, (n + 2) * 2, none⟩ = some (.int .i64 9) := (KEY.out 2 (9, 9) rfl k).1
  have c1 : (w.drewN k).cell? ⟨g, (n + 2) * 2 + 1, none⟩ = some (.int .i64 9) := (KEY.out 2 (9, 9) rfl k).2
  have BE : Hid (Below w.heap.size w (w.drewN k)) := M.below_dr (Below.refl _ w) k
  generalize w.drewN k = w2 at *
  clear SM
  go_wp2
  go_ret
  exact ⟨by first | rfl | simp, BE.out⟩
end Go.Proofs.YtjaccgkeldabfaaGreat
