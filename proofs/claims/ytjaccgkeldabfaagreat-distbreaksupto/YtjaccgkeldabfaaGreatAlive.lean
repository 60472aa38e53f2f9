/- The law's own: alive. -/
import Derived.Test.YtjaccgkeldabfaaGreatRowsNew
namespace Go.Proofs.YtjaccgkeldabfaaGreat
open Go.RowKit

def exIn : List Pr := [(3, 1), (2, 2), (1, 3), (1, 2)]
def exOut : List Pr := [(1, 2), (1, 3)]
theorem ex_wf : ∀ p ∈ exIn, wfP p := fun p hp => by
  unfold exIn at hp
  simp at hp
  rcases hp with rfl | rfl | rfl | rfl <;> exact ⟨rfl, rfl⟩
theorem ex_norm : IsNorm exIn exOut := by
  refine ⟨by unfold exOut Up ltP; simp, fun p => ?_⟩
  obtain ⟨x, y⟩ := p
  unfold exIn exOut inN turnP
  simp
  omega
set_option maxHeartbeats 2000000 in
theorem alive_any (w : World) : Calls Tryz.prog 8 #[] w fun e w' => e = .returned (.bool true) ∧ Below w.heap.size w w' := by
  obtain ⟨w1, hw1⟩ : ∃ w1, w1 = w.alloc (.cells #[.int .i64 3, .int .i64 1, .int .i64 2, .int .i64 2, .int .i64 1, .int .i64 3, .int .i64 1, .int .i64 2] 33) := ⟨_, rfl⟩
  have B1 : Hid (Below w.heap.size w w1) := by rw [hw1]; exact below_alloc _ _
  have C1 : Hid _ := norm_any w1 (some ⟨w.heap.size, 0, none⟩) 4 exIn 4 rfl (by omega) ex_wf (by rw [hw1]; exact pairs_new w exIn)
  go_enter Tryz.func8, Tryz.ntmps8
  go_wp2_with fail
  rw [← hw1]
  clear hw1
  refine Calls.mono C1.out ?_
  rintro e w2 ⟨v, m, rfl, hN, hr, hb⟩
  obtain rfl := norm_one hN ex_norm
  obtain ⟨a2, c2, rfl, _⟩ := own_shape hr
  obtain ⟨w3, hw3⟩ : ∃ w3, w3 = w2.alloc (.cells #[.int .i64 1, .int .i64 2, .int .i64 1, .int .i64 3] 33) := ⟨_, rfl⟩
  have B2 : Below w.heap.size w w2 := B1.out.trans (hb.mono B1.out.size)
  have B3 : Hid (Below w.heap.size w w3) := by rw [hw3]; exact B2.alloc B2.size _
  have C3 : Hid _ := same_eq w3 a2 (some ⟨w2.heap.size, 0, none⟩) c2 2 exOut 2 rfl (by omega) (by rw [hw3]; exact (own_pairs hr).under (below_alloc _ _)) (by rw [hw3]; exact pairs_new w2 exOut)
  rw [show exOut.length = 2 from rfl]
  clear C1 hN hr hb B2 B1
  go_wp2_with fail
  rw [← hw3]
  clear hw3
  refine Calls.mono C3.out ?_
  rintro e w4 ⟨rfl, dq, hdq⟩
  have B4 : Hid (Below w.heap.size w w4) := by rw [hdq]; exact B3.out.trans ((below_drewN _ _).mono B3.out.size)
  clear C3 hdq B3
  go_wp2
  go_ret
  exact ⟨rfl, B4.out⟩
end Go.Proofs.YtjaccgkeldabfaaGreat
