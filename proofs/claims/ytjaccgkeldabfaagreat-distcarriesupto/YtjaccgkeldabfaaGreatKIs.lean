/- Which symbols are variables, as the document's answer takes it: kinds, Is. -/
import Derived.Test.YtjaccgkeldabfaaGreatVarsF
namespace Go.Proofs.YtjaccgkeldabfaaGreat
open Go.RowKit

/-- The document's kinds, of a rest. -/
def kindsV (m r : Int) : Value := .agg #[.bool (decide (m < 1)), .slice none 0 0, .int .i64 0, .bool false, .int .i64 m, .int .i64 r, .slice none 0 0]
set_option maxHeartbeats 1000000 in
theorem kinds_any (w : World) (sl ss sh : Value) (m r : Int) :
    Calls Tryz.prog 28 #[carried sl ss sh m r] w fun e w' => e = .returned (kindsV m r) ∧ Below w.heap.size w w' := by
  unfold carried kindsV
  go_enter Tryz.func28, Tryz.ntmps28
  go_wp2
  (try simp only [Exit.inBlock, Exit.then])
  refine bodyPost_ret (by simp [results, Tryz.results28, go_sem]; try rfl) rfl ?_
  exact ⟨rfl, (below_alloc _ _).trans ((below_alloc _ _).mono (by simp))⟩
theorem isV_rem {m r x : Int} (h1 : 1 ≤ m) : isV m r x = decide ((if x.tmod m < 0 then x.tmod m + m else x.tmod m) < r) := by
  have h0 : ¬ m < 1 := by omega
  unfold isV
  rw [decide_eq_false h0, Bool.false_or]
  have hE : x % m = if x.tmod m < 0 then x.tmod m + m else x.tmod m := by
    rcases Int.le_total 0 x with h | h
    · rw [if_neg (by have := Int.tmod_nonneg m h; omega), Int.tmod_eq_emod_of_nonneg h]
    · have h2 := Int.tmod_add_mul_tdiv x m
      have h3 := Int.emod_nonneg x (b := m) (by omega)
      have h4 := Int.emod_lt_of_pos x (b := m) (by omega)
      have hlt : x.tmod m < m := by have := Int.tmod_lt_of_pos x (b := m) (by omega); exact this
      have hgt : -m < x.tmod m := by
        have := Int.tmod_lt_of_pos (-x) (b := m) (by omega); rw [Int.neg_tmod] at this; omega
      have h5 : (x.tmod m) % m = x % m := by
        have : x % m = (x.tmod m + m * x.tdiv m) % m := by rw [h2]
        rw [this, Int.add_mul_emod_self_left]
      split
      · rw [← h5, ← Int.add_emod_right, Int.emod_eq_of_lt (by omega) (by omega)]
      · rw [← h5, Int.emod_eq_of_lt (by omega) (by omega)]
  rw [hE]
set_option maxHeartbeats 2000000 in
theorem is_any (w : World) (m r x : Int) (hx : wfI x) (hm : wfI m) :
    Calls Tryz.prog 88 #[kindsV m r, .int .i64 x] w fun e w' => e = .returned (.bool (isV m r x)) ∧ Below w.heap.size w w' := by
  unfold kindsV
  obtain ⟨w1, hw1⟩ : ∃ w1, w1 = w.alloc (.cells #[.bool (decide (m < 1)), .slice none 0 0, .int .i64 0, .bool false, .int .i64 m, .int .i64 r, .slice none 0 0] 69) := ⟨_, rfl⟩
  have HB : Hid (Below w.heap.size w w1) := by rw [hw1]; exact below_alloc _ _
  have k0 : w1.cell? ⟨w.heap.size, 0, none⟩ = some (.bool (decide (m < 1))) := by rw [hw1]; exact World.cell?_alloc_new w _ _ 0
  have k1 : w1.cell? ⟨w.heap.size, 1, none⟩ = some (.slice none 0 0) := by rw [hw1]; exact World.cell?_alloc_new w _ _ 1
  have k2 : w1.cell? ⟨w.heap.size, 2, none⟩ = some (.int .i64 0) := by rw [hw1]; exact World.cell?_alloc_new w _ _ 2
  have k4 : w1.cell? ⟨w.heap.size, 4, none⟩ = some (.int .i64 m) := by rw [hw1]; exact World.cell?_alloc_new w _ _ 4
  have k5 : w1.cell? ⟨w.heap.size, 5, none⟩ = some (.int .i64 r) := by rw [hw1]; exact World.cell?_alloc_new w _ _ 5
  by_cases h1 : m < 1
  · have HV : Hid (isV m r x = true) := by show _ = _; unfold isV; simp [h1]
    have hd : decide (m < 1) = true := decide_eq_true h1
    rw [hd] at k0 hw1
    rw [hd]
    clear hx hm h1 hd
    go_enter Tryz.func88, Tryz.ntmps88
    go_wp2_with fail
    rw [← hw1]
    clear hw1
    go_ret
    exact ⟨by rw [HV.out]; rfl, HB.out⟩
  · have hd : decide (m < 1) = false := decide_eq_false h1
    rw [hd] at k0 hw1
    rw [hd]
    obtain ⟨a1, a2⟩ := wfI_in hx
    obtain ⟨b1, b2⟩ := wfI_in hm
    have g1 : (0 < m) = True := by simp; omega
    have e0 : (m == 0) = false := by rw [beq_eq_false_iff_ne]; omega
    have hlt : x.tmod m < m := by have := Int.tmod_lt_of_pos x (b := m) (by omega); exact this
    have hgt : -m < x.tmod m := by
      rcases Int.le_total 0 x with h | h
      · have := Int.tmod_nonneg m h; omega
      · have := Int.tmod_lt_of_pos (-x) (b := m) (by omega); rw [Int.neg_tmod] at this; omega
    have ew : IntKind.i64.wrap (x.tmod m) = x.tmod m := IntWalk.i64_in _ (by omega)
    have HV : Hid (isV m r x = decide ((if x.tmod m < 0 then x.tmod m + m else x.tmod m) < r)) := isV_rem (by omega)
    by_cases hneg : x.tmod m < 0
    · have ew2 : IntKind.i64.wrap (x.tmod m + m) = x.tmod m + m := IntWalk.i64_in _ (by omega)
      rw [if_pos hneg] at HV
      by_cases hx0 : 0 ≤ x
      · exact absurd (Int.tmod_nonneg m hx0) (by omega)
      · clear hx hm h1 hd a1 a2 b1 b2
        go_enter Tryz.func88, Tryz.ntmps88
        go_wp2_with fail
        rw [← hw1]
        clear hw1
        go_wp2
        go_ret
        exact ⟨by rw [HV.out]; rfl, HB.out⟩
    · rw [if_neg hneg] at HV
      by_cases hx0 : 0 ≤ x
      · have hx1 : ¬ x < 0 := by omega
        have et : x.tmod m = x % m := Int.tmod_eq_emod_of_nonneg hx0
        rw [et] at HV hneg ew hlt hgt
        clear hx hm h1 hd a1 a2 b1 b2 et
        go_enter Tryz.func88, Tryz.ntmps88
        go_wp2_with fail
        rw [← hw1]
        clear hw1
        go_wp2
        go_ret
        exact ⟨by rw [HV.out]; rfl, HB.out⟩
      · clear hx hm h1 hd a1 a2 b1 b2
        go_enter Tryz.func88, Tryz.ntmps88
        go_wp2_with fail
        rw [← hw1]
        clear hw1
        go_wp2
        go_ret
        exact ⟨by rw [HV.out]; rfl, HB.out⟩
end Go.Proofs.YtjaccgkeldabfaaGreat
