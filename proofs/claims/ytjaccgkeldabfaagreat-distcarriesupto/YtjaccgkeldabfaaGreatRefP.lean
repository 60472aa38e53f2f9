/- The document's turned, below. -/
import Derived.Test.YtjaccgkeldabfaaGreatOnly
namespace Go.Proofs.YtjaccgkeldabfaaGreat
open Go.RowKit

set_option maxHeartbeats 1000000 in
theorem rturned_any (p : Pr) (w : World) : Calls Tryz.prog 72 #[encP p] w fun e w' => e = .returned (encP (turnP p)) ∧ Below w.heap.size w w' := by
  obtain ⟨x, y⟩ := p
  by_cases h : x > y
  · have f1 : decide (x > y) = true := by rw [decide_eq_true_eq]; exact h
    have HT : Hid (turnP (x, y) = (y, x)) := by show _ = _; unfold turnP; ext <;> simp <;> omega
    rw [HT.out]
    unfold encP
    dsimp only
    clear h HT
    go_enter Tryz.func72, Tryz.ntmps72
    go_wp2
    refine bodyPost_ret (v := .agg #[.int .i64 y, .int .i64 x]) (by simp [results, Tryz.results72, go_sem]) rfl ⟨rfl, ?_⟩
    exact ((Below.refl _ _).alloc (Nat.le_refl _) _).alloc (by simp) _
  · have f1 : decide (x > y) = false := by rw [decide_eq_false_iff_not]; exact h
    have HT : Hid (turnP (x, y) = (x, y)) := by show _ = _; unfold turnP; ext <;> simp <;> omega
    rw [HT.out]
    unfold encP
    dsimp only
    clear h HT
    go_enter Tryz.func72, Tryz.ntmps72
    go_wp2
    refine bodyPost_ret (v := .agg #[.int .i64 x, .int .i64 y]) (by simp [results, Tryz.results72, go_sem]) rfl ⟨rfl, ?_⟩
    exact ((Below.refl _ _).alloc (Nat.le_refl _) _).alloc (by simp) _
set_option maxHeartbeats 4000000 in
theorem rbelow_any (p q : Pr) (r : Bool) (hr : decide (ltP p q) = r) (w : World) : Calls Tryz.prog 73 #[encP p, encP q] w fun e w' => e = .returned (.bool r) ∧ Below w.heap.size w w' := by
  obtain ⟨x, y⟩ := p
  obtain ⟨u, v⟩ := q
  unfold ltP at hr
  dsimp only at hr
  have HB : Hid (Below w.heap.size w ((w.alloc (.cells #[.int .i64 x, .int .i64 y] 33)).alloc (.cells #[.int .i64 u, .int .i64 v] 33))) := ((Below.refl _ _).alloc (Nat.le_refl _) _).alloc (by simp) _
  unfold encP
  dsimp only
  by_cases h1 : x < u
  · have HE : Hid (r = true) := by rw [← hr]; exact decide_eq_true (.inl h1)
    clear hr
    go_enter Tryz.func73, Tryz.ntmps73
    go_wp2
    go_ret
    exact ⟨by rw [HE.out]; rfl, HB.out⟩
  · by_cases h2 : x = u
    · have f2 : (x == u) = true := by rw [beq_iff_eq]; exact h2
      by_cases h3 : y < v
      · have HE : Hid (r = true) := by rw [← hr]; exact decide_eq_true (.inr ⟨h2, h3⟩)
        clear hr h2
        go_enter Tryz.func73, Tryz.ntmps73
        go_wp2
        go_ret
        exact ⟨by rw [HE.out]; rfl, HB.out⟩
      · have HE : Hid (r = false) := by rw [← hr]; exact decide_eq_false (by omega)
        clear hr h2
        go_enter Tryz.func73, Tryz.ntmps73
        go_wp2
        go_ret
        exact ⟨by rw [HE.out]; rfl, HB.out⟩
    · have f2 : (x == u) = false := by rw [beq_eq_false_iff_ne]; exact h2
      have HE : Hid (r = false) := by rw [← hr]; exact decide_eq_false (by omega)
      clear hr h2
      go_enter Tryz.func73, Tryz.ntmps73
      go_wp2
      go_ret
      exact ⟨by rw [HE.out]; rfl, HB.out⟩
end Go.Proofs.YtjaccgkeldabfaaGreat
