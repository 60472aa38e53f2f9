/- The law's own words: mod, word. -/
import Derived.Test.YtipfhfeaalbmcaaDoorBkPu
import Derived.Deep.DeepCutAuto
namespace Go.Proofs.YtipfhfeaalbmcaaDoor
open Go.RowKit

theorem wrap64_id (n : Int) (h1 : -9223372036854775808 ≤ n) (h2 : n ≤ 9223372036854775807) : IntKind.i64.wrap n = n := by rw [IntKind.wrap_i64]; omega
theorem tmod_emod (n m : Int) : (n.tmod m) % m = n % m := by
  have h := Int.tmod_add_mul_tdiv n m
  conv => rhs; rw [← h]
  rw [Int.add_mul_emod_self_left]
set_option maxRecDepth 100000 in
set_option maxHeartbeats 2000000 in
theorem mod_any (w : World) (n : Int) (m : Nat) (h0 : 0 < m) (hm : m ≤ 1099511627776) (_ : -9223372036854775808 ≤ n) (_ : n ≤ 9223372036854775807) :
    Calls Tryd.prog 38 #[.int .i64 n, .int .i64 m] w fun e w' => e = .returned (.int .i64 (n % m)) ∧ w' = w := by
  have z0 : ¬ (m : Int) = 0 := by omega
  have hlt := Int.tmod_lt_of_pos n (show (0 : Int) < m by omega)
  have hgt := Int.lt_tmod_of_pos n (show (0 : Int) < m by omega)
  have z1 : ¬ (m : Int) = -1 := by omega
  have hw : IntKind.i64.wrap (n.tmod m) = n.tmod m := wrap64_id _ (by omega) (by omega)
  by_cases hneg : n.tmod m < 0
  · have hE : Hid (n.tmod m + m = n % m) := by
      show _ = _
      have h2 : (n.tmod m + m) % m = n % m := by rw [Int.add_emod_right, tmod_emod]
      rw [← h2, Int.emod_eq_of_lt (by omega) (by omega)]
    have hw2 : IntKind.i64.wrap (n.tmod m + m) = n.tmod m + m := wrap64_id _ (by omega) (by omega)
    go_enter Tryd.func38, Tryd.ntmps38
    go_wp2
    go_ret
    exact ⟨by rw [← hE.out]; rfl, rfl⟩
  · have hE : Hid (n.tmod m = n % m) := by
      show _ = _
      have h2 : (n.tmod m) % m = n % m := tmod_emod n m
      rw [← h2, Int.emod_eq_of_lt (by omega) (by omega)]
    go_enter Tryd.func38, Tryd.ntmps38
    go_wp2
    go_ret
    exact ⟨by rw [← hE.out]; rfl, rfl⟩
def wordL : List ByteArray := [⟨#[120]⟩, ⟨#[112, 104]⟩, ⟨#[119, 102, 102]⟩, ⟨#[124, 45]⟩, ⟨#[40]⟩, ⟨#[41]⟩, ⟨#[97, 120, 45, 49]⟩, ⟨#[97, 36, 98]⟩, ⟨#[126]⟩, ⟨#[63]⟩, ⟨#[65, 46, 98, 95, 99]⟩]
/-- One of the law's words. -/
def wdB (n : Int) : ByteArray := wordL.getD (n % 11).toNat ⟨#[]⟩
def wdT (n : Int) : Tok := ⟨wdB n, 0, 0, 0⟩
theorem wd_plain (n : Int) : plainB (wdB n) = true := by
  have h : ∀ j, j < 11 → plainB (wordL.getD j ⟨#[]⟩) = true := by decide
  exact h _ (by have := Int.emod_lt_of_pos n (show (0 : Int) < 11 by omega); have := Int.emod_nonneg n (show (11 : Int) ≠ 0 by omega); omega)
theorem wd_size (n : Int) : (wdB n).size ≤ 5 := by
  have h : ∀ j, j < 11 → (wordL.getD j ⟨#[]⟩).size ≤ 5 := by decide
  exact h _ (by have := Int.emod_lt_of_pos n (show (0 : Int) < 11 by omega); have := Int.emod_nonneg n (show (11 : Int) ≠ 0 by omega); omega)
theorem eleven {k : Nat} (h : k < 11) : k = 0 ∨ k = 1 ∨ k = 2 ∨ k = 3 ∨ k = 4 ∨ k = 5 ∨ k = 6 ∨ k = 7 ∨ k = 8 ∨ k = 9 ∨ k = 10 := by omega
set_option maxRecDepth 100000 in
set_option maxHeartbeats 4000000 in
theorem word_any (w : World) (n : Int) (h1 : -9223372036854775808 ≤ n) (h2 : n ≤ 9223372036854775807) : Calls Tryd.prog 62 #[.int .i64 n] w fun e w' => e = .returned (.agg #[.string (wdB n), .int .i64 0, .int .i64 0, .int .i64 0]) ∧ Below w.heap.size w w' := by
  obtain ⟨j, hj, hj11⟩ : ∃ j : Nat, n % ((11 : Nat) : Int) = j ∧ j < 11 := ⟨(n % 11).toNat, by have := Int.emod_nonneg n (show (11 : Int) ≠ 0 by omega); omega, by have := Int.emod_lt_of_pos n (show (0 : Int) < 11 by omega); have := Int.emod_nonneg n (show (11 : Int) ≠ 0 by omega); omega⟩
  have HV : Hid (wdB n = wordL.getD j ⟨#[]⟩) := by show _ = _; unfold wdB; rw [show (n % 11).toNat = j by have : n % 11 = (j : Int) := hj; rw [this, Int.toNat_natCast]]
  obtain ⟨w1, hw1⟩ : ∃ w1, w1 = w.alloc (.cells #[.string ⟨#[]⟩, .int .i64 0, .int .i64 0, .int .i64 0] 34) := ⟨_, rfl⟩
  have b1 : Below w.heap.size w w1 := by rw [hw1]; exact below_alloc _ _
  have k1 : w1.heap[w.heap.size]? = some (.cells #[.string ⟨#[]⟩, .int .i64 0, .int .i64 0, .int .i64 0] 34 (0, 0)) := by rw [hw1]; exact heap_alloc_new w _
  have s1 : w1.heap.size = w.heap.size + 1 := by rw [hw1]; simp
  obtain ⟨w2, hw2⟩ : ∃ w2, w2 = w1.alloc (.cells #[.string ⟨#[120]⟩, .string ⟨#[112, 104]⟩, .string ⟨#[119, 102, 102]⟩, .string ⟨#[124, 45]⟩, .string ⟨#[40]⟩, .string ⟨#[41]⟩, .string ⟨#[97, 120, 45, 49]⟩, .string ⟨#[97, 36, 98]⟩, .string ⟨#[126]⟩, .string ⟨#[63]⟩, .string ⟨#[65, 46, 98, 95, 99]⟩] 9) := ⟨_, rfl⟩
  have b2 : Below w1.heap.size w1 w2 := by rw [hw2]; exact below_alloc _ _
  have k2 : w2.heap[w1.heap.size]? = some (.cells #[.string ⟨#[120]⟩, .string ⟨#[112, 104]⟩, .string ⟨#[119, 102, 102]⟩, .string ⟨#[124, 45]⟩, .string ⟨#[40]⟩, .string ⟨#[41]⟩, .string ⟨#[97, 120, 45, 49]⟩, .string ⟨#[97, 36, 98]⟩, .string ⟨#[126]⟩, .string ⟨#[63]⟩, .string ⟨#[65, 46, 98, 95, 99]⟩] 9 (0, 0)) := by rw [hw2]; exact heap_alloc_new w1 _
  have K1 : Hid (w2.heap[w.heap.size]? = some (.cells #[.string ⟨#[]⟩, .int .i64 0, .int .i64 0, .int .i64 0] 34 (0, 0))) := (b2.block _ (by omega)).trans k1
  have B2 : Hid (Below w.heap.size w w2) := b1.trans (b2.mono b1.size)
  have c0 : w2.cell? ⟨w1.heap.size, j, none⟩ = some (.string (wdB n)) := by
    rw [M.cell_whole k2, HV.out]
    rcases eleven hj11 with rfl | rfl | rfl | rfl | rfl | rfl | rfl | rfl | rfl | rfl | rfl <;> rfl
  have MD : Hid _ := mod_any w2 n 11 (by omega) (by omega) h1 h2
  rw [hj] at MD
  have H1 : Hid (w1 = w.alloc (.cells #[.string ⟨#[]⟩, .int .i64 0, .int .i64 0, .int .i64 0] 34)) := hw1
  have H2 : Hid (w2 = w1.alloc (.cells #[.string ⟨#[120]⟩, .string ⟨#[112, 104]⟩, .string ⟨#[119, 102, 102]⟩, .string ⟨#[124, 45]⟩, .string ⟨#[40]⟩, .string ⟨#[41]⟩, .string ⟨#[97, 120, 45, 49]⟩, .string ⟨#[97, 36, 98]⟩, .string ⟨#[126]⟩, .string ⟨#[63]⟩, .string ⟨#[65, 46, 98, 95, 99]⟩] 9)) := hw2
  obtain ⟨D, hD⟩ : ∃ D, w.heap.size = D := ⟨_, rfl⟩
  have HD : Hid (w.heap.size = D ∧ w1.heap.size = D + 1) := ⟨hD, by omega⟩
  rw [HD.out.2] at c0
  rw [HD.out.1] at K1
  have d0 : w2.cell? ⟨D, 0, none⟩ = some (.string ⟨#[]⟩) := M.cell_whole K1.out 0
  have d1 : w2.cell? ⟨D, 1, none⟩ = some (.int .i64 0) := M.cell_whole K1.out 1
  have d2 : w2.cell? ⟨D, 2, none⟩ = some (.int .i64 0) := M.cell_whole K1.out 2
  have d3 : w2.cell? ⟨D, 3, none⟩ = some (.int .i64 0) := M.cell_whole K1.out 3
  have f0 : w2.frozen? ⟨D, 0, none⟩ = false := by simp [World.frozen?, K1.out]
  have f1 : w2.frozen? ⟨D, 1, none⟩ = false := by simp [World.frozen?, K1.out]
  have f2 : w2.frozen? ⟨D, 2, none⟩ = false := by simp [World.frozen?, K1.out]
  have f3 : w2.frozen? ⟨D, 3, none⟩ = false := by simp [World.frozen?, K1.out]
  have CL : Hid (∀ W', M.Ch (fun b => b = D) w2 W' → Below w.heap.size w W') := fun W' hc => B2.out.trans (hc.below B2.out.size fun b e => by rw [e]; exact Nat.le_of_eq HD.out.1)
  clear hw1 hw2 b1 b2 k1 k2 s1 hj hD
  have n1 : (j : Int) < 11 := by omega
  go_enter Tryd.func62, Tryd.ntmps62
  go_upto_region 2 with fail
  rw [← H1.out, ← H2.out, HD.out.1]
  clear H1 H2
  go_wp2_with fail
  refine Calls.mono MD.out ?_
  rintro e wz ⟨rfl, hwz⟩
  subst wz
  clear MD
  go_wp2
  obtain ⟨wz, hwz⟩ : ∃ wz, wz = (((w2.setCell ⟨D, 0, none⟩ (.string (wdB n))).setCell ⟨D, 1, none⟩ (.int .i64 0)).setCell ⟨D, 2, none⟩ (.int .i64 0)).setCell ⟨D, 3, none⟩ (.int .i64 0) := ⟨_, rfl⟩
  have KZ : wz.heap[D]? = some (.cells #[.string (wdB n), .int .i64 0, .int .i64 0, .int .i64 0] 34 (0, 0)) := by rw [hwz]; exact M.heap_set_same (M.heap_set_same (M.heap_set_same (M.heap_set_same K1.out)))
  have CZ : Hid (Below w.heap.size w wz) := by show Below _ _ _; rw [hwz]; exact CL.out _ ((((M.ch_set w2 D 0 _).trans (M.ch_set _ D 1 _)).trans (M.ch_set _ D 2 _)).trans (M.ch_set _ D 3 _))
  rw [← hwz]
  have r0 : wz.cell? ⟨D, 0, none⟩ = some (.string (wdB n)) := M.cell_whole KZ 0
  have r1 : wz.cell? ⟨D, 1, none⟩ = some (.int .i64 0) := M.cell_whole KZ 1
  have r2 : wz.cell? ⟨D, 2, none⟩ = some (.int .i64 0) := M.cell_whole KZ 2
  have r3 : wz.cell? ⟨D, 3, none⟩ = some (.int .i64 0) := M.cell_whole KZ 3
  clear hwz KZ
  refine bodyPost_ret (by simp [results, Tryd.results62, go_sem, r0, r1, r2, r3]; try rfl) rfl ?_
  exact ⟨rfl, CZ.out⟩
end Go.Proofs.YtipfhfeaalbmcaaDoor
