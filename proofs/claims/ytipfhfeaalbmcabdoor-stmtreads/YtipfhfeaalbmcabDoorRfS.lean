/- The document's small questions of a reader: keyword, kind, full. -/
import Derived.Test.YtipfhfeaalbmcabDoorRMay
import Derived.Test.YtipfhfeaalbmcabDoorKindOf
namespace Go.Proofs.YtipfhfeaalbmcabDoor
open Go.RowKit

set_option maxRecDepth 100000 in
set_option maxHeartbeats 4000000 in
theorem rkey_any (s : ByteArray) (w : World) (hs : s.size ≤ 1099511627776) : Calls Tryd.prog 24 #[.string s] w fun e w' => e = .returned (.bool (keyB s)) ∧ w' = w := by
  by_cases h : 0 < s.size
  · have h1 : (0 : Int) < (s.size : Int) := by omega
    have HK : Hid (keyB s = decide ((s[0]'h).toNat = 36)) := keyB_at h
    go_enter Tryd.func24, Tryd.ntmps24
    go_wp2
    go_ret
    refine ⟨ret_bool ?_, rfl⟩
    rw [HK.out]
    by_cases h36 : (s[0]'h).toNat = 36
    · simp [h36]
    · have : ¬ (((s[0]'h).toNat : Nat) : Int) = 36 := by omega
      simp [h36, this]
  · have h1 : ¬ (0 : Int) < (s.size : Int) := by omega
    have HK : Hid (keyB s = false) := keyB_nil h
    go_enter Tryd.func24, Tryd.ntmps24
    go_wp2
    go_ret
    exact ⟨ret_bool (by rw [HK.out]), rfl⟩
/-- Is there no room for a word more? -/
def fullB (k : Nat) (n : Nat) : Bool := decide (0 ≤ rmstI k) && decide (rmstI k ≤ (n : Int))
set_option maxRecDepth 100000 in
set_option maxHeartbeats 4000000 in
theorem rfull_any (w : World) (k n : Nat) (h : k < 10) (h0 : 0 < k) : Calls Tryd.prog 25 #[.int .i64 k, .int .i64 n] w fun e w' => e = .returned (.bool (fullB k n)) ∧ w' = w := by
  have RM : Hid _ := rmost_any w k h h0
  obtain ⟨m, hm⟩ : ∃ m, rmstI k = m := ⟨_, rfl⟩
  have HF : Hid (fullB k n = (decide (0 ≤ m) && decide (m ≤ (n : Int)))) := by show _ = _; unfold fullB; rw [hm]
  rw [hm] at RM
  clear hm
  by_cases h1 : 0 ≤ m
  · go_enter Tryd.func25, Tryd.ntmps25
    go_wp2_with fail
    refine Calls.mono RM.out ?_
    rintro e w2 ⟨rfl, hw2⟩
    subst w2
    go_wp2_with fail
    refine Calls.mono RM.out ?_
    rintro e w2 ⟨rfl, hw2⟩
    subst w2
    clear RM
    go_wp2
    go_ret
    exact ⟨ret_bool (by rw [HF.out]; simp [h1]), rfl⟩
  · go_enter Tryd.func25, Tryd.ntmps25
    go_wp2_with fail
    refine Calls.mono RM.out ?_
    rintro e w2 ⟨rfl, hw2⟩
    subst w2
    clear RM
    go_wp2
    go_ret
    exact ⟨ret_bool (by rw [HF.out, decide_eq_false (by omega : ¬ 0 ≤ m)]; rfl), rfl⟩

def kwL : List ByteArray := (List.range 10).map kwB
set_option maxRecDepth 100000 in
set_option maxHeartbeats 8000000 in
theorem rkind_any (w : World) (s : ByteArray) : Calls Tryd.prog 27 #[.string s] w fun e w' => e = .returned (.int .i64 (kindN s)) ∧ Below w.heap.size w w' := by
  obtain ⟨w1, hw1⟩ : ∃ w1, w1 = w.alloc (.cells #[.string ⟨#[]⟩, .string ⟨#[36, 99]⟩, .string ⟨#[36, 118]⟩, .string ⟨#[36, 102]⟩, .string ⟨#[36, 101]⟩, .string ⟨#[36, 100]⟩, .string ⟨#[36, 97]⟩, .string ⟨#[36, 112]⟩, .string ⟨#[36, 123]⟩, .string ⟨#[36, 125]⟩] 9) := ⟨_, rfl⟩
  have B1 : Hid (Below w.heap.size w w1) := by rw [hw1]; exact below_alloc _ _
  have K1 : Hid (w1.heap[w.heap.size]? = some (.cells #[.string ⟨#[]⟩, .string ⟨#[36, 99]⟩, .string ⟨#[36, 118]⟩, .string ⟨#[36, 102]⟩, .string ⟨#[36, 101]⟩, .string ⟨#[36, 100]⟩, .string ⟨#[36, 97]⟩, .string ⟨#[36, 112]⟩, .string ⟨#[36, 123]⟩, .string ⟨#[36, 125]⟩] 9 (0, 0))) := by show _ = _; rw [hw1]; exact heap_alloc_new w _
  have CE : Hid (∀ j, j < 10 → w1.cell? ⟨w.heap.size, j, none⟩ = some (.string (kwB j))) := fun j hj => by
    rw [M.cell_whole K1.out j]
    obtain rfl | rfl | rfl | rfl | rfl | rfl | rfl | rfl | rfl | rfl := ten hj <;> rfl
  have H1 : Hid (w1 = w.alloc (.cells #[.string ⟨#[]⟩, .string ⟨#[36, 99]⟩, .string ⟨#[36, 118]⟩, .string ⟨#[36, 102]⟩, .string ⟨#[36, 101]⟩, .string ⟨#[36, 100]⟩, .string ⟨#[36, 97]⟩, .string ⟨#[36, 112]⟩, .string ⟨#[36, 123]⟩, .string ⟨#[36, 125]⟩] 9)) := hw1
  clear hw1
  go_enter Tryd.func27, Tryd.ntmps27
  go_upto_region 2 with fail
  rw [← H1.out]
  clear H1
  go_wp2_with fail
  go_loopw [4] (fun i wx => ∃ j : Nat, 1 ≤ j ∧ j ≤ 10 ∧ i = .int .i64 j ∧ Hid (∀ i, 0 < i → i < j → kwB i ≠ s) ∧ Hid (wx = w1)) (fun i _ => 10 - (intOf i).toNat)
  case atStart => exact ⟨1, Nat.le_refl _, by omega, rfl, (fun i h1 h2 => by omega), rfl⟩
  case round =>
    obtain ⟨j, hj1, hj, rfl, hA, hB⟩ := hrel
    have hB' := hB.out
    subst wr
    by_cases hlt : j < 10
    · have n1 : (j : Int) < 10 := by omega
      have c0 := CE.out j hlt
      by_cases he : kwB j = s
      · have A2 : Hid (kindN s = j) := by
          have h0 : kwB 0 ≠ s := fun e => by rw [← he] at e; have : ∀ j, j < 10 → 1 ≤ j → kwB 0 ≠ kwB j := (by decide); exact this j hlt hj1 e
          refine kindN_hit hlt (fun i hi => ?_) he
          by_cases hi0 : i = 0
          · rw [hi0]; exact h0
          · exact hA.out i (by omega) hi
        rw [he] at c0
        go_wp2
        go_ret
        exact ⟨by rw [A2.out]; rfl, B1.out⟩
      · have A2 : Hid (∀ i, 0 < i → i < j + 1 → kwB i ≠ s) := fun i h0 hi => by
          by_cases h : i < j
          · exact hA.out i h0 h
          · obtain rfl : i = j := by omega
            exact he
        have hb : ((kwB j).toList == s.toList) = false := by
          rw [beq_eq_false_iff_ne]
          intro e
          apply he
          generalize kwB j = a at e
          obtain ⟨⟨a⟩⟩ := a
          obtain ⟨⟨b⟩⟩ := s
          simpa [ByteArray.toList_eq] using e
        clear he
        generalize kwB j = kj at *
        go_wp2
        exact ⟨⟨j + 1, by omega, by omega, by go_num, A2.out, by first | exact rfl | exact trivial⟩, by simp [intOf]; omega⟩
    · obtain rfl : j = 10 := by omega
      go_wp2
      go_ret
      refine ⟨?_, B1.out⟩
      by_cases h0 : kwB 0 = s
      · have : kindN s = 0 := kindN_hit (by omega) (fun i hi => absurd hi (Nat.not_lt_zero _)) h0
        rw [this]; rfl
      · have : kindN s = 0 := kindN_miss fun i hi => by
          by_cases hi0 : i = 0
          · rw [hi0]; exact h0
          · exact hA.out i (by omega) hi
        rw [this]; rfl
end Go.Proofs.YtipfhfeaalbmcabDoor
