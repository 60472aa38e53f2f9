/- The laws' own looks at lists of numbers. -/
import Derived.Test.YtmgpnaehniohgaaDoorEOrd
namespace Go.Proofs.YtmgpnaehniohgaaDoor.E
open Go.RowKit

set_option maxHeartbeats 2000000 in
/-- 'same' of two lists that hold the same. -/
theorem same_eq (w : World) (a b : Option Addr) (ca cb : Nat) (l : List Int) (n : Nat) (ha : l.length = n) (_hn : n ≤ 4611686018427387904) (hA : IntsAt w a l) (hB : IntsAt w b l) :
    Calls Tryd.prog 12 #[.slice a n ca, .slice b n cb] w fun e w' => e = .returned (.bool true) ∧ ∃ k, w' = w.drewN k := by
  have HA : Hid (IntsAt w a l) := hA
  have HB : Hid (IntsAt w b l) := hB
  have La : Hid (l.length = n) := ha
  clear hA hB ha
  go_enter Tryd.func12, Tryd.ntmps12
  go_wp2_with fail
  go_loopw [5] (fun i wx => ∃ j k : Nat, j ≤ n ∧ i = .int .i64 j ∧ wx = w.drewN k) (fun i _ => n - (intOf i).toNat)
  case atStart => exact ⟨0, 0, Nat.zero_le _, rfl, rfl⟩
  case round =>
    obtain ⟨j, k, hj, rfl, rfl⟩ := hrel
    by_cases hlt : j < n
    · have n1 : (j : Int) < (n : Int) := by omega
      obtain ⟨x, hx⟩ : ∃ x, l[j]? = some x := ⟨l[j]'(by rw [La.out]; exact hlt), List.getElem?_eq_getElem _⟩
      obtain ⟨b1, o1, rfl, c1⟩ := HA.out j x hx
      obtain ⟨b2, o2, rfl, c2⟩ := HB.out j x hx
      clear hx
      go_wp2_with fail
      go_quiet (fail)
      go_wp2
      go_roundw
      case rel => exact ⟨j + 1, _, by omega, by go_num, rfl⟩
      case measure => simp [intOf]; omega
    · have n1 : ¬ (j : Int) < (n : Int) := by omega
      go_wp2
      go_ret
      exact ⟨rfl, _, rfl⟩

set_option maxHeartbeats 2000000 in
theorem in_any (w : World) (a : Option Addr) (ca : Nat) (l : List Int) (n : Nat) (y : Int) (ha : l.length = n) (_hn : n ≤ 4611686018427387904) (hA : IntsAt w a l) :
    Calls Tryd.prog 7 #[.slice a n ca, .int .i64 y] w fun e w' => e = .returned (.bool (decide (y ∈ l))) ∧ w' = w := by
  have HA : Hid (IntsAt w a l) := hA
  have La : Hid (l.length = n) := ha
  clear hA ha
  go_enter Tryd.func7, Tryd.ntmps7
  go_wp2_with fail
  go_loop [5] (fun i => ∃ j : Nat, j ≤ n ∧ i = .int .i64 j ∧ Hid (y ∉ l.take j)) (fun i => n - (intOf i).toNat)
  case atStart => exact ⟨0, Nat.zero_le _, rfl, by show ¬ _; simp⟩
  case round =>
    obtain ⟨j, hj, rfl, he⟩ := hrel
    by_cases hlt : j < n
    · have n1 : (j : Int) < (n : Int) := by omega
      obtain ⟨x, hx⟩ : ∃ x, l[j]? = some x := ⟨l[j]'(by rw [La.out]; exact hlt), List.getElem?_eq_getElem _⟩
      obtain ⟨b1, o1, rfl, c1⟩ := HA.out j x hx
      by_cases hxy : x = y
      · subst hxy
        have Hm : Hid (decide (x ∈ l) = true) := decide_eq_true (List.mem_of_getElem? hx)
        clear hx he
        go_wp2
        go_ret
        exact ⟨by rw [Hm.out]; rfl, rfl⟩
      · have hb : (x == y) = false := by simpa using hxy
        have Hn : Hid (y ∉ l.take (j + 1)) := by
          show ¬ _
          rw [List.take_add_one, hx]
          intro h
          rcases List.mem_append.1 h with h | h
          · exact he.out h
          · simp at h; exact hxy h.symm
        clear hx he hxy
        go_wp2
        go_round
        case rel => exact ⟨j + 1, by omega, by go_num, Hn⟩
        case measure => simp [intOf]; omega
    · have n1 : ¬ (j : Int) < (n : Int) := by omega
      have Hm : Hid (decide (y ∈ l) = false) := by
        have := he.out
        rw [List.take_of_length_le (by rw [La.out]; omega)] at this
        exact decide_eq_false this
      clear he
      go_wp2
      go_ret
      exact ⟨by rw [Hm.out]; rfl, rfl⟩
end Go.Proofs.YtmgpnaehniohgaaDoor.E
