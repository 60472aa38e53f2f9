/- What the document's own look for brackets within a word answers. -/
import Derived.Test.YtndjcppfkcndgaaDoorRefBytes
namespace Go.Proofs.YtndjcppfkcndgaaDoor
open Go.RowKit

theorem byte_at (t : ByteArray) (i : Nat) (h : i < t.size) : t.data.toList[i]? = some (t[i]'h) := by
  rw [List.getElem?_eq_getElem (by simpa using h)]; rfl
theorem byte_eq (b c : UInt8) : ((b.toNat : Int) == (c.toNat : Int)) = (b == c) := by
  by_cases e : b = c
  · subst e; simp
  · rw [beq_eq_false_iff_ne.2 e, beq_eq_false_iff_ne]
    intro h; exact e (UInt8.toNat_inj.1 (by omega))
/-- Does a bracket begin at the byte i? -/
def markAt (t : ByteArray) (i : Nat) : Prop := t.data.toList[i]? = some (36 : UInt8) ∧ (t.data.toList[i + 1]? = some (40 : UInt8) ∨ t.data.toList[i + 1]? = some (41 : UInt8))
set_option maxRecDepth 100000 in
set_option maxHeartbeats 2000000 in
theorem within_any (t : ByteArray) (w : World) (ht : t.size ≤ 140737488355328) :
    Calls Tryd.prog 26 #[.string t] w fun e w' => e = .returned (.bool (hasMark t)) ∧ w' = w := by
  go_enter Tryd.func26, Tryd.ntmps26
  go_wp2
  go_loopw [3] (fun i wr => ∃ k : Nat, k ≤ t.size ∧ i = .int .i64 k ∧ wr = w ∧ Hid (∀ j, j < k → ¬ markAt t j)) (fun i _ => t.size - (intOf i).toNat)
  case atStart => exact ⟨0, Nat.zero_le _, rfl, rfl, fun j h => absurd h (Nat.not_lt_zero j)⟩
  case round =>
    obtain ⟨k, hk, rfl, rfl, hall⟩ := hrel
    by_cases hlt : k + 1 < t.size
    · have k0 : (0 : Int) ≤ (k : Int) := by omega
      have k1 : (k : Int) < (t.size : Int) := by omega
      have k2 : (k : Int) + 1 < (t.size : Int) := by omega
      have k3 : (0 : Int) ≤ (k : Int) + 1 := by omega
      have k4 : ((k : Int) + 1).toNat = k + 1 := by omega
      have b0 := byte_at t k (by omega)
      have b1 := byte_at t (k + 1) hlt
      have Hstep : Hid (¬ markAt t k → ∀ j, j < k + 1 → ¬ markAt t j) := by
        intro hn j hj
        by_cases e : j = k
        · subst e; exact hn
        · exact hall.out j (by omega)
      have Hyes : Hid (markAt t k → hasMark t = true) := fun h => (hasMark_iff t).2 ⟨k, h⟩
      by_cases e1 : t[k]'(by omega) = 36
      · have f1 : (((t[k]'(by omega)).toNat : Int) == 36) = true := by have := byte_eq (t[k]'(by omega)) 36; rw [e1] at this ⊢; rfl
        by_cases e2 : t[k + 1]'hlt = 40
        · have f2 : (((t[k + 1]'hlt).toNat : Int) == 40) = true := by rw [e2]; rfl
          have Hm : Hid (hasMark t = true) := Hyes.out ⟨by rw [b0, e1], .inl (by rw [b1, e2])⟩
          clear e1 e2 b0 b1
          go_wp2
          go_ret
          exact ⟨by rw [Hm.out]; rfl, rfl⟩
        · have f2 : (((t[k + 1]'hlt).toNat : Int) == 40) = false := by have := byte_eq (t[k + 1]'hlt) 40; rw [beq_eq_false_iff_ne.2 e2] at this; exact this
          by_cases e3 : t[k + 1]'hlt = 41
          · have f3 : (((t[k + 1]'hlt).toNat : Int) == 41) = true := by rw [e3]; rfl
            have Hm : Hid (hasMark t = true) := Hyes.out ⟨by rw [b0, e1], .inr (by rw [b1, e3])⟩
            clear e1 e2 e3 b0 b1
            go_wp2
            go_ret
            exact ⟨by rw [Hm.out]; rfl, rfl⟩
          · have f3 : (((t[k + 1]'hlt).toNat : Int) == 41) = false := by have := byte_eq (t[k + 1]'hlt) 41; rw [beq_eq_false_iff_ne.2 e3] at this; exact this
            have Hm : Hid (¬ markAt t k) := by
              rintro ⟨_, h | h⟩
              · rw [b1] at h; exact e2 (Option.some.inj h)
              · rw [b1] at h; exact e3 (Option.some.inj h)
            clear e1 e2 e3 b0 b1
            go_wp2
            go_roundw
            case rel => exact ⟨k + 1, by omega, by go_num, (by first | rfl | trivial), Hstep.out Hm.out⟩
            case measure => simp [intOf]; omega
      · have f1 : (((t[k]'(by omega)).toNat : Int) == 36) = false := by have := byte_eq (t[k]'(by omega)) 36; rw [beq_eq_false_iff_ne.2 e1] at this; exact this
        have Hm : Hid (¬ markAt t k) := by
          rintro ⟨h, _⟩
          rw [b0] at h; exact e1 (Option.some.inj h)
        clear e1 b0 b1
        go_wp2
        go_roundw
        case rel => exact ⟨k + 1, by omega, by go_num, (by first | rfl | trivial), Hstep.out Hm.out⟩
        case measure => simp [intOf]; omega
    · have k2 : (t.size : Int) ≤ (k : Int) + 1 := by omega
      have Hm : Hid (hasMark t = false) := by
        show _ = _
        cases hM : hasMark t with
        | false => rfl
        | true =>
          obtain ⟨i, h1, h2⟩ := (hasMark_iff t).1 hM
          have hi : i + 1 < t.size := by
            rcases h2 with h2 | h2 <;> simpa using (List.getElem?_eq_some_iff.1 h2).1
          exact absurd ⟨h1, h2⟩ (hall.out i (by omega))
      go_wp2
      go_ret
      exact ⟨by rw [Hm.out]; rfl, rfl⟩
end Go.Proofs.YtndjcppfkcndgaaDoor
