/- Laid together: KRefPlaces, KRefBytes, KRefWithin. -/
import Derived.Test.YtipfhfeaalbmcabDoorKPlaces
import Derived.Test.YtipfhfeaalbmcabDoorKWm
import Derived.Test.YtipfhfeaalbmcabDoorKScanA
namespace Go.Proofs.YtipfhfeaalbmcabDoor.K
open Go.RowKit

set_option maxRecDepth 100000 in
set_option maxHeartbeats 1000000 in
theorem forth_any (s : ByteArray) (a off : Nat) (w : World) (hs : s.size ≤ 140737488355328) (ha : a ≤ off) (ho : off ≤ s.size) :
    Calls Tryd.prog 30 #[.string s, posV s a, .int .i64 off] w fun e w' => e = .returned (posV s off) ∧ Below w.heap.size w w' := by
  unfold posV
  go_enter Tryd.func30, Tryd.ntmps30
  go_wp2
  go_loopw [7] (fun _ wr => ∃ k : Nat, k ≤ off ∧ wr = (w.alloc (.cells #[.int .i64 k, .int .i64 (lineL (s.data.toList.take k)), .int .i64 (colL (s.data.toList.take k))] 34)).alloc (.cells #[.int .i64 0, .int .i64 0, .int .i64 0] 34)) (fun _ wr => off - (intOf ((wr.cell? ⟨w.heap.size, 0, none⟩).getD undef)).toNat)
  case atStart => exact ⟨a, ha, rfl⟩
  case round =>
    obtain ⟨k, hk, rfl⟩ := hrel
    obtain ⟨hl1, hl2⟩ := line_take_le s k
    obtain ⟨hc1, hc2⟩ := col_take_le s k
    by_cases hlt : k < off
    · have hks : k < s.size := by omega
      have HL : Hid (lineL (s.data.toList.take (k + 1)) = lineL (s.data.toList.take k) + if s[k] = 10 then 1 else 0) := by rw [take_snoc s k hks]; exact lineL_snoc _ _
      have HC : Hid (colL (s.data.toList.take (k + 1)) = if s[k] = 10 then 1 else colL (s.data.toList.take k) + 1) := by rw [take_snoc s k hks]; exact colL_snoc _ _
      generalize lineL (s.data.toList.take k) = L at *
      generalize colL (s.data.toList.take k) = C at *
      go_wp2
      · have hb : (((s[k].toNat : Nat) : Int) == 10) = true := by assumption
        have hb' : s[k] = 10 := (byte_ten _).1 (by simpa using hb)
        go_roundw
        case rel => exact ⟨k + 1, by omega, by rw [HL.out, HC.out, if_pos hb', if_pos hb']; push_cast; rfl⟩
        case measure => simp [intOf, go_sem]; omega
      · have hb : (((s[k].toNat : Nat) : Int) == 10) = false := by assumption
        have hb' : ¬ s[k] = 10 := fun e => by rw [(byte_ten _).2 e] at hb; simp at hb
        go_roundw
        case rel => exact ⟨k + 1, by omega, by rw [HL.out, HC.out, if_neg hb', if_neg hb']; push_cast; rfl⟩
        case measure => simp [intOf, go_sem]; omega
    · have hk' : k = off := by omega
      subst hk'
      go_wp2
      refine bodyPost_ret (v := .agg #[.int .i64 k, .int .i64 (lineL (s.data.toList.take k)), .int .i64 (colL (s.data.toList.take k))]) (by simp [results, Tryd.results30, go_sem]) rfl ⟨rfl, ?_⟩
      exact ((Below.refl _ _).alloc (Nat.le_refl _) _).alloc (by simp) _
set_option maxRecDepth 100000 in
set_option maxHeartbeats 1000000 in
theorem refPlace_in (s : ByteArray) (off : Nat) (w : World) (hs : s.size ≤ 140737488355328) (ho : off ≤ s.size) :
    Calls Tryd.prog 12 #[.string s, .int .i64 off] w fun e w' => e = .returned (.tuple #[posV s off, .bool true]) ∧ Below w.heap.size w w' := by
  have h0 : (0 : Int) ≤ off := by omega
  have h1 : (off : Int) ≤ s.size := by omega
  have hf := fun wx => forth_any s 0 off wx hs (Nat.zero_le _) ho
  rw [posV_zero] at hf
  have Hf : Hid (∀ wx, Calls Tryd.prog 30 #[.string s, .agg #[.int .i64 0, .int .i64 1, .int .i64 1], .int .i64 off] wx fun e w' => e = .returned (posV s off) ∧ Below wx.heap.size wx w') := hf
  clear hf
  have hp : ∃ x y z, posV s off = .agg #[.int .i64 x, .int .i64 y, .int .i64 z] := ⟨_, _, _, rfl⟩
  obtain ⟨x, y, z, hp⟩ := hp
  rw [hp] at Hf
  rw [hp]
  clear hp
  go_enter Tryd.func12, Tryd.ntmps12
  go_wp2_with fail
  refine (Hf.out _).mono ?_
  rintro e w1 ⟨rfl, hb⟩
  obtain ⟨hc, hf⟩ := bcell hb
  have hz : w.heap.size < w1.heap.size := by have := hb.size; simp at this; omega
  go_wp2
  refine bodyPost_ret (v := .tuple #[.agg #[.int .i64 x, .int .i64 y, .int .i64 z], .bool true]) ?_ rfl ⟨rfl, ?_⟩
  · simp [results, Tryd.results12, go_sem, hc]
  · exact ((((((Below.refl _ _).alloc (Nat.le_refl _) _).trans (hb.mono (by simp))).setCell (Nat.le_refl _) _).setCell (Nat.le_refl _) _).setCell (Nat.le_refl _) _)
end Go.Proofs.YtipfhfeaalbmcabDoor.K

namespace Go.Proofs.YtipfhfeaalbmcabDoor.K
open Go.RowKit

set_option maxHeartbeats 2000000 in
theorem blank_no (c : Int) (w : World) (h1 : (c == 32) = false) (h2 : (c == 9) = false) (h3 : (c == 10) = false) (h4 : (c == 12) = false) (h5 : (c == 13) = false) : Calls Tryd.prog 40 #[.int .u8 c] w fun e w' => e = .returned (.bool false) ∧ w' = w := by
  go_enter Tryd.func40, Tryd.ntmps40
  go_wp2
  go_ret
  exact ⟨rfl, rfl⟩
set_option maxHeartbeats 2000000 in
theorem blank_yes (c : Int) (w : World) (h : c = 9 ∨ c = 10 ∨ c = 12 ∨ c = 13 ∨ c = 32) : Calls Tryd.prog 40 #[.int .u8 c] w fun e w' => e = .returned (.bool true) ∧ w' = w := by
  rcases h with rfl | rfl | rfl | rfl | rfl <;>
  · go_enter Tryd.func40, Tryd.ntmps40
    go_wp2
    go_ret
    exact ⟨rfl, rfl⟩
theorem blank_true (c : UInt8) (w : World) (h : kindF c.toNat = 1) : Calls Tryd.prog 40 #[.int .u8 c.toNat] w fun e w' => e = .returned (.bool true) ∧ w' = w :=
  blank_yes _ w ((kind1 _ (by omega)).1 h)
theorem blank_false (c : UInt8) (w : World) (h : kindF c.toNat ≠ 1) : Calls Tryd.prog 40 #[.int .u8 c.toNat] w fun e w' => e = .returned (.bool false) ∧ w' = w := by
  have h' := fun x => h ((kind1 (c.toNat : Int) (by omega)).2 x)
  exact blank_no _ w (by simp only [beq_eq_false_iff_ne]; intro e; exact h' (by omega)) (by simp only [beq_eq_false_iff_ne]; intro e; exact h' (by omega)) (by simp only [beq_eq_false_iff_ne]; intro e; exact h' (by omega)) (by simp only [beq_eq_false_iff_ne]; intro e; exact h' (by omega)) (by simp only [beq_eq_false_iff_ne]; intro e; exact h' (by omega))

set_option maxHeartbeats 400000 in
theorem inWord_yes (c : Int) (w : World) (h1 : 33 ≤ c) (h2 : c ≤ 126) : Calls Tryd.prog 41 #[.int .u8 c] w fun e w' => e = .returned (.bool true) ∧ w' = w := by
  go_enter Tryd.func41, Tryd.ntmps41
  go_wp2
  go_ret
  exact ⟨rfl, rfl⟩
set_option maxHeartbeats 400000 in
theorem inWord_low (c : Int) (w : World) (h1 : c < 33) : Calls Tryd.prog 41 #[.int .u8 c] w fun e w' => e = .returned (.bool false) ∧ w' = w := by
  go_enter Tryd.func41, Tryd.ntmps41
  go_wp2
  go_ret
  exact ⟨rfl, rfl⟩
set_option maxHeartbeats 400000 in
theorem inWord_high (c : Int) (w : World) (h1 : 126 < c) : Calls Tryd.prog 41 #[.int .u8 c] w fun e w' => e = .returned (.bool false) ∧ w' = w := by
  have h2 : 33 ≤ c := by omega
  have h3 : decide (c ≤ 126) = false := decide_eq_false (by omega)
  clear h1
  go_enter Tryd.func41, Tryd.ntmps41
  go_wp2
  go_ret
  refine ⟨?_, rfl⟩
  first | rfl | (show Ending.returned (.bool (decide (c ≤ 126))) = _; rw [h3])
theorem word_iff (c : UInt8) : ((33 : Int) ≤ (c.toNat : Int) ∧ (c.toNat : Int) ≤ 126) ↔ 2 ≤ kindF c.toNat := by
  have h := kindF_cases (c.toNat : Int) (by omega)
  generalize hk : kindF (c.toNat : Int) = k at h ⊢
  repeat' split at h
  all_goals omega
theorem inWord_true (c : UInt8) (w : World) (h : 2 ≤ kindF c.toNat) : Calls Tryd.prog 41 #[.int .u8 c.toNat] w fun e w' => e = .returned (.bool true) ∧ w' = w :=
  inWord_yes _ w ((word_iff c).2 h).1 ((word_iff c).2 h).2
theorem inWord_false (c : UInt8) (w : World) (h : kindF c.toNat < 2) : Calls Tryd.prog 41 #[.int .u8 c.toNat] w fun e w' => e = .returned (.bool false) ∧ w' = w := by
  have h' : ¬ ((33 : Int) ≤ (c.toNat : Int) ∧ (c.toNat : Int) ≤ 126) := fun x => by have := (word_iff c).1 x; omega
  by_cases h1 : (c.toNat : Int) < 33
  · exact inWord_low _ w h1
  · exact inWord_high _ w (by omega)

set_option maxRecDepth 100000 in
set_option maxHeartbeats 2000000 in
theorem stop_any (s : ByteArray) (w : World) (hs : s.size ≤ 140737488355328) :
    Calls Tryd.prog 20 #[.string s] w fun e w' => w' = w ∧ ∃ (n : Nat) (c : Int), e = .returned (.tuple #[.int .i64 n, .int .i64 c]) ∧ stopAt s n c := by
  go_enter Tryd.func20, Tryd.ntmps20
  go_wp2
  go_loopw [4] (fun i wr => ∃ k : Nat, k ≤ s.size ∧ i = .int .i64 k ∧ wr = w ∧ Hid (∀ j (h : j < s.size), j < k → codeAt j s[j] = 0)) (fun i _ => s.size - (intOf i).toNat)
  case atStart => exact ⟨0, Nat.zero_le _, rfl, rfl, fun j _ h => absurd h (Nat.not_lt_zero j)⟩
  case round =>
    obtain ⟨k, hk, rfl, rfl, hall⟩ := hrel
    by_cases hlt : k < s.size
    · have k0 : (0 : Int) ≤ (k : Int) := by omega
      have k1 : (k : Int) < (s.size : Int) := by omega
      by_cases h6 : k = 65536
      · have k6 : ((k : Int) == 65536) = true := by simp; omega
        have Hc : Hid (codeAt k (s[k]'hlt) = 13) := by show _ = _; unfold codeAt; rw [if_pos h6]
        clear h6
        go_wp2
        refine bodyPost_ret (v := .tuple #[.int .i64 k, .int .i64 13]) (by simp [results, Tryd.results20, go_sem]) rfl ⟨rfl, k, 13, rfl, hall.out, .inr ⟨hlt, Hc.out.symm, by omega⟩⟩
      · have k6 : ((k : Int) == 65536) = false := by simp only [beq_eq_false_iff_ne]; omega
        have hr := kindF_range ((s[k]'hlt).toNat : Int) (by omega)
        have Hk : Hid (∀ j (h : j < s.size), codeAt k (s[k]'hlt) = 0 → j < k + 1 → codeAt j s[j] = 0) := by
          intro j h hc hj
          by_cases e : j = k
          · subst e; exact hc
          · exact hall.out j h (by omega)
        by_cases hb : kindF (s[k]'hlt).toNat = 1
        · have Hb : Hid (kindF (s[k]'hlt).toNat = 1) := hb
          have Hc : Hid (codeAt k (s[k]'hlt) = 0) := by show _ = _; unfold codeAt; rw [if_neg h6, if_neg (by omega)]
          clear h6 hb hr
          go_wp2_with (first | (go_at_call 40; refine (blank_true _ _ (by with_reducible exact Hb.out)).mono ?_; rintro e w' ⟨rfl, rfl⟩))
          go_roundw
          case rel => exact ⟨k + 1, by omega, by go_num, (by first | rfl | trivial), fun j h hj => Hk.out j h Hc.out hj⟩
          case measure => simp [intOf]; omega
        · have Hb : Hid (kindF (s[k]'hlt).toNat ≠ 1) := hb
          by_cases h0 : kindF (s[k]'hlt).toNat = 0
          · have Hw : Hid (kindF (s[k]'hlt).toNat < 2) := by show _ < _; omega
            have Hc : Hid (codeAt k (s[k]'hlt) = 10) := by show _ = _; unfold codeAt; rw [if_neg h6, if_pos h0]
            clear h6 hb hr h0
            go_wp2_with (first | (go_at_call 40; refine (blank_false _ _ (by with_reducible exact Hb.out)).mono ?_; rintro e w' ⟨rfl, rfl⟩) | (go_at_call 41; refine (inWord_false _ _ (by with_reducible exact Hw.out)).mono ?_; rintro e w' ⟨rfl, rfl⟩))
            refine bodyPost_ret (v := .tuple #[.int .i64 k, .int .i64 10]) (by simp [results, Tryd.results20, go_sem]) rfl ⟨rfl, k, 10, rfl, hall.out, .inr ⟨hlt, Hc.out.symm, by omega⟩⟩
          · have Hw : Hid (2 ≤ kindF (s[k]'hlt).toNat) := by show _ ≤ _; omega
            have Hc : Hid (codeAt k (s[k]'hlt) = 0) := by show _ = _; unfold codeAt; rw [if_neg h6, if_neg h0]
            clear h6 hb hr h0
            go_wp2_with (first | (go_at_call 40; refine (blank_false _ _ (by with_reducible exact Hb.out)).mono ?_; rintro e w' ⟨rfl, rfl⟩) | (go_at_call 41; refine (inWord_true _ _ (by with_reducible exact Hw.out)).mono ?_; rintro e w' ⟨rfl, rfl⟩))
            go_roundw
            case rel => exact ⟨k + 1, by omega, by go_num, (by first | rfl | trivial), fun j h hj => Hk.out j h Hc.out hj⟩
            case measure => simp [intOf]; omega
    · have hks : k = s.size := by omega
      go_wp2
      refine bodyPost_ret (v := .tuple #[.int .i64 s.size, .int .i64 0]) (by simp [results, Tryd.results20, go_sem]) rfl ⟨rfl, s.size, 0, rfl, ?_, .inl ⟨rfl, rfl⟩⟩
      intro j h hj; exact hall.out j h (by omega)

set_option maxRecDepth 100000 in
set_option maxHeartbeats 2000000 in
theorem refFault_any (t : Tok) (c : Int) (w : World) : Calls Tryd.prog 23 #[.agg #[.string t.text, .int .i64 t.off, .int .i64 t.line, .int .i64 t.col], .int .i64 c] w fun e w' => e = .returned (.pointer (some ⟨w.heap.size + 1, 0, none⟩)) ∧ FaultAt w' (w.heap.size + 1) t c ∧ Below w.heap.size w w' := by
  go_enter Tryd.func23, Tryd.ntmps23
  go_wp2
  go_ret
  refine ⟨rfl, ?_, ((Below.refl _ _).alloc (Nat.le_refl _) _).alloc (by simp) _⟩
  exact heap_alloc2_new w _ _
end Go.Proofs.YtipfhfeaalbmcabDoor.K

namespace Go.Proofs.YtipfhfeaalbmcabDoor.K
open Go.RowKit

theorem byte_at (t : ByteArray) (i : Nat) (h : i < t.size) : t.data.toList[i]? = some (t[i]'h) := by
  rw [List.getElem?_eq_getElem (by simpa using h)]; rfl
theorem byte_eq (b c : UInt8) : ((b.toNat : Int) == (c.toNat : Int)) = (b == c) := by
  by_cases e : b = c
  · subst e; simp
  · rw [beq_eq_false_iff_ne.2 e, beq_eq_false_iff_ne]
    intro h; exact e (UInt8.toNat_inj.1 (by omega))
/-- Does a bracket begin at the byte i? -/
def markAt (t : ByteArray) (i : Nat) : Prop := t.data.toList[i]? = some (36 : UInt8) ∧ (t.data.toList[i + 1]? = some (40 : UInt8) ∨ t.data.toList[i + 1]? = some (41 : UInt8))
set_option maxRecDepth 100000 in
set_option maxHeartbeats 2000000 in
theorem within_any (t : ByteArray) (w : World) (ht : t.size ≤ 140737488355328) :
    Calls Tryd.prog 22 #[.string t] w fun e w' => e = .returned (.bool (hasMark t)) ∧ w' = w := by
  go_enter Tryd.func22, Tryd.ntmps22
  go_wp2
  go_loopw [3] (fun i wr => ∃ k : Nat, k ≤ t.size ∧ i = .int .i64 k ∧ wr = w ∧ Hid (∀ j, j < k → ¬ markAt t j)) (fun i _ => t.size - (intOf i).toNat)
  case atStart => exact ⟨0, Nat.zero_le _, rfl, rfl, fun j h => absurd h (Nat.not_lt_zero j)⟩
  case round =>
    obtain ⟨k, hk, rfl, rfl, hall⟩ := hrel
    by_cases hlt : k + 1 < t.size
    · have k0 : (0 : Int) ≤ (k : Int) := by omega
      have k1 : (k : Int) < (t.size : Int) := by omega
      have k2 : (k : Int) + 1 < (t.size : Int) := by omega
      have k3 : (0 : Int) ≤ (k : Int) + 1 := by omega
      have k4 : ((k : Int) + 1).toNat = k + 1 := by omega
      have b0 := byte_at t k (by omega)
      have b1 := byte_at t (k + 1) hlt
      have Hstep : Hid (¬ markAt t k → ∀ j, j < k + 1 → ¬ markAt t j) := by
        intro hn j hj
        by_cases e : j = k
        · subst e; exact hn
        · exact hall.out j (by omega)
      have Hyes : Hid (markAt t k → hasMark t = true) := fun h => (hasMark_iff t).2 ⟨k, h⟩
      by_cases e1 : t[k]'(by omega) = 36
      · have f1 : (((t[k]'(by omega)).toNat : Int) == 36) = true := by have := byte_eq (t[k]'(by omega)) 36; rw [e1] at this ⊢; rfl
        by_cases e2 : t[k + 1]'hlt = 40
        · have f2 : (((t[k + 1]'hlt).toNat : Int) == 40) = true := by rw [e2]; rfl
          have Hm : Hid (hasMark t = true) := Hyes.out ⟨by rw [b0, e1], .inl (by rw [b1, e2])⟩
          clear e1 e2 b0 b1
          go_wp2
          go_ret
          exact ⟨by rw [Hm.out]; rfl, rfl⟩
        · have f2 : (((t[k + 1]'hlt).toNat : Int) == 40) = false := by have := byte_eq (t[k + 1]'hlt) 40; rw [beq_eq_false_iff_ne.2 e2] at this; exact this
          by_cases e3 : t[k + 1]'hlt = 41
          · have f3 : (((t[k + 1]'hlt).toNat : Int) == 41) = true := by rw [e3]; rfl
            have Hm : Hid (hasMark t = true) := Hyes.out ⟨by rw [b0, e1], .inr (by rw [b1, e3])⟩
            clear e1 e2 e3 b0 b1
            go_wp2
            go_ret
            exact ⟨by rw [Hm.out]; rfl, rfl⟩
          · have f3 : (((t[k + 1]'hlt).toNat : Int) == 41) = false := by have := byte_eq (t[k + 1]'hlt) 41; rw [beq_eq_false_iff_ne.2 e3] at this; exact this
            have Hm : Hid (¬ markAt t k) := by
              rintro ⟨_, h | h⟩
              · rw [b1] at h; exact e2 (Option.some.inj h)
              · rw [b1] at h; exact e3 (Option.some.inj h)
            clear e1 e2 e3 b0 b1
            go_wp2
            go_roundw
            case rel => exact ⟨k + 1, by omega, by go_num, (by first | rfl | trivial), Hstep.out Hm.out⟩
            case measure => simp [intOf]; omega
      · have f1 : (((t[k]'(by omega)).toNat : Int) == 36) = false := by have := byte_eq (t[k]'(by omega)) 36; rw [beq_eq_false_iff_ne.2 e1] at this; exact this
        have Hm : Hid (¬ markAt t k) := by
          rintro ⟨h, _⟩
          rw [b0] at h; exact e1 (Option.some.inj h)
        clear e1 b0 b1
        go_wp2
        go_roundw
        case rel => exact ⟨k + 1, by omega, by go_num, (by first | rfl | trivial), Hstep.out Hm.out⟩
        case measure => simp [intOf]; omega
    · have k2 : (t.size : Int) ≤ (k : Int) + 1 := by omega
      have Hm : Hid (hasMark t = false) := by
        show _ = _
        cases hM : hasMark t with
        | false => rfl
        | true =>
          obtain ⟨i, h1, h2⟩ := (hasMark_iff t).1 hM
          have hi : i + 1 < t.size := by
            rcases h2 with h2 | h2 <;> simpa using (List.getElem?_eq_some_iff.1 h2).1
          exact absurd ⟨h1, h2⟩ (hall.out i (by omega))
      go_wp2
      go_ret
      exact ⟨by rw [Hm.out]; rfl, rfl⟩
end Go.Proofs.YtipfhfeaalbmcabDoor.K
