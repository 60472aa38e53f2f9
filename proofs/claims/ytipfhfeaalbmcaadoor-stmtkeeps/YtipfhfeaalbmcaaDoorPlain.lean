/- plain, the program's and the document's; rows of plain words. -/
import Derived.Test.YtipfhfeaalbmcaaDoorToks
import Derived.WalkLawsBesides
import Derived.WalkSpells
import Derived.Outline
import Derived.Lib.Strings
import Derived.Deep.Light
import Derived.Deep.Cut
namespace Go.Proofs.YtipfhfeaalbmcaaDoor
open Go.RowKit

theorem ret_bool {a b : Bool} (h : a = b) : Ending.returned (.bool a) = .returned (.bool b) := by rw [h]
theorem take_snoc (s : ByteArray) (k : Nat) (h : k < s.size) : s.data.toList.take (k + 1) = s.data.toList.take k ++ [s[k]] := by
  have hk : k < s.data.toList.length := by simpa using h
  rw [List.take_add_one, List.getElem?_eq_getElem hk]; rfl
theorem all_step {p : UInt8 → Bool} {s : ByteArray} {k : Nat} (h : k < s.size) (ha : (s.data.toList.take k).all p = true) (hp : p s[k] = true) : (s.data.toList.take (k + 1)).all p = true := by
  rw [take_snoc s k h]; simp [ha, hp]
theorem all_done {p : UInt8 → Bool} {s : ByteArray} {k : Nat} (h : s.size ≤ k) (ha : (s.data.toList.take k).all p = true) : s.data.toList.all p = true := by
  rwa [List.take_of_length_le (by simpa using h)] at ha
theorem all_miss {p : UInt8 → Bool} {s : ByteArray} {k : Nat} (h : k < s.size) (hp : p s[k] = false) : s.data.toList.all p = false := by
  rw [List.all_eq_false]
  refine ⟨s[k], ?_, by simp [hp]⟩
  have : s.data.toList[k]'(by simpa using h) = s[k] := rfl
  rw [← this]; exact List.getElem_mem _
theorem nempty {s : ByteArray} (h : 0 < s.size) : s.toList.isEmpty = false := by
  rw [Lib.toList_data]
  cases hl : s.data.toList with
  | nil =>
    have h1 : s.data.toList.length = s.size := by rw [Array.length_toList]; rfl
    rw [hl] at h1
    simp at h1
    omega
  | cons a l => rfl
def okB (b : UInt8) : Bool := decide (33 ≤ b.toNat) && decide (b.toNat ≤ 126)
/-- Does a text begin with the dollar sign? -/
def keyB (s : ByteArray) : Bool := if h : 0 < s.size then decide ((s[0]'h).toNat = 36) else false
/-- Is a text a plain word? -/
def plainB (s : ByteArray) : Bool := decide (0 < s.size) && !keyB s && s.data.toList.all okB
theorem keyB_at {s : ByteArray} (h : 0 < s.size) : keyB s = decide ((s[0]'h).toNat = 36) := by unfold keyB; rw [dif_pos h]
theorem keyB_nil {s : ByteArray} (h : ¬ 0 < s.size) : keyB s = false := by unfold keyB; rw [dif_neg h]
theorem size_zero {s : ByteArray} (h : ¬ 0 < s.size) : s = ⟨#[]⟩ := by
  obtain ⟨d⟩ := s
  have : d.size = 0 := by simpa [ByteArray.size] using h
  rw [Array.eq_empty_of_size_eq_zero this]

set_option maxRecDepth 100000 in
set_option maxHeartbeats 2000000 in
theorem refkey_any (s : ByteArray) (w : World) (_ : s.size ≤ 1099511627776) : Calls Tryd.prog 79 #[.string s] w fun e w' => e = .returned (.bool (keyB s)) ∧ w' = w := by
  by_cases h0 : 0 < s.size
  · have hk : Hid (keyB s = decide ((s[0]'h0).toNat = 36)) := keyB_at h0
    go_enter Tryd.func79, Tryd.ntmps79
    go_wp2
    go_ret
    refine ⟨ret_bool ?_, rfl⟩
    rw [hk.out]
    simp [Bool.beq_eq_decide_eq]
    omega
  · have hk : Hid (keyB s = false) := keyB_nil h0
    go_enter Tryd.func79, Tryd.ntmps79
    go_wp2
    go_ret
    exact ⟨ret_bool (by rw [hk.out]), rfl⟩

set_option maxRecDepth 100000 in
set_option maxHeartbeats 2000000 in
theorem plain_any (s : ByteArray) (w : World) (hs : s.size ≤ 1099511627776) : Calls Tryd.prog 69 #[.string s] w fun e w' => e = .returned (.bool (plainB s)) ∧ w' = w := by
  by_cases h0 : 0 < s.size
  · by_cases hd : (s[0]'h0).toNat = 36
    · have hp : Hid (plainB s = false) := by show _ = _; unfold plainB; rw [keyB_at h0, decide_eq_true hd]; simp
      have h1 : (((s[0]'h0).toNat : Int) == 36) = true := by simp; omega
      have h2 : s.toList.isEmpty = false := nempty h0
      go_enter Tryd.func69, Tryd.ntmps69
      go_wp2
      go_ret
      exact ⟨ret_bool (by rw [hp.out]), rfl⟩
    · have hp : Hid (plainB s = s.data.toList.all okB) := by show _ = _; unfold plainB; rw [keyB_at h0, decide_eq_false hd, decide_eq_true h0]; simp
      have h1 : (((s[0]'h0).toNat : Int) == 36) = false := by simp; omega
      have h2 : s.toList.isEmpty = false := nempty h0
      go_enter Tryd.func69, Tryd.ntmps69
      go_wp2
      go_loop [13] (fun i => ∃ n : Nat, n ≤ s.size ∧ i = .int .i64 n ∧ Hid ((s.data.toList.take n).all okB = true)) (fun i => s.size - (intOf i).toNat)
      case atStart => exact ⟨0, Nat.zero_le _, rfl, rfl⟩
      case round =>
        obtain ⟨n, hn, rfl, ha⟩ := hrel
        by_cases hlt : n < s.size
        · have n1 : (n : Int) < (s.size : Int) := by omega
          by_cases hb : okB s[n] = true
          · have hb2 : 33 ≤ s[n].toNat ∧ s[n].toNat ≤ 126 := by unfold okB at hb; simpa using hb
            have a1 : ¬ ((s[n].toNat : Int) < 33) := by omega
            have a2 : ¬ ((126 : Int) < (s[n].toNat : Int)) := by omega
            go_wp2
            exact ⟨⟨n + 1, by omega, by go_num, all_step hlt ha.out hb⟩, by simp [intOf]; omega⟩
          · have hb2 : ¬ (33 ≤ s[n].toNat ∧ s[n].toNat ≤ 126) := by unfold okB at hb; simpa using hb
            have hF : Hid (plainB s = false) := by show _ = _; rw [hp.out]; exact all_miss hlt (by simpa using hb)
            by_cases a1 : (s[n].toNat : Int) < 33
            · go_wp2
              go_ret
              exact ⟨ret_bool (by rw [hF.out]), rfl⟩
            · have a2 : (126 : Int) < (s[n].toNat : Int) := by omega
              go_wp2
              go_ret
              exact ⟨ret_bool (by rw [hF.out]), rfl⟩
        · have n1 : ¬ (n : Int) < (s.size : Int) := by omega
          go_wp2
          go_ret
          exact ⟨ret_bool (by rw [hp.out, all_done (by omega) ha.out]), rfl⟩
  · have hp : Hid (plainB s = false) := by show _ = _; unfold plainB; rw [decide_eq_false h0]; simp
    have he := size_zero h0
    subst he
    go_enter Tryd.func69, Tryd.ntmps69
    go_wp2
    go_ret
    exact ⟨ret_bool (by rw [hp.out]), rfl⟩

set_option maxRecDepth 100000 in
set_option maxHeartbeats 2000000 in
theorem rplain_any (s : ByteArray) (w : World) (hs : s.size ≤ 1099511627776) : Calls Tryd.prog 49 #[.string s] w fun e w' => e = .returned (.bool (plainB s)) ∧ w' = w := by
  have KEY : Hid _ := refkey_any s w hs
  go_enter Tryd.func49, Tryd.ntmps49
  go_wp2
  go_loop [3] (fun i => ∃ n : Nat, n ≤ s.size ∧ i = .int .i64 n ∧ Hid ((s.data.toList.take n).all okB = true)) (fun i => s.size - (intOf i).toNat)
  case atStart => exact ⟨0, Nat.zero_le _, rfl, rfl⟩
  case round =>
    obtain ⟨n, hn, rfl, ha⟩ := hrel
    by_cases hlt : n < s.size
    · have n1 : (n : Int) < (s.size : Int) := by omega
      by_cases hb : okB s[n] = true
      · have hb2 : 33 ≤ s[n].toNat ∧ s[n].toNat ≤ 126 := by unfold okB at hb; simpa using hb
        have a1 : ¬ ((s[n].toNat : Int) < 33) := by omega
        have a2 : ¬ ((126 : Int) < (s[n].toNat : Int)) := by omega
        go_wp2
        exact ⟨⟨n + 1, by omega, by go_num, all_step hlt ha.out hb⟩, by simp [intOf]; omega⟩
      · have hb2 : ¬ (33 ≤ s[n].toNat ∧ s[n].toNat ≤ 126) := by unfold okB at hb; simpa using hb
        have hF : Hid (plainB s = false) := by show _ = _; unfold plainB; rw [all_miss hlt (by simpa using hb)]; simp
        by_cases a1 : (s[n].toNat : Int) < 33
        · go_wp2
          go_ret
          exact ⟨ret_bool (by rw [hF.out]), rfl⟩
        · have a2 : (126 : Int) < (s[n].toNat : Int) := by omega
          go_wp2
          go_ret
          exact ⟨ret_bool (by rw [hF.out]), rfl⟩
    · have n1 : ¬ (n : Int) < (s.size : Int) := by omega
      have hA : Hid (s.data.toList.all okB = true) := all_done (by omega) ha.out
      by_cases h0 : 0 < s.size
      · have i1 : (0 : Int) < (s.size : Int) := by omega
        have hF : Hid (plainB s = !keyB s) := by show _ = _; unfold plainB; rw [hA.out, decide_eq_true h0]; simp
        go_wp2_with fail
        refine Calls.mono KEY.out ?_
        rintro e w1 ⟨rfl, hw1⟩
        subst w1
        go_wp2
        go_ret
        exact ⟨ret_bool (by rw [hF.out]), rfl⟩
      · have i1 : ¬ (0 : Int) < (s.size : Int) := by omega
        have hF : Hid (plainB s = false) := by show _ = _; unfold plainB; rw [decide_eq_false h0]; simp
        go_wp2
        go_ret
        exact ⟨ret_bool (by rw [hF.out]), rfl⟩
end Go.Proofs.YtipfhfeaalbmcaaDoor
