/- Plain functions and facts on bytes and strings: what the scan's calls answer, said without the program. -/
namespace Go.Proofs.YtipfhfeaalbmcaaDoor.K

/-- The kinds of the bytes below 128. -/
def tbl : List Int := [0, 0, 0, 0, 0, 0, 0, 0, 0, 1, 1, 0, 1, 1, 0, 0, 0, 0, 0, 0, 0, 0, 0, 0, 0, 0, 0, 0, 0, 0, 0, 0, 1, 3, 3, 3, 2, 3, 3, 3, 3, 3, 3, 3, 3, 4, 4, 3, 4, 4, 4, 4, 4, 4, 4, 4, 4, 4, 3, 3, 3, 3, 3, 3, 3, 4, 4, 4, 4, 4, 4, 4, 4, 4, 4, 4, 4, 4, 4, 4, 4, 4, 4, 4, 4, 4, 4, 4, 4, 4, 4, 3, 3, 3, 3, 4, 3, 4, 4, 4, 4, 4, 4, 4, 4, 4, 4, 4, 4, 4, 4, 4, 4, 4, 4, 4, 4, 4, 4, 4, 4, 4, 4, 3, 3, 3, 3, 0]
/-- The kind of a byte. -/
def kindF (c : Int) : Int := if c < 128 then tbl.getD c.toNat 0 else 0
theorem tbl_range : ∀ i : Nat, i < 128 → 0 ≤ tbl.getD i 0 ∧ tbl.getD i 0 ≤ 4 := by decide
theorem kindF_range (c : Int) (h0 : 0 ≤ c) : 0 ≤ kindF c ∧ kindF c ≤ 4 := by
  unfold kindF
  split
  · exact tbl_range c.toNat (by omega)
  · omega

theorem take_snoc (s : ByteArray) (k : Nat) (h : k < s.size) : s.data.toList.take (k + 1) = s.data.toList.take k ++ [s[k]] := by
  rw [List.take_succ_eq_append_getElem (by simpa using h)]; rfl
theorem all_step {p : UInt8 → Bool} {s : ByteArray} {k : Nat} (h : k < s.size) (ha : (s.data.toList.take k).all p = true) (hp : p s[k] = true) : (s.data.toList.take (k + 1)).all p = true := by
  rw [take_snoc s k h]; simp [ha, hp]
theorem all_done {p : UInt8 → Bool} {s : ByteArray} {k : Nat} (h : s.size ≤ k) (ha : (s.data.toList.take k).all p = true) : s.data.toList.all p = true := by
  rwa [List.take_of_length_le (by simpa using h)] at ha
theorem all_miss {p : UInt8 → Bool} {s : ByteArray} {k : Nat} (h : k < s.size) (hp : p s[k] = false) : s.data.toList.all p = false := by
  rw [List.all_eq_false]
  refine ⟨s[k], ?_, by simp [hp]⟩
  have : s.data.toList[k]'(by simpa using h) = s[k] := rfl
  rw [← this]; exact List.getElem_mem _
/-- Is a string of one to 32 bytes, none below the kind k? -/
def madeB (s : ByteArray) (k : Int) : Bool := decide (1 ≤ s.size) && decide (s.size ≤ 32) && s.data.toList.all (fun b => decide (k ≤ kindF b.toNat))
theorem madeB_short (s : ByteArray) (k : Int) (h : s.size < 1) : madeB s k = false := by
  unfold madeB; rw [decide_eq_false (show ¬ 1 ≤ s.size by omega)]; rfl
theorem madeB_long (s : ByteArray) (k : Int) (h : 32 < s.size) : madeB s k = false := by
  unfold madeB; rw [decide_eq_false (show ¬ s.size ≤ 32 by omega)]; simp
theorem madeB_in (s : ByteArray) (k : Int) (h1 : 1 ≤ s.size) (h2 : s.size ≤ 32) : madeB s k = s.data.toList.all (fun b => decide (k ≤ kindF b.toNat)) := by
  unfold madeB; simp [h1, h2]

theorem tbl_cases : ∀ i : Nat, i < 128 → (tbl.getD i 0 = if (97 ≤ i ∧ i ≤ 122) ∨ (65 ≤ i ∧ i ≤ 90) ∨ (48 ≤ i ∧ i ≤ 57) ∨ i = 45 ∨ i = 46 ∨ i = 95 then 4 else if i = 36 then 2 else if 33 ≤ i ∧ i ≤ 126 then 3 else if i = 9 ∨ i = 10 ∨ i = 12 ∨ i = 13 ∨ i = 32 then 1 else 0) := by decide
theorem kindF_cases (c : Int) (h0 : 0 ≤ c) : kindF c = if (97 ≤ c ∧ c ≤ 122) ∨ (65 ≤ c ∧ c ≤ 90) ∨ (48 ≤ c ∧ c ≤ 57) ∨ c = 45 ∨ c = 46 ∨ c = 95 then 4 else if c = 36 then 2 else if 33 ≤ c ∧ c ≤ 126 then 3 else if c = 9 ∨ c = 10 ∨ c = 12 ∨ c = 13 ∨ c = 32 then 1 else 0 := by
  obtain ⟨n, rfl⟩ := Int.eq_ofNat_of_zero_le h0
  unfold kindF
  by_cases h : n < 128
  · rw [if_pos (by omega), Int.toNat_natCast, tbl_cases n h]
    repeat' split
    all_goals first | rfl | omega
  · rw [if_neg (by omega)]
    repeat' split
    all_goals first | rfl | omega
theorem kind4 (c : Int) (h0 : 0 ≤ c) : 4 ≤ kindF c ↔ (97 ≤ c ∧ c ≤ 122) ∨ (65 ≤ c ∧ c ≤ 90) ∨ (48 ≤ c ∧ c ≤ 57) ∨ c = 45 ∨ c = 46 ∨ c = 95 := by
  rw [kindF_cases c h0]; repeat' split
  all_goals omega
theorem kind3 (c : Int) (h0 : 0 ≤ c) : 3 ≤ kindF c ↔ (33 ≤ c ∧ c ≤ 126) ∧ c ≠ 36 := by
  rw [kindF_cases c h0]; repeat' split
  all_goals omega
theorem kind1 (c : Int) (h0 : 0 ≤ c) : kindF c = 1 ↔ c = 9 ∨ c = 10 ∨ c = 12 ∨ c = 13 ∨ c = 32 := by
  rw [kindF_cases c h0]; repeat' split
  all_goals omega
theorem kind0 (c : Int) (h0 : 0 ≤ c) : kindF c = 0 ↔ ¬ (c = 9 ∨ c = 10 ∨ c = 12 ∨ c = 13 ∨ c = 32) ∧ ¬ (33 ≤ c ∧ c ≤ 126) := by
  rw [kindF_cases c h0]; repeat' split
  all_goals omega
end Go.Proofs.YtipfhfeaalbmcaaDoor.K
