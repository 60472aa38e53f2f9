/- Which kind a keyword begins. -/
import Derived.Test.YtipfhfeaalbmcaaDoorToldT
namespace Go.Proofs.YtipfhfeaalbmcaaDoor
open Go.RowKit

def kindN (s : ByteArray) : Nat := ((List.range 10).find? fun k => decide (kwB k = s)).getD 0
theorem kindN_hit {s : ByteArray} {j : Nat} (hj : j < 10) (hn : ∀ i, i < j → kwB i ≠ s) (he : kwB j = s) : kindN s = j := by
  unfold kindN
  have : (List.range 10).find? (fun k => decide (kwB k = s)) = some j := by
    rw [List.find?_range_eq_some]
    exact ⟨by simpa using he, by simpa using hj, fun i hi => by simpa using hn i hi⟩
  rw [this]
  rfl
theorem kindN_miss {s : ByteArray} (hn : ∀ i, i < 10 → kwB i ≠ s) : kindN s = 0 := by
  unfold kindN
  have : (List.range 10).find? (fun k => decide (kwB k = s)) = none := by
    rw [List.find?_range_eq_none]
    exact fun i hi => by simpa using hn i hi
  rw [this]
  rfl
theorem kindN_lt (s : ByteArray) : kindN s < 10 := by
  unfold kindN
  cases h : (List.range 10).find? fun k => decide (kwB k = s) with
  | none => simp
  | some j => have := List.mem_of_find?_eq_some h; simpa using this
theorem lst_ne {l : List UInt8} {s : ByteArray} (h : ¬ (⟨l.toArray⟩ : ByteArray) = s) : (l == s.toList) = false := by
  rw [beq_eq_false_iff_ne]
  intro e
  apply h
  rw [e]
  cases s
  simp [ByteArray.toList_eq]
theorem emp_ne {s : ByteArray} (h : ¬ (⟨#[]⟩ : ByteArray) = s) : s.toList.isEmpty = false := by
  have := lst_ne (l := []) h
  cases hs : s.toList with
  | nil => rw [hs] at this; simp at this
  | cons => rfl
theorem shapes_range {w : World} (h : ShapesAt w) : w.rangeAt 1 0 [.string ⟨#[]⟩, .bool false, .int .i64 0, .int .i64 0, .string ⟨#[36, 99]⟩, .bool false, .int .i64 1, .int .i64 9223372036854775807, .string ⟨#[36, 118]⟩, .bool false, .int .i64 1, .int .i64 9223372036854775807, .string ⟨#[36, 102]⟩, .bool true, .int .i64 2, .int .i64 2, .string ⟨#[36, 101]⟩, .bool true, .int .i64 1, .int .i64 9223372036854775807, .string ⟨#[36, 100]⟩, .bool false, .int .i64 2, .int .i64 32, .string ⟨#[36, 97]⟩, .bool true, .int .i64 1, .int .i64 9223372036854775807, .string ⟨#[36, 112]⟩, .bool true, .int .i64 1, .int .i64 9223372036854775807, .string ⟨#[36, 123]⟩, .bool false, .int .i64 0, .int .i64 0, .string ⟨#[36, 125]⟩, .bool false, .int .i64 0, .int .i64 0] := fun j v hv => by
  have hj : j < 40 := (List.getElem?_eq_some_iff.1 hv).1
  rw [Nat.zero_add]
  obtain ⟨k, r, hk, hr, rfl⟩ : ∃ k r, k < 10 ∧ r < 4 ∧ j = k * 4 + r := ⟨j / 4, j % 4, by omega, by omega, by omega⟩
  obtain ⟨h0, h1, h2, h3⟩ := h k hk
  obtain rfl | rfl | rfl | rfl : r = 0 ∨ r = 1 ∨ r = 2 ∨ r = 3 := by omega
  all_goals (obtain rfl | rfl | rfl | rfl | rfl | rfl | rfl | rfl | rfl | rfl : k = 0 ∨ k = 1 ∨ k = 2 ∨ k = 3 ∨ k = 4 ∨ k = 5 ∨ k = 6 ∨ k = 7 ∨ k = 8 ∨ k = 9 := by omega)
  all_goals (cases hv; first | exact h0 | exact h1 | exact h2 | exact h3)

theorem ix0 (W : World) : (Instr.index 114 (.agg #[.string ⟨#[]⟩, .bool false, .int .i64 0, .int .i64 0, .string ⟨#[36, 99]⟩, .bool false, .int .i64 1, .int .i64 9223372036854775807, .string ⟨#[36, 118]⟩, .bool false, .int .i64 1, .int .i64 9223372036854775807, .string ⟨#[36, 102]⟩, .bool true, .int .i64 2, .int .i64 2, .string ⟨#[36, 101]⟩, .bool true, .int .i64 1, .int .i64 9223372036854775807, .string ⟨#[36, 100]⟩, .bool false, .int .i64 2, .int .i64 32, .string ⟨#[36, 97]⟩, .bool true, .int .i64 1, .int .i64 9223372036854775807, .string ⟨#[36, 112]⟩, .bool true, .int .i64 1, .int .i64 9223372036854775807, .string ⟨#[36, 123]⟩, .bool false, .int .i64 0, .int .i64 0, .string ⟨#[36, 125]⟩, .bool false, .int .i64 0, .int .i64 0]) (.int .i64 0)).run Tryd.prog W = .ok (.agg #[.string ⟨#[]⟩, .bool false, .int .i64 0, .int .i64 0]) W := by kernel_rfl
theorem ix1 (W : World) : (Instr.index 114 (.agg #[.string ⟨#[]⟩, .bool false, .int .i64 0, .int .i64 0, .string ⟨#[36, 99]⟩, .bool false, .int .i64 1, .int .i64 9223372036854775807, .string ⟨#[36, 118]⟩, .bool false, .int .i64 1, .int .i64 9223372036854775807, .string ⟨#[36, 102]⟩, .bool true, .int .i64 2, .int .i64 2, .string ⟨#[36, 101]⟩, .bool true, .int .i64 1, .int .i64 9223372036854775807, .string ⟨#[36, 100]⟩, .bool false, .int .i64 2, .int .i64 32, .string ⟨#[36, 97]⟩, .bool true, .int .i64 1, .int .i64 9223372036854775807, .string ⟨#[36, 112]⟩, .bool true, .int .i64 1, .int .i64 9223372036854775807, .string ⟨#[36, 123]⟩, .bool false, .int .i64 0, .int .i64 0, .string ⟨#[36, 125]⟩, .bool false, .int .i64 0, .int .i64 0]) (.int .i64 1)).run Tryd.prog W = .ok (.agg #[.string ⟨#[36, 99]⟩, .bool false, .int .i64 1, .int .i64 9223372036854775807]) W := by kernel_rfl
theorem ix2 (W : World) : (Instr.index 114 (.agg #[.string ⟨#[]⟩, .bool false, .int .i64 0, .int .i64 0, .string ⟨#[36, 99]⟩, .bool false, .int .i64 1, .int .i64 9223372036854775807, .string ⟨#[36, 118]⟩, .bool false, .int .i64 1, .int .i64 9223372036854775807, .string ⟨#[36, 102]⟩, .bool true, .int .i64 2, .int .i64 2, .string ⟨#[36, 101]⟩, .bool true, .int .i64 1, .int .i64 9223372036854775807, .string ⟨#[36, 100]⟩, .bool false, .int .i64 2, .int .i64 32, .string ⟨#[36, 97]⟩, .bool true, .int .i64 1, .int .i64 9223372036854775807, .string ⟨#[36, 112]⟩, .bool true, .int .i64 1, .int .i64 9223372036854775807, .string ⟨#[36, 123]⟩, .bool false, .int .i64 0, .int .i64 0, .string ⟨#[36, 125]⟩, .bool false, .int .i64 0, .int .i64 0]) (.int .i64 2)).run Tryd.prog W = .ok (.agg #[.string ⟨#[36, 118]⟩, .bool false, .int .i64 1, .int .i64 9223372036854775807]) W := by kernel_rfl
theorem ix3 (W : World) : (Instr.index 114 (.agg #[.string ⟨#[]⟩, .bool false, .int .i64 0, .int .i64 0, .string ⟨#[36, 99]⟩, .bool false, .int .i64 1, .int .i64 9223372036854775807, .string ⟨#[36, 118]⟩, .bool false, .int .i64 1, .int .i64 9223372036854775807, .string ⟨#[36, 102]⟩, .bool true, .int .i64 2, .int .i64 2, .string ⟨#[36, 101]⟩, .bool true, .int .i64 1, .int .i64 9223372036854775807, .string ⟨#[36, 100]⟩, .bool false, .int .i64 2, .int .i64 32, .string ⟨#[36, 97]⟩, .bool true, .int .i64 1, .int .i64 9223372036854775807, .string ⟨#[36, 112]⟩, .bool true, .int .i64 1, .int .i64 9223372036854775807, .string ⟨#[36, 123]⟩, .bool false, .int .i64 0, .int .i64 0, .string ⟨#[36, 125]⟩, .bool false, .int .i64 0, .int .i64 0]) (.int .i64 3)).run Tryd.prog W = .ok (.agg #[.string ⟨#[36, 102]⟩, .bool true, .int .i64 2, .int .i64 2]) W := by kernel_rfl
theorem ix4 (W : World) : (Instr.index 114 (.agg #[.string ⟨#[]⟩, .bool false, .int .i64 0, .int .i64 0, .string ⟨#[36, 99]⟩, .bool false, .int .i64 1, .int .i64 9223372036854775807, .string ⟨#[36, 118]⟩, .bool false, .int .i64 1, .int .i64 9223372036854775807, .string ⟨#[36, 102]⟩, .bool true, .int .i64 2, .int .i64 2, .string ⟨#[36, 101]⟩, .bool true, .int .i64 1, .int .i64 9223372036854775807, .string ⟨#[36, 100]⟩, .bool false, .int .i64 2, .int .i64 32, .string ⟨#[36, 97]⟩, .bool true, .int .i64 1, .int .i64 9223372036854775807, .string ⟨#[36, 112]⟩, .bool true, .int .i64 1, .int .i64 9223372036854775807, .string ⟨#[36, 123]⟩, .bool false, .int .i64 0, .int .i64 0, .string ⟨#[36, 125]⟩, .bool false, .int .i64 0, .int .i64 0]) (.int .i64 4)).run Tryd.prog W = .ok (.agg #[.string ⟨#[36, 101]⟩, .bool true, .int .i64 1, .int .i64 9223372036854775807]) W := by kernel_rfl
theorem ix5 (W : World) : (Instr.index 114 (.agg #[.string ⟨#[]⟩, .bool false, .int .i64 0, .int .i64 0, .string ⟨#[36, 99]⟩, .bool false, .int .i64 1, .int .i64 9223372036854775807, .string ⟨#[36, 118]⟩, .bool false, .int .i64 1, .int .i64 9223372036854775807, .string ⟨#[36, 102]⟩, .bool true, .int .i64 2, .int .i64 2, .string ⟨#[36, 101]⟩, .bool true, .int .i64 1, .int .i64 9223372036854775807, .string ⟨#[36, 100]⟩, .bool false, .int .i64 2, .int .i64 32, .string ⟨#[36, 97]⟩, .bool true, .int .i64 1, .int .i64 9223372036854775807, .string ⟨#[36, 112]⟩, .bool true, .int .i64 1, .int .i64 9223372036854775807, .string ⟨#[36, 123]⟩, .bool false, .int .i64 0, .int .i64 0, .string ⟨#[36, 125]⟩, .bool false, .int .i64 0, .int .i64 0]) (.int .i64 5)).run Tryd.prog W = .ok (.agg #[.string ⟨#[36, 100]⟩, .bool false, .int .i64 2, .int .i64 32]) W := by kernel_rfl
theorem ix6 (W : World) : (Instr.index 114 (.agg #[.string ⟨#[]⟩, .bool false, .int .i64 0, .int .i64 0, .string ⟨#[36, 99]⟩, .bool false, .int .i64 1, .int .i64 9223372036854775807, .string ⟨#[36, 118]⟩, .bool false, .int .i64 1, .int .i64 9223372036854775807, .string ⟨#[36, 102]⟩, .bool true, .int .i64 2, .int .i64 2, .string ⟨#[36, 101]⟩, .bool true, .int .i64 1, .int .i64 9223372036854775807, .string ⟨#[36, 100]⟩, .bool false, .int .i64 2, .int .i64 32, .string ⟨#[36, 97]⟩, .bool true, .int .i64 1, .int .i64 9223372036854775807, .string ⟨#[36, 112]⟩, .bool true, .int .i64 1, .int .i64 9223372036854775807, .string ⟨#[36, 123]⟩, .bool false, .int .i64 0, .int .i64 0, .string ⟨#[36, 125]⟩, .bool false, .int .i64 0, .int .i64 0]) (.int .i64 6)).run Tryd.prog W = .ok (.agg #[.string ⟨#[36, 97]⟩, .bool true, .int .i64 1, .int .i64 9223372036854775807]) W := by kernel_rfl
theorem ix7 (W : World) : (Instr.index 114 (.agg #[.string ⟨#[]⟩, .bool false, .int .i64 0, .int .i64 0, .string ⟨#[36, 99]⟩, .bool false, .int .i64 1, .int .i64 9223372036854775807, .string ⟨#[36, 118]⟩, .bool false, .int .i64 1, .int .i64 9223372036854775807, .string ⟨#[36, 102]⟩, .bool true, .int .i64 2, .int .i64 2, .string ⟨#[36, 101]⟩, .bool true, .int .i64 1, .int .i64 9223372036854775807, .string ⟨#[36, 100]⟩, .bool false, .int .i64 2, .int .i64 32, .string ⟨#[36, 97]⟩, .bool true, .int .i64 1, .int .i64 9223372036854775807, .string ⟨#[36, 112]⟩, .bool true, .int .i64 1, .int .i64 9223372036854775807, .string ⟨#[36, 123]⟩, .bool false, .int .i64 0, .int .i64 0, .string ⟨#[36, 125]⟩, .bool false, .int .i64 0, .int .i64 0]) (.int .i64 7)).run Tryd.prog W = .ok (.agg #[.string ⟨#[36, 112]⟩, .bool true, .int .i64 1, .int .i64 9223372036854775807]) W := by kernel_rfl
theorem ix8 (W : World) : (Instr.index 114 (.agg #[.string ⟨#[]⟩, .bool false, .int .i64 0, .int .i64 0, .string ⟨#[36, 99]⟩, .bool false, .int .i64 1, .int .i64 9223372036854775807, .string ⟨#[36, 118]⟩, .bool false, .int .i64 1, .int .i64 9223372036854775807, .string ⟨#[36, 102]⟩, .bool true, .int .i64 2, .int .i64 2, .string ⟨#[36, 101]⟩, .bool true, .int .i64 1, .int .i64 9223372036854775807, .string ⟨#[36, 100]⟩, .bool false, .int .i64 2, .int .i64 32, .string ⟨#[36, 97]⟩, .bool true, .int .i64 1, .int .i64 9223372036854775807, .string ⟨#[36, 112]⟩, .bool true, .int .i64 1, .int .i64 9223372036854775807, .string ⟨#[36, 123]⟩, .bool false, .int .i64 0, .int .i64 0, .string ⟨#[36, 125]⟩, .bool false, .int .i64 0, .int .i64 0]) (.int .i64 8)).run Tryd.prog W = .ok (.agg #[.string ⟨#[36, 123]⟩, .bool false, .int .i64 0, .int .i64 0]) W := by kernel_rfl
theorem ix9 (W : World) : (Instr.index 114 (.agg #[.string ⟨#[]⟩, .bool false, .int .i64 0, .int .i64 0, .string ⟨#[36, 99]⟩, .bool false, .int .i64 1, .int .i64 9223372036854775807, .string ⟨#[36, 118]⟩, .bool false, .int .i64 1, .int .i64 9223372036854775807, .string ⟨#[36, 102]⟩, .bool true, .int .i64 2, .int .i64 2, .string ⟨#[36, 101]⟩, .bool true, .int .i64 1, .int .i64 9223372036854775807, .string ⟨#[36, 100]⟩, .bool false, .int .i64 2, .int .i64 32, .string ⟨#[36, 97]⟩, .bool true, .int .i64 1, .int .i64 9223372036854775807, .string ⟨#[36, 112]⟩, .bool true, .int .i64 1, .int .i64 9223372036854775807, .string ⟨#[36, 123]⟩, .bool false, .int .i64 0, .int .i64 0, .string ⟨#[36, 125]⟩, .bool false, .int .i64 0, .int .i64 0]) (.int .i64 9)).run Tryd.prog W = .ok (.agg #[.string ⟨#[36, 125]⟩, .bool false, .int .i64 0, .int .i64 0]) W := by kernel_rfl
set_option maxRecDepth 100000 in
set_option maxHeartbeats 8000000 in
theorem kindOf_any (w : World) (s : ByteArray) (h : ShapesAt w) :
    Calls Tryd.prog 73 #[.string s] w fun e w' => e = .returned (.int .i64 (kindN s)) ∧ Below w.heap.size w w' := by
  have RG : Hid (w.rangeAt 1 0 [.string ⟨#[]⟩, .bool false, .int .i64 0, .int .i64 0, .string ⟨#[36, 99]⟩, .bool false, .int .i64 1, .int .i64 9223372036854775807, .string ⟨#[36, 118]⟩, .bool false, .int .i64 1, .int .i64 9223372036854775807, .string ⟨#[36, 102]⟩, .bool true, .int .i64 2, .int .i64 2, .string ⟨#[36, 101]⟩, .bool true, .int .i64 1, .int .i64 9223372036854775807, .string ⟨#[36, 100]⟩, .bool false, .int .i64 2, .int .i64 32, .string ⟨#[36, 97]⟩, .bool true, .int .i64 1, .int .i64 9223372036854775807, .string ⟨#[36, 112]⟩, .bool true, .int .i64 1, .int .i64 9223372036854775807, .string ⟨#[36, 123]⟩, .bool false, .int .i64 0, .int .i64 0, .string ⟨#[36, 125]⟩, .bool false, .int .i64 0, .int .i64 0]) := shapes_range h
  clear h
  go_enter Tryd.func73, Tryd.ntmps73
  go_upto_region 1 with fail
  refine wp_region_list ?_
  refine wpList_load_mid rfl 114 _ rfl 1 0 rfl [.string ⟨#[]⟩, .bool false, .int .i64 0, .int .i64 0, .string ⟨#[36, 99]⟩, .bool false, .int .i64 1, .int .i64 9223372036854775807, .string ⟨#[36, 118]⟩, .bool false, .int .i64 1, .int .i64 9223372036854775807, .string ⟨#[36, 102]⟩, .bool true, .int .i64 2, .int .i64 2, .string ⟨#[36, 101]⟩, .bool true, .int .i64 1, .int .i64 9223372036854775807, .string ⟨#[36, 100]⟩, .bool false, .int .i64 2, .int .i64 32, .string ⟨#[36, 97]⟩, .bool true, .int .i64 1, .int .i64 9223372036854775807, .string ⟨#[36, 112]⟩, .bool true, .int .i64 1, .int .i64 9223372036854775807, .string ⟨#[36, 123]⟩, .bool false, .int .i64 0, .int .i64 0, .string ⟨#[36, 125]⟩, .bool false, .int .i64 0, .int .i64 0] _ RG.out Tryd.underlying114 rfl (by kernel_rfl) ?_
  clear RG
  go_wp2_with fail
  go_loopw [6] (fun i wx => ∃ j : Nat, j ≤ 10 ∧ i = .int .i64 j ∧ Hid (∀ i, i < j → kwB i ≠ s) ∧ Hid (Below w.heap.size w wx)) (fun i _ => 10 - (intOf i).toNat)
  case atStart => exact ⟨0, Nat.zero_le _, rfl, fun i hi => absurd hi (Nat.not_lt_zero _), Below.refl _ _⟩
  case round =>
    obtain ⟨j, hj, rfl, hA, hB⟩ := hrel
    by_cases hlt : j < 10
    · obtain rfl | rfl | rfl | rfl | rfl | rfl | rfl | rfl | rfl | rfl : j = 0 ∨ j = 1 ∨ j = 2 ∨ j = 3 ∨ j = 4 ∨ j = 5 ∨ j = 6 ∨ j = 7 ∨ j = 8 ∨ j = 9 := by omega
      · have x := ix0 wr
        have KW : kwB 0 = ⟨#[]⟩ := rfl
        by_cases he : (⟨#[]⟩ : ByteArray) = s
        · have A2 : Hid (kindN s = 0) := kindN_hit (by omega) hA.out he
          subst he
          go_wp2_with fail
          go_ret
          exact ⟨by rw [A2.out]; rfl, hB.out.alloc hB.out.size _⟩
        · have A2 : Hid (∀ i, i < 1 → kwB i ≠ s) := fun i hi => by
            by_cases h : i < 0
            · exact hA.out i h
            · obtain rfl : i = 0 := by omega
              exact he
          have he2 : s.toList.isEmpty = false := by
            exact emp_ne he
          clear he
          go_wp2
          exact ⟨⟨1, by omega, by go_num, A2.out, hB.out.alloc hB.out.size _⟩, by simp [intOf]⟩
      · have x := ix1 wr
        have KW : kwB 1 = ⟨#[36, 99]⟩ := rfl
        by_cases he : (⟨#[36, 99]⟩ : ByteArray) = s
        · have A2 : Hid (kindN s = 1) := kindN_hit (by omega) hA.out he
          subst he
          go_wp2_with fail
          go_ret
          exact ⟨by rw [A2.out]; rfl, hB.out.alloc hB.out.size _⟩
        · have A2 : Hid (∀ i, i < 2 → kwB i ≠ s) := fun i hi => by
            by_cases h : i < 1
            · exact hA.out i h
            · obtain rfl : i = 1 := by omega
              exact he
          have he2 : ([36, 99] == s.toList) = false := by
            exact lst_ne he
          clear he
          go_wp2
          exact ⟨⟨2, by omega, by go_num, A2.out, hB.out.alloc hB.out.size _⟩, by simp [intOf]⟩
      · have x := ix2 wr
        have KW : kwB 2 = ⟨#[36, 118]⟩ := rfl
        by_cases he : (⟨#[36, 118]⟩ : ByteArray) = s
        · have A2 : Hid (kindN s = 2) := kindN_hit (by omega) hA.out he
          subst he
          go_wp2_with fail
          go_ret
          exact ⟨by rw [A2.out]; rfl, hB.out.alloc hB.out.size _⟩
        · have A2 : Hid (∀ i, i < 3 → kwB i ≠ s) := fun i hi => by
            by_cases h : i < 2
            · exact hA.out i h
            · obtain rfl : i = 2 := by omega
              exact he
          have he2 : ([36, 118] == s.toList) = false := by
            exact lst_ne he
          clear he
          go_wp2
          exact ⟨⟨3, by omega, by go_num, A2.out, hB.out.alloc hB.out.size _⟩, by simp [intOf]⟩
      · have x := ix3 wr
        have KW : kwB 3 = ⟨#[36, 102]⟩ := rfl
        by_cases he : (⟨#[36, 102]⟩ : ByteArray) = s
        · have A2 : Hid (kindN s = 3) := kindN_hit (by omega) hA.out he
          subst he
          go_wp2_with fail
          go_ret
          exact ⟨by rw [A2.out]; rfl, hB.out.alloc hB.out.size _⟩
        · have A2 : Hid (∀ i, i < 4 → kwB i ≠ s) := fun i hi => by
            by_cases h : i < 3
            · exact hA.out i h
            · obtain rfl : i = 3 := by omega
              exact he
          have he2 : ([36, 102] == s.toList) = false := by
            exact lst_ne he
          clear he
          go_wp2
          exact ⟨⟨4, by omega, by go_num, A2.out, hB.out.alloc hB.out.size _⟩, by simp [intOf]⟩
      · have x := ix4 wr
        have KW : kwB 4 = ⟨#[36, 101]⟩ := rfl
        by_cases he : (⟨#[36, 101]⟩ : ByteArray) = s
        · have A2 : Hid (kindN s = 4) := kindN_hit (by omega) hA.out he
          subst he
          go_wp2_with fail
          go_ret
          exact ⟨by rw [A2.out]; rfl, hB.out.alloc hB.out.size _⟩
        · have A2 : Hid (∀ i, i < 5 → kwB i ≠ s) := fun i hi => by
            by_cases h : i < 4
            · exact hA.out i h
            · obtain rfl : i = 4 := by omega
              exact he
          have he2 : ([36, 101] == s.toList) = false := by
            exact lst_ne he
          clear he
          go_wp2
          exact ⟨⟨5, by omega, by go_num, A2.out, hB.out.alloc hB.out.size _⟩, by simp [intOf]⟩
      · have x := ix5 wr
        have KW : kwB 5 = ⟨#[36, 100]⟩ := rfl
        by_cases he : (⟨#[36, 100]⟩ : ByteArray) = s
        · have A2 : Hid (kindN s = 5) := kindN_hit (by omega) hA.out he
          subst he
          go_wp2_with fail
          go_ret
          exact ⟨by rw [A2.out]; rfl, hB.out.alloc hB.out.size _⟩
        · have A2 : Hid (∀ i, i < 6 → kwB i ≠ s) := fun i hi => by
            by_cases h : i < 5
            · exact hA.out i h
            · obtain rfl : i = 5 := by omega
              exact he
          have he2 : ([36, 100] == s.toList) = false := by
            exact lst_ne he
          clear he
          go_wp2
          exact ⟨⟨6, by omega, by go_num, A2.out, hB.out.alloc hB.out.size _⟩, by simp [intOf]⟩
      · have x := ix6 wr
        have KW : kwB 6 = ⟨#[36, 97]⟩ := rfl
        by_cases he : (⟨#[36, 97]⟩ : ByteArray) = s
        · have A2 : Hid (kindN s = 6) := kindN_hit (by omega) hA.out he
          subst he
          go_wp2_with fail
          go_ret
          exact ⟨by rw [A2.out]; rfl, hB.out.alloc hB.out.size _⟩
        · have A2 : Hid (∀ i, i < 7 → kwB i ≠ s) := fun i hi => by
            by_cases h : i < 6
            · exact hA.out i h
            · obtain rfl : i = 6 := by omega
              exact he
          have he2 : ([36, 97] == s.toList) = false := by
            exact lst_ne he
          clear he
          go_wp2
          exact ⟨⟨7, by omega, by go_num, A2.out, hB.out.alloc hB.out.size _⟩, by simp [intOf]⟩
      · have x := ix7 wr
        have KW : kwB 7 = ⟨#[36, 112]⟩ := rfl
        by_cases he : (⟨#[36, 112]⟩ : ByteArray) = s
        · have A2 : Hid (kindN s = 7) := kindN_hit (by omega) hA.out he
          subst he
          go_wp2_with fail
          go_ret
          exact ⟨by rw [A2.out]; rfl, hB.out.alloc hB.out.size _⟩
        · have A2 : Hid (∀ i, i < 8 → kwB i ≠ s) := fun i hi => by
            by_cases h : i < 7
            · exact hA.out i h
            · obtain rfl : i = 7 := by omega
              exact he
          have he2 : ([36, 112] == s.toList) = false := by
            exact lst_ne he
          clear he
          go_wp2
          exact ⟨⟨8, by omega, by go_num, A2.out, hB.out.alloc hB.out.size _⟩, by simp [intOf]⟩
      · have x := ix8 wr
        have KW : kwB 8 = ⟨#[36, 123]⟩ := rfl
        by_cases he : (⟨#[36, 123]⟩ : ByteArray) = s
        · have A2 : Hid (kindN s = 8) := kindN_hit (by omega) hA.out he
          subst he
          go_wp2_with fail
          go_ret
          exact ⟨by rw [A2.out]; rfl, hB.out.alloc hB.out.size _⟩
        · have A2 : Hid (∀ i, i < 9 → kwB i ≠ s) := fun i hi => by
            by_cases h : i < 8
            · exact hA.out i h
            · obtain rfl : i = 8 := by omega
              exact he
          have he2 : ([36, 123] == s.toList) = false := by
            exact lst_ne he
          clear he
          go_wp2
          exact ⟨⟨9, by omega, by go_num, A2.out, hB.out.alloc hB.out.size _⟩, by simp [intOf]⟩
      · have x := ix9 wr
        have KW : kwB 9 = ⟨#[36, 125]⟩ := rfl
        by_cases he : (⟨#[36, 125]⟩ : ByteArray) = s
        · have A2 : Hid (kindN s = 9) := kindN_hit (by omega) hA.out he
          subst he
          go_wp2_with fail
          go_ret
          exact ⟨by rw [A2.out]; rfl, hB.out.alloc hB.out.size _⟩
        · have A2 : Hid (∀ i, i < 10 → kwB i ≠ s) := fun i hi => by
            by_cases h : i < 9
            · exact hA.out i h
            · obtain rfl : i = 9 := by omega
              exact he
          have he2 : ([36, 125] == s.toList) = false := by
            exact lst_ne he
          clear he
          go_wp2
          exact ⟨⟨10, by omega, by go_num, A2.out, hB.out.alloc hB.out.size _⟩, by simp [intOf]⟩
    · obtain rfl : j = 10 := by omega
      have A2 : Hid (kindN s = 0) := kindN_miss hA.out
      go_wp2
      go_ret
      exact ⟨by rw [A2.out]; rfl, hB.out⟩
end Go.Proofs.YtipfhfeaalbmcaaDoor
