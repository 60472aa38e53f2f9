/- The place of a number in a text. -/
import Derived.Test.YtipfhfeaalbmcaaDoorKScanA
namespace Go.Proofs.YtipfhfeaalbmcaaDoor.K
open Go.RowKit

set_option maxRecDepth 100000 in
set_option maxHeartbeats 1000000 in
theorem place_in (s : ByteArray) (off : Nat) (w : World) (hs : s.size ≤ 140737488355328) (ho : off ≤ s.size) :
    Calls Tryd.prog 28 #[.string s, .int .i64 off] w fun e w' => e = .returned (.tuple #[posV s off, .bool true]) ∧ Below w.heap.size w w' := by
  have h0 : (0 : Int) ≤ off := by omega
  have h1 : (off : Int) ≤ s.size := by omega
  have hlast := lastIdx_bd (s.extract 0 off) 10 (s.extract 0 off).size
  rw [size_ext s off ho] at hlast
  have hx : (s.extract 0 off).size < 4611686018427387904 := by rw [size_ext s off ho]; omega
  have hl := line_take_le s off
  have hle : Hid (((Lib.countByte (s.extract 0 off).data.toList 10 : Nat) : Int) + 1 = lineL (s.data.toList.take off)) := line_ext s off
  have hce : Hid ((off : Int) - (Lib.lastIndexByte (s.extract 0 off) 10 + 1) + 1 = colL (s.data.toList.take off)) := col_ext s off ho
  obtain ⟨C, hC⟩ : ∃ C : Nat, C = Lib.countByte (s.extract 0 off).data.toList 10 := ⟨_, rfl⟩
  obtain ⟨D, hD⟩ : ∃ D : Int, D = Lib.lastIndexByte (s.extract 0 off) 10 := ⟨_, rfl⟩
  have hD0 : -1 ≤ D ∧ D < off := by rw [hD]; unfold Lib.lastIndexByte; rw [size_ext s off ho]; exact hlast
  have hC0 : (C : Int) ≤ off := by have := hle.out; rw [← hC] at this; omega
  rw [← hC] at hle
  rw [← hD] at hce
  have HC : Hid (C = Lib.countByte (s.extract 0 off).data.toList 10) := hC
  have HD : Hid (D = Lib.lastIndexByte (s.extract 0 off) 10) := hD
  clear hC hD hlast hl
  obtain ⟨hD1, hD2⟩ := hD0
  go_enter Tryd.func28, Tryd.ntmps28
  go_wp2_with fail
  refine (Tryd.strings_Count_one _ _ _).mono ?_
  rintro e w1 ⟨rfl, hw1⟩
  subst hw1
  rw [← HC.out]
  go_wp2_with fail
  refine (Tryd.strings_LastIndexByte _ _ hx _).mono ?_
  rintro e w1 ⟨rfl, hw1⟩
  subst hw1
  rw [← HD.out]
  go_wp2
  refine bodyPost_ret (v := .tuple #[posV s off, .bool true]) ?_ rfl ⟨rfl, (Below.refl _ _).alloc (Nat.le_refl _) _⟩
  unfold posV
  rw [← hle.out, ← hce.out]
  simp [results, Tryd.results28, go_sem]

end Go.Proofs.YtipfhfeaalbmcaaDoor.K
