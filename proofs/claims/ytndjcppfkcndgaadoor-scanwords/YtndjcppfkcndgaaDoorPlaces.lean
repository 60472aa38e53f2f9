/- What the calls on places answer. -/
import Derived.Test.YtndjcppfkcndgaaDoorKinds
import Derived.Test.YtndjcppfkcndgaaDoorPlace
import Derived.Test.YtndjcppfkcndgaaDoorShelf
import Derived.Outline
namespace Go.Proofs.YtndjcppfkcndgaaDoor
open Go.RowKit

theorem bcell {W w1 : World} (hb : Below W.heap.size W w1) : (∀ b o, b < W.heap.size → w1.cell? ⟨b, o, none⟩ = W.cell? ⟨b, o, none⟩) ∧ (∀ b o, b < W.heap.size → w1.frozen? ⟨b, o, none⟩ = W.frozen? ⟨b, o, none⟩) :=
  ⟨fun b o h => hb.cell (p := ⟨b, o, none⟩) h, fun b o h => hb.frozen (p := ⟨b, o, none⟩) h⟩

/-- The place of the byte number k as a value. -/
def posV (s : ByteArray) (k : Nat) : Value := .agg #[.int .i64 k, .int .i64 (lineL (s.data.toList.take k)), .int .i64 (colL (s.data.toList.take k))]

set_option maxRecDepth 100000 in
set_option maxHeartbeats 1000000 in
theorem forth_any (s : ByteArray) (a off : Nat) (w : World) (hs : s.size ≤ 140737488355328) (ha : a ≤ off) (ho : off ≤ s.size) :
    Calls Tryd.prog 37 #[.string s, posV s a, .int .i64 off] w fun e w' => e = .returned (posV s off) ∧ Below w.heap.size w w' := by
  unfold posV
  go_enter Tryd.func37, Tryd.ntmps37
  go_wp2
  go_loopw [7] (fun _ wr => ∃ k : Nat, k ≤ off ∧ wr = (w.alloc (.cells #[.int .i64 k, .int .i64 (lineL (s.data.toList.take k)), .int .i64 (colL (s.data.toList.take k))] 30)).alloc (.cells #[.int .i64 0, .int .i64 0, .int .i64 0] 30)) (fun _ wr => off - (intOf ((wr.cell? ⟨w.heap.size, 0, none⟩).getD undef)).toNat)
  case atStart => exact ⟨a, ha, rfl⟩
  case round =>
    obtain ⟨k, hk, rfl⟩ := hrel
    obtain ⟨hl1, hl2⟩ := line_take_le s k
    obtain ⟨hc1, hc2⟩ := col_take_le s k
    by_cases hlt : k < off
    · have hks : k < s.size := by omega
      have HL : Hid (lineL (s.data.toList.take (k + 1)) = lineL (s.data.toList.take k) + if s[k] = 10 then 1 else 0) := by rw [take_snoc s k hks]; exact lineL_snoc _ _
      have HC : Hid (colL (s.data.toList.take (k + 1)) = if s[k] = 10 then 1 else colL (s.data.toList.take k) + 1) := by rw [take_snoc s k hks]; exact colL_snoc _ _
      generalize lineL (s.data.toList.take k) = L at *
      generalize colL (s.data.toList.take k) = C at *
      go_wp2
      · have hb : (((s[k].toNat : Nat) : Int) == 10) = true := by assumption
        have hb' : s[k] = 10 := (byte_ten _).1 (by simpa using hb)
        go_roundw
        case rel => exact ⟨k + 1, by omega, by rw [HL.out, HC.out, if_pos hb', if_pos hb']; push_cast; rfl⟩
        case measure => simp [intOf, go_sem]; omega
      · have hb : (((s[k].toNat : Nat) : Int) == 10) = false := by assumption
        have hb' : ¬ s[k] = 10 := fun e => by rw [(byte_ten _).2 e] at hb; simp at hb
        go_roundw
        case rel => exact ⟨k + 1, by omega, by rw [HL.out, HC.out, if_neg hb', if_neg hb']; push_cast; rfl⟩
        case measure => simp [intOf, go_sem]; omega
    · have hk' : k = off := by omega
      subst hk'
      go_wp2
      refine bodyPost_ret (v := .agg #[.int .i64 k, .int .i64 (lineL (s.data.toList.take k)), .int .i64 (colL (s.data.toList.take k))]) (by simp [results, Tryd.results37, go_sem]) rfl ⟨rfl, ?_⟩
      exact ((Below.refl _ _).alloc (Nat.le_refl _) _).alloc (by simp) _

theorem posV_zero (s : ByteArray) : posV s 0 = .agg #[.int .i64 0, .int .i64 1, .int .i64 1] := rfl

set_option maxRecDepth 100000 in
set_option maxHeartbeats 1000000 in
theorem refPlace_in (s : ByteArray) (off : Nat) (w : World) (hs : s.size ≤ 140737488355328) (ho : off ≤ s.size) :
    Calls Tryd.prog 28 #[.string s, .int .i64 off] w fun e w' => e = .returned (.tuple #[posV s off, .bool true]) ∧ Below w.heap.size w w' := by
  have h0 : (0 : Int) ≤ off := by omega
  have h1 : (off : Int) ≤ s.size := by omega
  have hf := fun wx => forth_any s 0 off wx hs (Nat.zero_le _) ho
  rw [posV_zero] at hf
  have Hf : Hid (∀ wx, Calls Tryd.prog 37 #[.string s, .agg #[.int .i64 0, .int .i64 1, .int .i64 1], .int .i64 off] wx fun e w' => e = .returned (posV s off) ∧ Below wx.heap.size wx w') := hf
  clear hf
  have hp : ∃ x y z, posV s off = .agg #[.int .i64 x, .int .i64 y, .int .i64 z] := ⟨_, _, _, rfl⟩
  obtain ⟨x, y, z, hp⟩ := hp
  rw [hp] at Hf
  rw [hp]
  clear hp
  go_enter Tryd.func28, Tryd.ntmps28
  go_wp2_with fail
  refine (Hf.out _).mono ?_
  rintro e w1 ⟨rfl, hb⟩
  obtain ⟨hc, hf⟩ := bcell hb
  have hz : w.heap.size < w1.heap.size := by have := hb.size; simp at this; omega
  go_wp2
  refine bodyPost_ret (v := .tuple #[.agg #[.int .i64 x, .int .i64 y, .int .i64 z], .bool true]) ?_ rfl ⟨rfl, ?_⟩
  · simp [results, Tryd.results28, go_sem, hc]
  · exact ((((((Below.refl _ _).alloc (Nat.le_refl _) _).trans (hb.mono (by simp))).setCell (Nat.le_refl _) _).setCell (Nat.le_refl _) _).setCell (Nat.le_refl _) _)

def zeroPos : Value := .agg #[.int .i64 0, .int .i64 0, .int .i64 0]
theorem boxed3 {W w1 : World} {x y z : Value} {t : TypeId} (hb : Below (W.alloc (.cells #[x, y, z] t)).heap.size (W.alloc (.cells #[x, y, z] t)) w1) :
    w1.cell? ⟨W.heap.size, 0, none⟩ = some x ∧ w1.cell? ⟨W.heap.size, 1, none⟩ = some y ∧ w1.cell? ⟨W.heap.size, 2, none⟩ = some z ∧ W.heap.size < w1.heap.size := by
  have hs := hb.size
  simp at hs
  refine ⟨?_, ?_, ?_, by omega⟩
  · rw [hb.cell (p := ⟨W.heap.size, 0, none⟩) (by simp)]; simp [go_sem]
  · rw [hb.cell (p := ⟨W.heap.size, 1, none⟩) (by simp)]; simp [go_sem]
  · rw [hb.cell (p := ⟨W.heap.size, 2, none⟩) (by simp)]; simp [go_sem]
theorem later {W w1 : World} {x : Value} {b o : Nat} {O : Obj} (hb : Below (W.alloc O).heap.size (W.alloc O) w1) (h : W.cell? ⟨b, o, none⟩ = some x) : w1.cell? ⟨b, o, none⟩ = some x := by
  have hlt : b < W.heap.size := World.block_lt_of_cell? _ _ h
  rw [hb.cell (p := ⟨b, o, none⟩) (by simp; omega)]
  rw [World.cell?_of_block (w := W) (Below.heap_alloc W O b hlt)]
  exact h

theorem later1 {W : World} {x : Value} {b o : Nat} (h : W.cell? ⟨b, o, none⟩ = some x) (O : Obj) : (W.alloc O).cell? ⟨b, o, none⟩ = some x :=
  (World.cell?_of_block (w := W) (Below.heap_alloc W O b (World.block_lt_of_cell? _ _ h))).trans h

end Go.Proofs.YtndjcppfkcndgaaDoor
