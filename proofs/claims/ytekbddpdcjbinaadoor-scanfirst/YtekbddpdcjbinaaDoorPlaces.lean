/- What the calls on places answer. -/
import Derived.Test.YtekbddpdcjbinaaDoorKinds
import Derived.Test.YtekbddpdcjbinaaDoorPlace
import Derived.Test.YtekbddpdcjbinaaDoorShelf
import Derived.Outline
namespace Go.Proofs.YtekbddpdcjbinaaDoor
open Go.RowKit

theorem bcell {W w1 : World} (hb : Below W.heap.size W w1) : (∀ b o, b < W.heap.size → w1.cell? ⟨b, o, none⟩ = W.cell? ⟨b, o, none⟩) ∧ (∀ b o, b < W.heap.size → w1.frozen? ⟨b, o, none⟩ = W.frozen? ⟨b, o, none⟩) :=
  ⟨fun b o h => hb.cell (p := ⟨b, o, none⟩) h, fun b o h => hb.frozen (p := ⟨b, o, none⟩) h⟩

/-- The place of the byte number k as a value. -/
def posV (s : ByteArray) (k : Nat) : Value := .agg #[.int .i64 k, .int .i64 (lineL (s.data.toList.take k)), .int .i64 (colL (s.data.toList.take k))]

set_option maxRecDepth 100000 in
set_option maxHeartbeats 1000000 in
theorem place_in (s : ByteArray) (off : Nat) (w : World) (hs : s.size ≤ 140737488355328) (ho : off ≤ s.size) :
    Calls Tryd.prog 23 #[.string s, .int .i64 off] w fun e w' => e = .returned (.tuple #[posV s off, .bool true]) ∧ Below w.heap.size w w' := by
  have h0 : (0 : Int) ≤ off := by omega
  have h1 : (off : Int) ≤ s.size := by omega
  have hlast := lastIdx_bd (s.extract 0 off) 10 (s.extract 0 off).size
  rw [size_ext s off ho] at hlast
  have hx : (s.extract 0 off).size < 4611686018427387904 := by rw [size_ext s off ho]; omega
  have hl := line_take_le s off
  have hle : Hid (((Lib.countByte (s.extract 0 off).data.toList 10 : Nat) : Int) + 1 = lineL (s.data.toList.take off)) := line_ext s off
  have hce : Hid ((off : Int) - (Lib.lastIndexByte (s.extract 0 off) 10 + 1) + 1 = colL (s.data.toList.take off)) := col_ext s off ho
  obtain ⟨C, hC⟩ : ∃ C : Nat, C = Lib.countByte (s.extract 0 off).data.toList 10 := ⟨_, rfl⟩
  obtain ⟨D, hD⟩ : ∃ D : Int, D = Lib.lastIndexByte (s.extract 0 off) 10 := ⟨_, rfl⟩
  have hD0 : -1 ≤ D ∧ D < off := by rw [hD]; unfold Lib.lastIndexByte; rw [size_ext s off ho]; exact hlast
  have hC0 : (C : Int) ≤ off := by have := hle.out; rw [← hC] at this; omega
  rw [← hC] at hle
  rw [← hD] at hce
  have HC : Hid (C = Lib.countByte (s.extract 0 off).data.toList 10) := hC
  have HD : Hid (D = Lib.lastIndexByte (s.extract 0 off) 10) := hD
  clear hC hD hlast hl
  obtain ⟨hD1, hD2⟩ := hD0
  go_enter Tryd.func23, Tryd.ntmps23
  go_wp2_with fail
  refine (Tryd.strings_Count_one _ _ _).mono ?_
  rintro e w1 ⟨rfl, hw1⟩
  subst hw1
  rw [← HC.out]
  go_wp2_with fail
  refine (Tryd.strings_LastIndexByte _ _ hx _).mono ?_
  rintro e w1 ⟨rfl, hw1⟩
  subst hw1
  rw [← HD.out]
  go_wp2
  refine bodyPost_ret (v := .tuple #[posV s off, .bool true]) ?_ rfl ⟨rfl, (Below.refl _ _).alloc (Nat.le_refl _) _⟩
  unfold posV
  rw [← hle.out, ← hce.out]
  simp [results, Tryd.results23, go_sem]

set_option maxRecDepth 100000 in
set_option maxHeartbeats 1000000 in
theorem forth_any (s : ByteArray) (a off : Nat) (w : World) (hs : s.size ≤ 140737488355328) (ha : a ≤ off) (ho : off ≤ s.size) :
    Calls Tryd.prog 33 #[.string s, posV s a, .int .i64 off] w fun e w' => e = .returned (posV s off) ∧ Below w.heap.size w w' := by
  unfold posV
  go_enter Tryd.func33, Tryd.ntmps33
  go_wp2
  go_loopw [7] (fun _ wr => ∃ k : Nat, k ≤ off ∧ wr = (w.alloc (.cells #[.int .i64 k, .int .i64 (lineL (s.data.toList.take k)), .int .i64 (colL (s.data.toList.take k))] 30)).alloc (.cells #[.int .i64 0, .int .i64 0, .int .i64 0] 30)) (fun _ wr => off - (intOf ((wr.cell? ⟨w.heap.size, 0, none⟩).getD undef)).toNat)
  case atStart => exact ⟨a, ha, rfl⟩
  case round =>
    obtain ⟨k, hk, rfl⟩ := hrel
    obtain ⟨hl1, hl2⟩ := line_take_le s k
    obtain ⟨hc1, hc2⟩ := col_take_le s k
    by_cases hlt : k < off
    · have hks : k < s.size := by omega
      have HL : Hid (lineL (s.data.toList.take (k + 1)) = lineL (s.data.toList.take k) + if s[k] = 10 then 1 else 0) := by rw [take_snoc s k hks]; exact lineL_snoc _ _
      have HC : Hid (colL (s.data.toList.take (k + 1)) = if s[k] = 10 then 1 else colL (s.data.toList.take k) + 1) := by rw [take_snoc s k hks]; exact colL_snoc _ _
      generalize lineL (s.data.toList.take k) = L at *
      generalize colL (s.data.toList.take k) = C at *
      go_wp2
      · have hb : (((s[k].toNat : Nat) : Int) == 10) = true := by assumption
        have hb' : s[k] = 10 := (byte_ten _).1 (by simpa using hb)
        go_roundw
        case rel => exact ⟨k + 1, by omega, by rw [HL.out, HC.out, if_pos hb', if_pos hb']; push_cast; rfl⟩
        case measure => simp [intOf, go_sem]; omega
      · have hb : (((s[k].toNat : Nat) : Int) == 10) = false := by assumption
        have hb' : ¬ s[k] = 10 := fun e => by rw [(byte_ten _).2 e] at hb; simp at hb
        go_roundw
        case rel => exact ⟨k + 1, by omega, by rw [HL.out, HC.out, if_neg hb', if_neg hb']; push_cast; rfl⟩
        case measure => simp [intOf, go_sem]; omega
    · have hk' : k = off := by omega
      subst hk'
      go_wp2
      refine bodyPost_ret (v := .agg #[.int .i64 k, .int .i64 (lineL (s.data.toList.take k)), .int .i64 (colL (s.data.toList.take k))]) (by simp [results, Tryd.results33, go_sem]) rfl ⟨rfl, ?_⟩
      exact ((Below.refl _ _).alloc (Nat.le_refl _) _).alloc (by simp) _

theorem posV_zero (s : ByteArray) : posV s 0 = .agg #[.int .i64 0, .int .i64 1, .int .i64 1] := rfl

set_option maxRecDepth 100000 in
set_option maxHeartbeats 1000000 in
theorem refPlace_in (s : ByteArray) (off : Nat) (w : World) (hs : s.size ≤ 140737488355328) (ho : off ≤ s.size) :
    Calls Tryd.prog 24 #[.string s, .int .i64 off] w fun e w' => e = .returned (.tuple #[posV s off, .bool true]) ∧ Below w.heap.size w w' := by
  have h0 : (0 : Int) ≤ off := by omega
  have h1 : (off : Int) ≤ s.size := by omega
  have hf := fun wx => forth_any s 0 off wx hs (Nat.zero_le _) ho
  rw [posV_zero] at hf
  have Hf : Hid (∀ wx, Calls Tryd.prog 33 #[.string s, .agg #[.int .i64 0, .int .i64 1, .int .i64 1], .int .i64 off] wx fun e w' => e = .returned (posV s off) ∧ Below wx.heap.size wx w') := hf
  clear hf
  have hp : ∃ x y z, posV s off = .agg #[.int .i64 x, .int .i64 y, .int .i64 z] := ⟨_, _, _, rfl⟩
  obtain ⟨x, y, z, hp⟩ := hp
  rw [hp] at Hf
  rw [hp]
  clear hp
  go_enter Tryd.func24, Tryd.ntmps24
  go_wp2_with fail
  refine (Hf.out _).mono ?_
  rintro e w1 ⟨rfl, hb⟩
  obtain ⟨hc, hf⟩ := bcell hb
  have hz : w.heap.size < w1.heap.size := by have := hb.size; simp at this; omega
  go_wp2
  refine bodyPost_ret (v := .tuple #[.agg #[.int .i64 x, .int .i64 y, .int .i64 z], .bool true]) ?_ rfl ⟨rfl, ?_⟩
  · simp [results, Tryd.results24, go_sem, hc]
  · exact ((((((Below.refl _ _).alloc (Nat.le_refl _) _).trans (hb.mono (by simp))).setCell (Nat.le_refl _) _).setCell (Nat.le_refl _) _).setCell (Nat.le_refl _) _)

def zeroPos : Value := .agg #[.int .i64 0, .int .i64 0, .int .i64 0]

set_option maxHeartbeats 400000 in
theorem place_out (s : ByteArray) (off : Int) (w : World) (ho : off < 0 ∨ (s.size : Int) < off) :
    Calls Tryd.prog 23 #[.string s, .int .i64 off] w fun e w' => e = .returned (.tuple #[zeroPos, .bool false]) ∧ Below w.heap.size w w' := by
  by_cases h0 : off < 0
  · go_enter Tryd.func23, Tryd.ntmps23
    go_wp2
    exact bodyPost_ret (v := .tuple #[zeroPos, .bool false]) (by simp [zeroPos, results, Tryd.results23, go_sem]) rfl ⟨rfl, (Below.refl _ _).alloc (Nat.le_refl _) _⟩
  · have h0' : 0 ≤ off := by omega
    have h1 : (s.size : Int) < off := by omega
    clear ho h0
    go_enter Tryd.func23, Tryd.ntmps23
    go_wp2
    exact bodyPost_ret (v := .tuple #[zeroPos, .bool false]) (by simp [zeroPos, results, Tryd.results23, go_sem]) rfl ⟨rfl, (Below.refl _ _).alloc (Nat.le_refl _) _⟩
set_option maxHeartbeats 400000 in
theorem refPlace_out (s : ByteArray) (off : Int) (w : World) (ho : off < 0 ∨ (s.size : Int) < off) :
    Calls Tryd.prog 24 #[.string s, .int .i64 off] w fun e w' => e = .returned (.tuple #[zeroPos, .bool false]) ∧ Below w.heap.size w w' := by
  by_cases h0 : off < 0
  · go_enter Tryd.func24, Tryd.ntmps24
    go_wp2
    exact bodyPost_ret (v := .tuple #[zeroPos, .bool false]) (by simp [zeroPos, results, Tryd.results24, go_sem]) rfl ⟨rfl, (Below.refl _ _).alloc (Nat.le_refl _) _⟩
  · have h0' : 0 ≤ off := by omega
    have h1 : (s.size : Int) < off := by omega
    clear ho h0
    go_enter Tryd.func24, Tryd.ntmps24
    go_wp2
    exact bodyPost_ret (v := .tuple #[zeroPos, .bool false]) (by simp [zeroPos, results, Tryd.results24, go_sem]) rfl ⟨rfl, (Below.refl _ _).alloc (Nat.le_refl _) _⟩
/-- What Place answers. -/
def placeAns (s : ByteArray) (off : Int) : Value × Bool := if 0 ≤ off ∧ off ≤ s.size then (posV s off.toNat, true) else (zeroPos, false)
theorem place_any (s : ByteArray) (off : Int) (w : World) (hs : s.size ≤ 140737488355328) :
    Calls Tryd.prog 23 #[.string s, .int .i64 off] w fun e w' => e = .returned (.tuple #[(placeAns s off).1, .bool (placeAns s off).2]) ∧ Below w.heap.size w w' := by
  unfold placeAns
  split
  · rename_i h
    obtain ⟨n, rfl⟩ := Int.eq_ofNat_of_zero_le h.1
    exact place_in s n w hs (by omega)
  · exact place_out s off w (by omega)
theorem refPlace_any (s : ByteArray) (off : Int) (w : World) (hs : s.size ≤ 140737488355328) :
    Calls Tryd.prog 24 #[.string s, .int .i64 off] w fun e w' => e = .returned (.tuple #[(placeAns s off).1, .bool (placeAns s off).2]) ∧ Below w.heap.size w w' := by
  unfold placeAns
  split
  · rename_i h
    obtain ⟨n, rfl⟩ := Int.eq_ofNat_of_zero_le h.1
    exact refPlace_in s n w hs (by omega)
  · exact refPlace_out s off w (by omega)
theorem placeAns_form (s : ByteArray) (off : Int) : ∃ x y z : Int, ∃ b : Bool, (placeAns s off).1 = .agg #[.int .i64 x, .int .i64 y, .int .i64 z] ∧ (placeAns s off).2 = b := by
  unfold placeAns
  split
  · exact ⟨_, _, _, _, rfl, rfl⟩
  · exact ⟨_, _, _, _, rfl, rfl⟩
end Go.Proofs.YtekbddpdcjbinaaDoor
