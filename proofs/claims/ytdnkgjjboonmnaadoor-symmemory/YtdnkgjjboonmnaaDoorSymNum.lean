/- The laws' own names: a letter and a number. -/
import Derived.Test.YtdnkgjjboonmnaaDoorSymMine
import Derived.Laws.IdiomStrings
namespace Go.Proofs.YtdnkgjjboonmnaaDoor
open Go.RowKit

def digit (m : Nat) : UInt8 := UInt8.ofNat (48 + m)
/-- The digits of a number. -/
def dg (n : Nat) : List UInt8 := if n ≤ 9 then [digit n] else dg (n / 10) ++ [digit (n % 10)]
def numB (n : Nat) : ByteArray := ⟨(110 :: dg n).toArray⟩

theorem byte_int (m : Nat) (h : m ≤ 9) : ((digit m).toNat : Int) = 48 + (m : Int) := by
  unfold digit
  have e : (UInt8.ofNat (48 + m)).toNat = (48 + m) % 256 := by simp
  rw [e, Nat.mod_eq_of_lt (by omega)]; omega
theorem conv_one (w : World) (m : Nat) (h : m ≤ 9) : (convert 67 9 (.slice (some ⟨w.heap.size, 0, none⟩) 1 1)).run Tryd.prog (w.alloc (.cells #[.int .u8 (48 + (m : Int))] 5)) = .ok (.string ⟨#[digit m]⟩) (w.alloc (.cells #[.int .u8 (48 + (m : Int))] 5)) := by
  have := run_convert_bytes_back (P := Tryd.prog) (w.alloc (.cells #[.int .u8 (48 + (m : Int))] 5)) 67 9 5 ⟨w.heap.size, 0, none⟩ 1 [digit m] Tryd.underlying67 Tryd.underlying5 Tryd.underlying9 ?_
  · exact this
  · intro j hj
    have h0 : j = 0 := by simpa using hj
    subst h0
    have hh := heap_alloc_new w (.cells #[.int .u8 (48 + (m : Int))] 5)
    rw [Addr.add_lit, Nat.zero_add]
    show _ = some (Value.int .u8 ((digit m).toNat : Int))
    rw [byte_int m h]
    simp only [World.cell?]
    rw [hh]; rfl

set_option maxRecDepth 100000 in
set_option maxHeartbeats 4000000 in
theorem numbered_any (w : World) (n : Nat) (hn : n ≤ 140737488355328) :
    Calls Tryd.prog 22 #[.int .i64 n] w fun e w' => e = .returned (.string (numB n)) ∧ Below w.heap.size w w' := by
  go_enter Tryd.func22, Tryd.ntmps22
  go_wp2
  go_loopw [0, 3] (fun m s wx => ∃ (k : Nat) (t : ByteArray), t.size + k ≤ n ∧ m = .int .i64 k ∧ s = .string t ∧ Hid (dg k ++ t.data.toList = dg n) ∧ Hid (Below w.heap.size w wx)) (fun m _ _ => (intOf m).toNat)
  case atStart => exact ⟨n, ⟨#[]⟩, Nat.le_of_eq (Nat.zero_add n), rfl, rfl, List.append_nil _, Below.refl _ _⟩
  case round =>
    obtain ⟨k, t, hk, rfl, rfl, hd, hb⟩ := hrel
    by_cases h9 : 9 < k
    · have h9' : (9 : Int) < (k : Int) := by omega
      have cv := conv_one wr (k % 10) (by omega)
      rw [show ((k % 10 : Nat) : Int) = (k : Int) % 10 by omega] at cv
      have hm0 : (0 : Int) ≤ (k : Int) % 10 := by omega
      have hm1 : (k : Int) % 10 < 10 := by omega
      have e10 : Hid (dg k = dg (k / 10) ++ [digit (k % 10)]) := by
        show _ = _
        rw [dg, if_neg (by omega)]
      go_wp2
      go_roundw
      case rel =>
        refine ⟨k / 10, ⟨#[digit (k % 10)]⟩ ++ t, ?_, ?_, ?_, ?_, ?_⟩
        · have : (⟨#[digit (k % 10)]⟩ ++ t : ByteArray).size = 1 + t.size := by rw [ByteArray.size_append]; rfl
          rw [this]; omega
        · go_num
        · rfl
        · show _ = _
          rw [← hd.out, e10.out]
          simp
        · exact hb.out.alloc hb.out.size _
      case measure => simp [intOf]; omega
    · have h9' : ¬ (9 : Int) < (k : Int) := by omega
      have cv := conv_one wr k (by omega)
      go_wp2
      go_ret
      have key : (⟨#[110]⟩ ++ ⟨#[digit k]⟩ ++ t : ByteArray) = numB n := by
        unfold numB
        rw [← hd.out, dg, if_pos (by omega)]
        apply ByteArray.ext
        simp
      exact ⟨congrArg (fun x => Ending.returned (Value.string x)) key, hb.out.alloc hb.out.size _⟩
end Go.Proofs.YtdnkgjjboonmnaaDoor
