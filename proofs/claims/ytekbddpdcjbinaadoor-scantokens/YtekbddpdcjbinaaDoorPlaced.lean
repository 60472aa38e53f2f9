/- What the statements' own count of places answers. -/
import Derived.Deep.QuietTactic
import Derived.Test.YtekbddpdcjbinaaDoorPlaces
namespace Go.Proofs.YtekbddpdcjbinaaDoor
open Go.RowKit

set_option maxRecDepth 100000 in
set_option maxHeartbeats 2000000 in
theorem placed_any (s : ByteArray) (a n : Nat) (w : World) (hs : s.size ≤ 281474976710656) (ha : a ≤ n) (hn : n ≤ s.size) :
    Calls Tryd.prog 14 #[.string s, posV s n, posV s a] w fun e w' => e = .returned (.tuple #[posV s n, .bool true]) ∧ Below w.heap.size w w' := by
  unfold posV
  obtain ⟨Ln, hLn⟩ : ∃ L, L = lineL (s.data.toList.take n) := ⟨_, rfl⟩
  obtain ⟨Cn, hCn⟩ : ∃ C, C = colL (s.data.toList.take n) := ⟨_, rfl⟩
  rw [← hLn, ← hCn]
  have HLn : Hid (Ln = lineL (s.data.toList.take n)) := hLn
  have HCn : Hid (Cn = colL (s.data.toList.take n)) := hCn
  clear hLn hCn
  have x1 : (a : Int) ≤ (n : Int) := by omega
  have x2 : (n : Int) ≤ (s.size : Int) := by omega
  go_enter Tryd.func14, Tryd.ntmps14
  go_wp2
  go_loopw [8] (fun i wr => ∃ k : Nat, a ≤ k ∧ k ≤ n ∧ i = .int .i64 k ∧ wr = ((w.alloc (.cells #[.int .i64 n, .int .i64 Ln, .int .i64 Cn] 30)).alloc (.cells #[.int .i64 a, .int .i64 (lineL (s.data.toList.take k)), .int .i64 (colL (s.data.toList.take k))] 30)).alloc (.cells #[.int .i64 0, .int .i64 0, .int .i64 0] 30)) (fun i _ => n - (intOf i).toNat)
  case atStart => exact ⟨a, Nat.le_refl _, ha, rfl, rfl⟩
  case round =>
    obtain ⟨k, hak, hk, rfl, rfl⟩ := hrel
    obtain ⟨hl1, hl2⟩ := line_take_le s k
    obtain ⟨hc1, hc2⟩ := col_take_le s k
    by_cases hlt : k < n
    · have hks : k < s.size := by omega
      have HL : Hid (lineL (s.data.toList.take (k + 1)) = lineL (s.data.toList.take k) + if s[k] = 10 then 1 else 0) := by rw [take_snoc s k hks]; exact lineL_snoc _ _
      have HC : Hid (colL (s.data.toList.take (k + 1)) = if s[k] = 10 then 1 else colL (s.data.toList.take k) + 1) := by rw [take_snoc s k hks]; exact colL_snoc _ _
      generalize lineL (s.data.toList.take k) = L at *
      generalize colL (s.data.toList.take k) = C at *
      go_wp2
      · have hb : (((s[k].toNat : Nat) : Int) == 10) = true := by assumption
        have hb' : s[k] = 10 := (byte_ten _).1 (by simpa using hb)
        go_roundw
        case rel => exact ⟨k + 1, by omega, by omega, by go_num, by rw [HL.out, HC.out, if_pos hb', if_pos hb']; push_cast; rfl⟩
        case measure => simp [intOf, go_sem]; omega
      · have hb : (((s[k].toNat : Nat) : Int) == 10) = false := by assumption
        have hb' : ¬ s[k] = 10 := fun e => by rw [(byte_ten _).2 e] at hb; simp at hb
        go_roundw
        case rel => exact ⟨k + 1, by omega, by omega, by go_num, by rw [HL.out, HC.out, if_neg hb', if_neg hb']; push_cast; rfl⟩
        case measure => simp [intOf, go_sem]; omega
    · have hkn : k = n := by omega
      subst hkn
      rw [← HLn.out, ← HCn.out]
      go_wp2
      go_region
      all_goals (try go_wp2)
      all_goals
        refine bodyPost_ret (v := .tuple #[.agg #[.int .i64 k, .int .i64 Ln, .int .i64 Cn], .bool true]) ?_ rfl ⟨rfl, ?_⟩
        · simp [results, Tryd.results14, go_sem]
        · have h := (((Below.refl w.heap.size w).alloc (Nat.le_refl _) (Obj.cells #[.int .i64 k, .int .i64 Ln, .int .i64 Cn] 30)).alloc (by simp) (Obj.cells #[.int .i64 k, .int .i64 Ln, .int .i64 Cn] 30)).alloc (by simp; omega) (Obj.cells #[.int .i64 k, .int .i64 Ln, .int .i64 Cn] 30)
          exact ⟨h.os, h.tape, h.output, h.size, h.block⟩
end Go.Proofs.YtekbddpdcjbinaaDoor
