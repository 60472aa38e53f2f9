/- What upTo answers: the numbers from 0 to n. -/
import Derived.Test.YtmgpnaehniohgaaDoorEPlaces
namespace Go.Proofs.YtmgpnaehniohgaaDoor.E
open Go.RowKit Go.Deep

set_option maxRecDepth 100000 in
set_option maxHeartbeats 4000000 in
theorem upTo_any (w : World) (n : Nat) (hn : n ≤ 17592186043904) :
    Calls Tryd.prog 55 #[.int .i64 n] w fun e w' => e = .returned (.slice (some ⟨w.heap.size, 0, none⟩) (n + 1) (n + 1)) ∧ Below w.heap.size w w' ∧ w'.rowIs w.heap.size 3 (n + 1) (fun j => .int .i64 (j : Nat)) := by
  have hmk := run_make_row' (P := Tryd.prog) 23 3 (.int .i64 0) 8 Tryd.underlying23 infoI rfl .i64 .i64 (n + 1) (by omega) (by omega)
  rw [show ((n + 1 : Nat) : Int) = (n : Int) + 1 by omega] at hmk
  go_enter Tryd.func55, Tryd.ntmps55
  go_wp2_with fail
  go_loopw [10] (fun v wx => ∃ i : Nat, i ≤ n + 1 ∧ v = .int .i64 i ∧ Hid (Below w.heap.size w wx) ∧ Hid (wx.rowIs w.heap.size 3 (n + 1) (fun j => .int .i64 (if j < i then (j : Int) else 0)))) (fun v _ => n + 1 - (intOf v).toNat)
  case atStart => exact ⟨0, Nat.zero_le _, rfl, (Below.refl _ _).alloc (Nat.le_refl _) _, (World.rowIs_made w _ (n + 1) 3).congr fun j _ => by rw [if_neg (by omega)]⟩
  case round =>
    obtain ⟨i, hi, rfl, hb, hrow⟩ := hrel
    by_cases hlt : i < n + 1
    · have n1 : (i : Int) < (n : Int) + 1 := by omega
      have z2 : wr.frozen? ⟨w.heap.size, i, none⟩ = false := hrow.out.frozen _
      have c3 : wr.cell? ⟨w.heap.size, i, none⟩ = some (.int .i64 (if i < i then (i : Int) else 0)) := hrow.out.cell hlt
      rw [if_neg (by omega)] at c3
      have Hb3 : Hid (Below w.heap.size w (wr.setCell ⟨w.heap.size, i, none⟩ (.int .i64 i))) := hb.out.setCell (Nat.le_refl w.heap.size) _
      have Hr3 : Hid ((wr.setCell ⟨w.heap.size, i, none⟩ (.int .i64 i)).rowIs w.heap.size 3 (n + 1) (fun j => .int .i64 (if j < i + 1 then (j : Int) else 0))) := (hrow.out.set i (.int .i64 i)).congr fun j _ => by
        by_cases e : j = i
        · subst e; rw [if_pos rfl, if_pos (by omega)]
        · rw [if_neg e]
          by_cases h2 : j < i
          · rw [if_pos h2, if_pos (by omega)]
          · rw [if_neg h2, if_neg (by omega)]
      clear hmk
      go_wp2
      go_roundw
      case rel => exact ⟨i + 1, by omega, by go_num, Hb3.out, Hr3.out⟩
      case measure => simp [intOf]; omega
    · have n1 : ¬ (i : Int) < (n : Int) + 1 := by omega
      have hin : i = n + 1 := by omega
      have Hr : Hid (wr.rowIs w.heap.size 3 (n + 1) (fun j => .int .i64 (j : Nat))) := hrow.out.congr fun j hj => by rw [if_pos (by omega)]
      clear hmk hin
      go_wp2
      go_ret
      exact ⟨rfl, hb.out, Hr.out⟩
end Go.Proofs.YtmgpnaehniohgaaDoor.E
