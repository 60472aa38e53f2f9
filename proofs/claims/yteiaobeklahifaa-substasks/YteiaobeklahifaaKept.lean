/- kept: a list that was lent is as it was, and the room behind it. -/
import Derived.Test.YteiaobeklahifaaLent
namespace Go.Proofs.Yteiaobeklahifaa
open Go.RowKit

set_option maxRecDepth 100000 in
set_option maxHeartbeats 4000000 in
theorem kept_any (w : World) (a b : Option Addr) (ca cb : Nat) (l : List Int) (n : Nat) (ha : l.length = n) (hn : n ≤ 17592186043904) (hc : n + 2 ≤ ca) (hA : IntsAt w a (marked l)) (hB : IntsAt w b l) :
    Calls Try.prog 30 #[.slice a n ca, .slice b n cb] w fun e w' => e = .returned (.bool true) ∧ Below w.heap.size w w' := by
  have SE : Hid _ := same_eq w a b ca cb l n ha (by omega) hA.front hB
  obtain ⟨g, off, rfl, k1⟩ := hA n (-7777) (by unfold marked; rw [List.getElem?_append_right (by omega), ha, Nat.sub_self]; rfl)
  obtain ⟨_, _, e2, k2⟩ := hA (n + 1) (-7777) (by unfold marked; rw [List.getElem?_append_right (by omega), ha, Nat.add_sub_cancel_left]; rfl)
  cases e2
  have k2' : w.cell? ⟨g, off + n + 1, none⟩ = some (.int .i64 (-7777)) := by rw [Nat.add_assoc]; exact k2
  have f1 : IntKind.i64.wrap ((n : Int) + 2) = ((n + 2 : Nat) : Int) := by rw [IntWalk.i64_in _ (by omega)]; omega
  have f2 : IntKind.i64.wrap ((n : Int) + 1) = ((n + 1 : Nat) : Int) := by rw [IntWalk.i64_in _ (by omega)]; omega
  have f3 : ((n + 2 : Nat) : Int) ≤ (ca : Int) := by omega
  have f4 : (n : Int) < ((n + 2 : Nat) : Int) := by omega
  have f5 : ((n + 1 : Nat) : Int) < ((n + 2 : Nat) : Int) := by omega
  clear hA hB ha k2
  go_enter Try.func30, Try.ntmps30
  go_wp2_with fail
  refine Calls.mono SE.out ?_
  rintro e wz ⟨rfl, d, hwz⟩
  subst wz
  have Hb : Hid (Below w.heap.size w (w.drewN d)) := ⟨rfl, rfl, rfl, Nat.le_refl _, fun _ _ => rfl⟩
  have q1 : (w.drewN d).cell? ⟨g, off + n, none⟩ = some (.int .i64 (-7777)) := k1
  have q2 : (w.drewN d).cell? ⟨g, off + n + 1, none⟩ = some (.int .i64 (-7777)) := k2'
  have q3 : (w.drewN d).cell? ⟨g, off + (n + 1), none⟩ = some (.int .i64 (-7777)) := k2'
  clear SE
  generalize w.drewN d = wy at *
  go_wp2
  go_ret
  exact ⟨rfl, Hb.out⟩
end Go.Proofs.Yteiaobeklahifaa
