/- What a table tells of a symbol's being active. -/
import Derived.Test.YtdnkgjjboonmnabDoorSymReads
namespace Go.Proofs.YtdnkgjjboonmnabDoor
open Go.RowKit

def activeOf (T : Tab) (n : Int) : Bool := match symAt T n with | none => false | some p => (actOf T p.1).isSome

set_option maxRecDepth 100000 in
set_option maxHeartbeats 1000000 in
theorem active_of (w : World) (bs : List Nat) (B k : Nat) (T : Tab) (n : Int) (hT : T.syms.length ≤ 4611686018427387904) (hnm : ∀ p ∈ T.syms, p.1.size ≤ maxLen) (h : TabAt w bs B k T) :
    Calls Tryd.prog 18 #[.pointer (some ⟨B, 0, none⟩), .int .i64 n] w fun e w' => e = .returned (.bool (activeOf T n)) ∧ Below w.heap.size w w' := by
  have A := at_any w bs B k T n hT h
  obtain ⟨vs, vc, vl, mk, ma, mt, vars, h, _⟩ := h
  obtain ⟨na, _, hm⟩ := h.active
  have hblk := h.block
  have hBw : B < w.heap.size := (Array.getElem?_eq_some_iff.1 hblk).1
  clear h
  cases hs : symAt T n with
  | none =>
    have He : Hid (activeOf T n = false) := by show _ = _; unfold activeOf; rw [hs]
    rw [hs] at A
    replace A := show Hid _ from A
    clear hs hm hblk
    go_enter Tryd.func18, Tryd.ntmps18
    go_wp2_with fail
    refine Calls.mono A.out ?_
    rintro e w1 ⟨rfl, hb⟩
    clear A
    go_wp2
    go_ret
    exact ⟨by rw [He.out]; rfl, hb.alloc hb.size _⟩
  | some p =>
    have hp : p ∈ T.syms := by
      unfold symAt at hs
      split at hs
      · exact List.mem_of_getElem? hs
      · cases hs
    have hsz := hnm p hp
    obtain ⟨r, hr⟩ : ∃ r, r = actOf T p.1 := ⟨_, rfl⟩
    have He : Hid (activeOf T n = r.isSome) := by show _ = _; unfold activeOf; rw [hs, hr]
    rw [hs] at A
    obtain ⟨nm, vr⟩ := p
    have A' : Hid (Calls Tryd.prog 33 #[.pointer (some ⟨B, 0, none⟩), .int .i64 n] w fun e w' => e = .returned (.tuple #[.agg #[.string nm, .bool vr], .bool true]) ∧ Below w.heap.size w w') := A
    clear A hs hp
    go_enter Tryd.func18, Tryd.ntmps18
    go_wp2_with fail
    refine Calls.mono A'.out ?_
    rintro e w1 ⟨rfl, hb⟩
    have hz := hb.size
    clear A'
    have hblk2 : (w1.alloc (.cells #[.string nm, .bool vr] 55)).heap[B]? = some (.cells #[vs, .map (some mk), .map (some ma), vc, vl, .map (some mt)] 41 (0, 0)) := (Below.heap_alloc w1 _ B (by omega)).trans ((hb.block B hBw).trans hblk)
    have hma : ma < w.heap.size := by
      obtain ⟨D, ⟨es, clock, hh, _⟩, _⟩ := hm
      exact (Array.getElem?_eq_some_iff.1 hh).1
    have hm2 : ∀ j, MapIs ((w1.alloc (.cells #[.string nm, .bool vr] 55)).drewN j) ma na (actOf T) := fun j => hm.kept ((Below.heap_alloc w1 _ ma (by omega)).trans (hb.block ma hma))
    have hl : ∀ j, (Instr.lookup 37 (.map (some ma)) (.string nm) true).run Tryd.prog ((w1.alloc (.cells #[.string nm, .bool vr] 55)).drewN j) = .ok (.tuple #[.int .i64 (r.getD 0 : Nat), .bool r.isSome]) ((w1.alloc (.cells #[.string nm, .bool vr] 55)).drewN j) := fun j => by
      have := (hm2 j).look nm hsz
      rw [← hr] at this; exact this
    obtain ⟨_, _, c2, _⟩ := cells6 hblk2
    have b0 : (w1.alloc (.cells #[.string nm, .bool vr] 55)).cell? ⟨w1.heap.size, 0, none⟩ = some (.string nm) := by
      have hh := heap_alloc_new w1 (.cells #[.string nm, .bool vr] 55)
      simp only [World.cell?]; rw [hh]; rfl
    clear hm2 hblk2 hblk hm hr
    go_wp2_with fail
    generalize hw2 : w1.alloc (.cells #[.string nm, .bool vr] 55) = w2 at *
    go_quiet (fail)
    go_wp2
    go_ret
    refine ⟨by rw [He.out]; rfl, ?_⟩
    rw [← hw2]
    have h := hb.alloc hb.size (.cells #[.string nm, .bool vr] 55)
    exact ⟨h.os, h.tape, h.output, h.size, h.block⟩
end Go.Proofs.YtdnkgjjboonmnabDoor
