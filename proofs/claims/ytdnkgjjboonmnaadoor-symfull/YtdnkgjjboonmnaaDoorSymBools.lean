/- A list of bools that came in, opened. -/
import Derived.Test.YtdnkgjjboonmnaaDoorSymIn
import Derived.Test.YtdnkgjjboonmnaaDoorFullWalk
namespace Go.Proofs.YtdnkgjjboonmnaaDoor
open Go.ChangeShapes Go.WideShapes Go.ChangeAt Go.RowKit Go.Deep

theorem cells4 : Tryd.prog.cellsOf 4 = 1 := by kernel_rfl
theorem bytes4 : Tryd.prog.bytesOf 4 = 1 := by kernel_rfl
theorem bools_in {H : Type} {enc : TypeId × Value → H} {W : World} {fuel : Nat} {a0 : Option Addr} {len cap : Nat} {x : DataW H × List MemPlace}
    (h : DataW.trod enc Tryd.prog W 0 (fun _ => true) true fuel 27 [.slice a0 len cap] = some x) (hsz : ∀ elems spare, x.1 = .slice elems spare → (elems.length + spare.length) * 1 ≤ reachBytes) :
    len ≤ 140737488351232 ∧ ∃ Z, BoolsIs W a0 len Z := by
  rcases open_slice Tryd.underlying27 h with ⟨hcs, _⟩ | ⟨a, len', cap', m, n, D, Pl, hcs, _, hl, hm, hmm, hx, hel⟩
  · simp at hcs
    obtain ⟨rfl, rfl, rfl⟩ := hcs
    exact ⟨by omega, fun _ => false, fun i hi => by omega⟩
  · simp at hcs
    obtain ⟨rfl, rfl, rfl⟩ := hcs
    simp only [if_true] at hmm
    have h2 := hsz _ _ (by rw [hx])
    simp only [List.length_map, List.length_range, reachBytes] at h2
    refine ⟨by omega, ?_⟩
    have key : ∀ i, i < len → ∃ q : Bool, W.cell? (a.add i) = some (.bool q) := by
      intro i hi
      obtain ⟨cs', hc, ht⟩ := hel i (by omega)
      rw [cells4, Nat.mul_one] at hc
      obtain ⟨q, e0, _⟩ := DataW.trod_bool Tryd.underlying4 ht
      subst e0
      obtain ⟨_, _, hcell⟩ := World.cells?_some hc
      have h0 := hcell 0 (by omega)
      rw [add_add, Nat.add_zero] at h0
      exact ⟨q, h0⟩
    obtain ⟨F, hF⟩ := choose_lt key
    refine ⟨F, fun i hi => ?_⟩
    have h0 := hF i hi
    obtain ⟨b, off, spot⟩ := a
    have hspot : spot = none := by
      have := World.cell?_spot (hF 0 (by omega))
      simpa [Addr.add] using this
    subst hspot
    rw [add_plain] at h0
    exact ⟨b, off, rfl, h0⟩
end Go.Proofs.YtdnkgjjboonmnaaDoor
