/- A script that came in, opened. -/
import Derived.Test.YtdnkgjjboonmnaaDoorLaid
import Derived.Test.YtdnkgjjboonmnaaDoorSymStand
import Derived.Deep.Strs
import Derived.SizedLaws
import Derived.ChangeArms
import Derived.ChangeSlices
namespace Go.Proofs.YtdnkgjjboonmnaaDoor
open Go.ChangeShapes Go.WideShapes Go.ChangeAt Go.RowKit Go.Deep

theorem cells30 : Tryd.prog.cellsOf 30 = 3 := by kernel_rfl
theorem cells9 : Tryd.prog.cellsOf 9 = 1 := by kernel_rfl
theorem cells3 : Tryd.prog.cellsOf 3 = 1 := by kernel_rfl
theorem bytes30 : Tryd.prog.bytesOf 30 = 32 := by kernel_rfl

theorem script_in {H : Type} {enc : TypeId × Value → H} {W : World} {fuel : Nat} {a0 : Option Addr} {len cap : Nat} {x : DataW H × List MemPlace}
    (h : DataW.trod enc Tryd.prog W 0 (fun _ => true) true fuel 22 [.slice a0 len cap] = some x) (hsz : ∀ elems spare, x.1 = .slice elems spare → (elems.length + spare.length) * 32 ≤ reachBytes) :
    len ≤ 4398046510976 ∧ ∃ K S M, ScriptIs W a0 len K S M := by
  rcases open_slice Tryd.underlying22 h with ⟨hcs, _⟩ | ⟨a, len', cap', m, n, D, Pl, hcs, _, hl, hm, hmm, hx, hel⟩
  · simp at hcs
    obtain ⟨rfl, rfl, rfl⟩ := hcs
    exact ⟨by omega, fun _ => 0, fun _ => ⟨#[]⟩, fun _ => 0, fun i hi => by omega⟩
  · simp at hcs
    obtain ⟨rfl, rfl, rfl⟩ := hcs
    simp only [if_true] at hmm
    have h2 := hsz _ _ (by rw [hx])
    simp only [List.length_map, List.length_range, reachBytes] at h2
    refine ⟨by omega, ?_⟩
    have key : ∀ i, i < len → ∃ q : Int × ByteArray × Int, W.cell? (a.add (i * 3)) = some (.int .i64 q.1) ∧ W.cell? (a.add (i * 3 + 1)) = some (.string q.2.1) ∧ W.cell? (a.add (i * 3 + 2)) = some (.int .i64 q.2.2) ∧ q.2.1.size ≤ maxLen := by
      intro i hi
      obtain ⟨cs', hc, ht⟩ := hel i (by omega)
      rw [cells30] at hc
      obtain ⟨y0, y1, y2, n2, _, hlen, t0, t1, t2⟩ := trod_struct3 Tryd.underlying30 ht
      obtain ⟨k, e0, _, _⟩ := DataW.trod_int Tryd.underlying3 t0
      obtain ⟨s, e1, _, hs⟩ := DataW.trod_string Tryd.underlying9 t1
      obtain ⟨mm, e2, _, _⟩ := DataW.trod_int Tryd.underlying3 t2
      dsimp only at e0 e1 e2
      rw [cells3] at e0 e2
      rw [cells9] at e1
      rw [cells30] at hlen
      match cs', hlen with
      | [u0, u1, u2], _ =>
        simp at e0 e1 e2
        subst e0 e1 e2
        obtain ⟨_, _, hcell⟩ := World.cells?_some hc
        have h0 := hcell 0 (by omega)
        have h1 := hcell 1 (by omega)
        have h2' := hcell 2 (by omega)
        rw [add_add] at h0 h1 h2'
        exact ⟨(k, s, mm), h0, h1, h2', hs⟩
    obtain ⟨F, hF⟩ := choose_lt key
    refine ⟨fun i => (F i).1, fun i => (F i).2.1, fun i => (F i).2.2, fun i hi => ?_⟩
    obtain ⟨h0, h1, h2', hs⟩ := hF i hi
    obtain ⟨b, off, spot⟩ := a
    have hspot : spot = none := by
      have := World.cell?_spot (hF 0 (by omega)).1
      simpa [Addr.add] using this
    subst hspot
    rw [add_plain] at h0 h1 h2'
    exact ⟨b, off, rfl, h0, by rw [Nat.add_assoc]; exact h1, by rw [Nat.add_assoc]; exact h2', hs⟩
end Go.Proofs.YtdnkgjjboonmnaaDoor
