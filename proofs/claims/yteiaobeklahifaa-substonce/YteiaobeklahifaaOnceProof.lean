/- For every list of binds and every expression the law on substitutions applied at once (SubstOnce) returns true and leaves its arguments as they were. -/
import Derived.Test.YteiaobeklahifaaRows
import Derived.Test.YteiaobeklahifaaOnceWalk
import Derived.Test.YteiaobeklahifaaIn
import Derived.ProofKit
import Derived.SizedLaws
import Derived.Deep.DeepHandedRow
import Derived.SliceStrings
import Derived.ChangeSlices
import Derived.Carry
namespace Go.Proofs.Yteiaobeklahifaa
open Go.ChangeShapes Go.WideShapes Go.ChangeAt Go.RowKit

theorem own : ownKnob Try.prog.godebug = none := by kernel_rfl
theorem laidOut : laidOutB Try.prog = true := by kernel_rfl

set_option maxRecDepth 100000 in
theorem once_lifted (os : Os) (started : os.Started) (H : Type) (enc : TypeId × Value → H) :
    ReturnsInHanded {} Try.checked os 4 .any (Rows.substOnceSpec.pre6 enc Try.prog Try.f4 [] false)
      (Rows.substOnceSpec.post enc Try.prog Try.f4 false true false false) := by
  refine returnsInHanded_of_change_sized (C := Try.checked) own started (by kernel_rfl) Try.func4
    (ChangeSpec.witness6 (enc := enc) (C := Try.checked) false ⟨#[], #[.slice none 0 0, .slice none 0 0], []⟩ 8 (by kernel_rfl) (by kernel_rfl) (by kernel_rfl) (by kernel_rfl)) ?_
  intro W base args ds gs before hval0 hW _ hsz0 _
  have hval : ∀ (j : Nat) t v, Try.f4.params[j]? = some t → args[j]? = some v → Value.okWide Try.prog W .any base t v := hval0
  have hsz : (DataW.weightsEach Try.prog (Try.f4.params.toList ++ Rows.substOnceSpec.plain.varTypes Try.prog) (ds ++ gs)).all (· ≤ reachBytes) = true := hsz0
  have hW' := hW
  obtain ⟨p, q, hA0, hV, rfl, hfz, hnd⟩ := hW
  have hA : DataW.TrodAll enc Try.prog W 0 (fun _ => true) true Try.f4.params.toList args.toList ds p := hA0
  rw [Try.params4] at hA hval hsz
  obtain ⟨v0, v1, d0, d1, p0, p1, rfl, rfl, rfl, h0, h1⟩ := trodAll_two hA
  obtain ⟨rfl, rfl⟩ := trodVars_none hV
  obtain ⟨wa0, wn0, wc0, rfl⟩ := okWide_slice Try.underlying23 (hval 0 23 v0 rfl rfl)
  obtain ⟨wa1, wn1, wc1, rfl⟩ := okWide_slice Try.underlying29 (hval 1 29 v1 rfl rfl)
  have hk0 := h0
  have hk1 := h1
  obtain ⟨f0, hf0⟩ := h0
  obtain ⟨f1, hf1⟩ := h1
  simp only [List.append_nil] at hW'
  have hl0 : ∀ x ∈ p0, x.block < W.heap.size := fun x hx => by simpa using hW'.lt x (by simp [hx])
  have hl1 : ∀ x ∈ p1, x.block < W.heap.size := fun x hx => by simpa using hW'.lt x (by simp [hx])
  have back : ∀ (t : TypeId) (_ : t = 23 ∨ t = 29) (a : Option Addr) (n c : Nat) (d : DataW H) (p : List MemPlace), DataW.Trod enc Try.prog W 0 (fun _ => true) true t (.slice a n c) d p → (∀ x ∈ p, x.block < W.heap.size) → ∀ (W' : World), Below W.heap.size W W' → DataW.Trod enc Try.prog W' 0 (fun b => decide (b < W.heap.size)) true t (.slice a n c) d p := by
    intro t ht a n c d p hk hl W' hn
    rcases ht with rfl | rfl
    · exact Below.trod laidOut (by kernel_rfl) (of_decide_eq_true (by kernel_rfl)) hk hn hl
    · exact Below.trod laidOut (by kernel_rfl) (of_decide_eq_true (by kernel_rfl)) hk hn hl
  have hall := List.all_eq_true.1 hsz
  have hw0 : ∀ n ∈ d0.weights Try.prog 23, n ≤ reachBytes := fun n hn => by
    have := hall n (DataW.weights_mem_each (j := 0) (t := 23) (d := d0) rfl rfl n hn)
    simpa using this
  have hw1 : ∀ n ∈ d1.weights Try.prog 29, n ≤ reachBytes := fun n hn => by
    have := hall n (DataW.weights_mem_each (j := 1) (t := 29) (d := d1) rfl rfl n hn)
    simpa using this
  obtain ⟨_, vs, bl, hbl, hR, hM, hx, hin⟩ := binds_open hf0
  obtain ⟨hb0, hb1⟩ := weights_binds hw0
  obtain ⟨a1, l, c1, e1, hc1, hln, hI⟩ := ints_open hf1
  have e2 : [Value.slice wa1 wn1 wc1] = [Value.slice a1 l.length c1] := e1
  simp only [List.cons.injEq, Value.slice.injEq, and_true] at e2
  obtain ⟨rfl, rfl, rfl⟩ := e2
  have hb2 := weights_ints hw1
  have hx' : lenD d0 = wn0 := hx
  have hln' : lenD d1 = l.length := hln
  refine (once_walk W wa0 wn0 wc0 vs bl wa1 l.length wc1 l hbl (by omega) (fun p hp => ?_) hR hM rfl hc1 (by omega) hI).mono fun e W' ⟨he, bel⟩ => ?_
  · obtain ⟨elems, spare, y0, y1, g1, g2, g3⟩ := hin p hp
    rw [← g3]
    exact hb1 elems spare y0 y1 g1 g2
  subst he
  exact ⟨_, rfl, _, _, _, [], _, [], hW', trodAll_mk1 (shut_bool Try.underlying4 _), trodAll_mk2 (back 23 (.inl rfl) _ _ _ _ _ hk0 hl0 _ bel) (back 29 (.inr rfl) _ _ _ _ _ hk1 hl1 _ bel), rfl, bel.frame _, fun h => by cases h⟩

theorem once_holds : Rows.SubstOnceSaid :=
  OpenClaim.holds_of_wide 4 Try.f4 rfl rfl rfl rfl rfl rfl rfl ⟨rfl, rfl, rfl, rfl, rfl⟩ rfl rfl rfl rfl rfl (by kernel_rfl) Try.func4 (by kernel_rfl)
    (of_decide_eq_true (by kernel_rfl)) (by unfold Func.isWrapper; first | (rw [if_pos (by decide +kernel)]; kernel_rfl) | (rw [if_neg (by decide +kernel)]; exact ⟨rfl, rfl⟩))
    (fun os started H enc _ => once_lifted os started H enc)
#print axioms once_holds
end Go.Proofs.Yteiaobeklahifaa
