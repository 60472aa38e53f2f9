/- For every list of pairs and every two lists of binds that are together of bulk at most 1048576 the law that carries the pairs through two substitutions one behind the other, and through both at once (DistThen), returns true and leaves its arguments as they were. -/
import Derived.Test.YtjaccgkeldabfaaGreatRows
import Derived.Test.YtjaccgkeldabfaaGreatThenWalk
import Derived.Test.YtjaccgkeldabfaaGreatThenIn
import Derived.ProofKit
import Derived.OpenShut
import Derived.JoinedCond
import Derived.Deep.DeepHandedRow
import Derived.SliceStrings
import Derived.ChangeSlices
import Derived.Carry
namespace Go.Proofs.YtjaccgkeldabfaaGreat
open Go.ChangeShapes Go.WideShapes Go.ChangeAt Go.RowKit Go.Deep

theorem own : ownKnob Tryz.prog.godebug = none := by kernel_rfl
theorem mem_bound : ∀ {bl : List (Int × List Int)} {q : Int × List Int}, q ∈ bl → q.2.length ≤ (bl.flatMap (·.2)).length
  | [], _, h => by simp at h
  | a :: bl, q, h => by
    rw [List.flatMap_cons, List.length_append]
    rcases List.mem_cons.1 h with rfl | h
    · omega
    · have := mem_bound h
      omega
set_option maxRecDepth 100000 in
theorem then_lifted (os : Os) (started : os.Started) (H : Type) (enc : TypeId × Value → H) (F : Stop.Interp) :
    ReturnsInHanded {} Tryz.checked os 4 .any ((Rows.OpenSpec.upto Rows.distThenSpec).pre6 enc Tryz.prog Tryz.f4 Rows.distThenUptoRow.domain false)
      (((Rows.OpenSpec.upto Rows.distThenSpec).at F).post enc Tryz.prog Tryz.f4 false true false false) := by
  refine returnsInHanded_of_cond (C := Tryz.checked) (s := Rows.OpenSpec.upto Rows.distThenSpec) (k := Rows.uptoSmall) rfl own started (by kernel_rfl) Tryz.func4
    (OpenSpec.witness (enc := enc) (C := Tryz.checked) (s := Rows.OpenSpec.upto Rows.distThenSpec) (k := Rows.uptoSmall) rfl false ⟨#[], #[.slice none 0 0, .slice none 0 0, .slice none 0 0], []⟩ 8 (by kernel_rfl) (by kernel_rfl) (by kernel_rfl)
      (x := ([.nil, .nil, .nil], [], [])) (by kernel_rfl) rfl (by kernel_rfl)) ?_
  intro W base args ds gs before hval0 hW _ hk _
  have hval : ∀ (j : Nat) t v, Tryz.f4.params[j]? = some t → args[j]? = some v → Value.okWide Tryz.prog W .any base t v := hval0
  have hW' := hW
  obtain ⟨p, q, hA0, hV, rfl, hfz, hnd⟩ := hW
  have hA : DataW.TrodAll enc Tryz.prog W 0 (fun _ => true) true Tryz.f4.params.toList args.toList ds p := hA0
  rw [Tryz.params4] at hA hval
  obtain ⟨v0, v1, v2, d0, d1, d2, p0, p1, p2, rfl, rfl, rfl, h0, h1, h2⟩ := trodAll_three hA
  obtain ⟨rfl, rfl⟩ := trodVars_none hV
  obtain ⟨wa0, wn0, wc0, rfl⟩ := okWide_slice Tryz.underlying22 (hval 0 22 v0 rfl rfl)
  obtain ⟨wa1, wn1, wc1, rfl⟩ := okWide_slice Tryz.underlying23 (hval 1 23 v1 rfl rfl)
  obtain ⟨wa2, wn2, wc2, rfl⟩ := okWide_slice Tryz.underlying23 (hval 2 23 v2 rfl rfl)
  have hk0 := h0
  have hk1 := h1
  have hk2 := h2
  obtain ⟨f0, hf0⟩ := h0
  obtain ⟨f1, hf1⟩ := h1
  obtain ⟨f2, hf2⟩ := h2
  simp only [List.append_nil] at hW' hk
  have hbulk : Rows.uptoBulkAll [d0, d1, d2] ≤ 1048576 := of_decide_eq_true hk
  simp only [Rows.uptoBulkAll] at hbulk
  have hl0 : ∀ x ∈ p0, x.block < W.heap.size := fun x hx => by simpa using hW'.lt x (by simp [hx])
  have hl1 : ∀ x ∈ p1, x.block < W.heap.size := fun x hx => by simpa using hW'.lt x (by simp [hx])
  have hl2 : ∀ x ∈ p2, x.block < W.heap.size := fun x hx => by simpa using hW'.lt x (by simp [hx])
  have back : ∀ (a : Option Addr) (n c : Nat) (d : DataW H) (p : List MemPlace), DataW.Trod enc Tryz.prog W 0 (fun _ => true) true 23 (.slice a n c) d p → (∀ x ∈ p, x.block < W.heap.size) → ∀ (W' : World), Below W.heap.size W W' → DataW.Trod enc Tryz.prog W' 0 (fun b => decide (b < W.heap.size)) true 23 (.slice a n c) d p :=
    fun a n c d p hk hl W' hn => Below.trod laidOut (by kernel_rfl) (of_decide_eq_true (by kernel_rfl)) hk hn hl
  have t0 : DataW.trod enc Tryz.prog W 0 (fun _ => true) true f0 22 [.slice wa0 wn0 wc0] = some (d0, p0) := hf0
  have t1 : DataW.trod enc Tryz.prog W 0 (fun _ => true) true f1 23 [.slice wa1 wn1 wc1] = some (d1, p1) := hf1
  have t2 : DataW.trod enc Tryz.prog W 0 (fun _ => true) true f2 23 [.slice wa2 wn2 wc2] = some (d2, p2) := hf2
  obtain ⟨aL, l, cL, eL, gl, wl, hL⟩ := pairs_full t0
  simp only [Value.slice.injEq] at eL
  obtain ⟨rfl, rfl, rfl⟩ := eL
  obtain ⟨vs1, b1, e1, r1, m1, w1, g1⟩ := binds_full t1
  obtain ⟨vs2, b2, e2, r2, m2, w2, g2⟩ := binds_full t2
  dsimp only at gl g1 g2
  have hbig1 : ∀ q ∈ b1, q.2.length ≤ 1048576 := fun q hq => Nat.le_trans (mem_bound hq) (by omega)
  have hbig2 : ∀ q ∈ b2, q.2.length ≤ 1048576 := fun q hq => Nat.le_trans (mem_bound hq) (by omega)
  have hG : Given l b1 b2 (l.map (·.1) ++ l.map (·.2) ++ b1.flatMap (·.2) ++ b2.flatMap (·.2)) := by
    refine ⟨wl, w1, w2, fun q hq => ?_, fun q hq x hx => ?_, fun q hq x hx => ?_, hbig1, hbig2, ?_⟩
    · have m1 : q.1 ∈ l.map (·.1) := List.mem_map.2 ⟨q, hq, rfl⟩
      have m2 : q.2 ∈ l.map (·.2) := List.mem_map.2 ⟨q, hq, rfl⟩
      simp only [List.mem_append]
      exact ⟨.inl (.inl (.inl m1)), .inl (.inl (.inr m2))⟩
    · simp only [List.mem_append]
      exact .inl (.inr (List.mem_flatMap.2 ⟨q, hq, hx⟩))
    · simp only [List.mem_append]
      exact .inr (List.mem_flatMap.2 ⟨q, hq, hx⟩)
    · simp only [List.length_append, List.length_map]
      omega
  refine (then_walk W wa0 l.length wc0 l wa1 wn1 wc1 vs1 b1 wa2 wn2 wc2 vs2 b2 _ rfl (by omega) e1 (by omega) e2 (by omega) hL r1 m1 r2 m2 hG).mono fun e W' ⟨he, bel⟩ => ?_
  subst he
  exact ⟨_, rfl, _, _, _, [], _, [], hW', trodAll_mk1 (shut_bool Tryz.underlying4 _), trodAll_mk3 (Below.trod laidOut (by kernel_rfl) (of_decide_eq_true (by kernel_rfl)) hk0 bel hl0) (back _ _ _ _ _ hk1 hl1 _ bel) (back _ _ _ _ _ hk2 hl2 _ bel), rfl, bel.frame _, fun h => by cases h⟩

theorem then_holds : Rows.DistThenUptoSaid :=
  OpenClaim.holds_of_cond 4 Tryz.f4 rfl rfl rfl rfl rfl rfl rfl ⟨rfl, rfl, rfl, rfl, rfl⟩ rfl rfl rfl rfl rfl (by kernel_rfl) Tryz.func4 (by kernel_rfl)
    (of_decide_eq_true (by kernel_rfl)) (by unfold Func.isWrapper; first | (rw [if_pos (by decide +kernel)]; kernel_rfl) | (rw [if_neg (by decide +kernel)]; exact ⟨rfl, rfl⟩))
    (fun os started H enc _ F => then_lifted os started H enc F)
#print axioms then_holds
end Go.Proofs.YtjaccgkeldabfaaGreat
