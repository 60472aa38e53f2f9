/- For every two lists of pairs, every pair and every list of variables that are together of bulk at most 1048576 the law that asks All, Norm, Union, Has and Only outright (DistSets) returns true and leaves its argument as it was. -/
import Derived.Test.YtjaccgkeldabfaaSetsWalk
import Derived.Test.YtjaccgkeldabfaaListsProof
namespace Go.Proofs.Ytjaccgkeldabfaa
open Go.ChangeShapes Go.WideShapes Go.ChangeAt Go.RowKit Go.Deep

/-- A slice of numbers that came in, of bulk at most B. -/
theorem ints_smallW {H : Type} {enc : TypeId × Value → H} {W : World} {fuel : Nat} {c : Value} {x : DataW H × List MemPlace} {B : Nat}
    (h : DataW.trod enc Try.prog W 0 (fun _ => true) true fuel 25 [c] = some x) (hsz : Rows.uptoBulk x.1 ≤ B) :
    ∃ (a0 : Option Addr) (l : List Int) (cap : Nat), c = .slice a0 l.length cap ∧ l.length ≤ B ∧ l.length ≤ cap ∧ (∀ x ∈ l, wfI x) ∧ IntsAt W a0 l := by
  rcases open_ints Try.underlying25 Try.underlying3 cells3 h with ⟨hcs, hx⟩ | ⟨a, len', cap', zs, hcs, _, hl, hm, hz, hx, hcell, hws⟩
  · simp at hcs
    subst hcs
    exact ⟨none, [], 0, rfl, by simp, by simp, by simp, fun i x hi => by simp at hi⟩
  · simp at hcs
    subst hcs
    simp only [if_true] at hz
    rw [hx] at hsz
    simp only [Rows.uptoBulk] at hsz
    have h2 := bulkAll_le (lits (H := H) .i64 (zs.take len'))
    simp only [lits, List.length_map, List.length_take] at h2
    simp only [lits] at hsz
    have hlen : (zs.take len').length = len' := by rw [List.length_take]; omega
    refine ⟨some a, zs.take len', cap', by rw [hlen], by omega, by rw [hlen]; exact hl, fun x hx => hws x (List.mem_of_mem_take hx), fun i x hi => ?_⟩
    obtain ⟨b, off, spot⟩ := a
    have hlt : i < len' := by
      have := (List.getElem?_eq_some_iff.1 hi).1
      rw [List.length_take] at this; omega
    have hspot : spot = none := by simpa [Addr.add] using World.cell?_spot (hcell 0 (by omega))
    subst hspot
    have hc := hcell i (by omega)
    rw [add_plain] at hc
    refine ⟨b, off, rfl, ?_⟩
    rw [hc]
    rw [List.getElem?_take, if_pos hlt] at hi
    rw [List.getD, hi]; rfl
set_option maxRecDepth 100000 in
theorem sets_lifted (os : Os) (started : os.Started) (H : Type) (enc : TypeId × Value → H) (F : Stop.Interp) :
    ReturnsInHanded {} Try.checked os 3 .any ((Rows.OpenSpec.upto Rows.distSetsSpec).pre6 enc Try.prog Try.f3 Rows.distSetsUptoRow.domain false)
      (((Rows.OpenSpec.upto Rows.distSetsSpec).at F).post enc Try.prog Try.f3 false true false false) := by
  refine returnsInHanded_of_cond (C := Try.checked) (s := Rows.OpenSpec.upto Rows.distSetsSpec) (k := Rows.uptoSmall) rfl own started (by kernel_rfl) Try.func3
    (OpenSpec.witness (enc := enc) (C := Try.checked) (s := Rows.OpenSpec.upto Rows.distSetsSpec) (k := Rows.uptoSmall) rfl false ⟨#[], #[.agg #[.slice none 0 0, .slice none 0 0, .int .i64 0, .int .i64 0, .slice none 0 0]], []⟩ 8 (by kernel_rfl) (by kernel_rfl) (by kernel_rfl)
      (x := ([.agg [.nil, .nil, .agg [.lit (.int .i64 0), .lit (.int .i64 0)], .nil]], [], [])) (by kernel_rfl) rfl (by kernel_rfl)) ?_
  intro W base args ds gs before hval0 hW _ hk _
  have hval : ∀ (j : Nat) t v, Try.f3.params[j]? = some t → args[j]? = some v → Value.okWide Try.prog W .any base t v := hval0
  have hW' := hW
  obtain ⟨p, q, hA0, hV, rfl, hfz, hnd⟩ := hW
  have hA : DataW.TrodAll enc Try.prog W 0 (fun _ => true) true Try.f3.params.toList args.toList ds p := hA0
  rw [Try.params3] at hA hval
  obtain ⟨v0, d0, rfl, rfl, h0⟩ := trodAll_one hA
  obtain ⟨rfl, rfl⟩ := trodVars_none hV
  obtain ⟨cs, rfl, hcs⟩ := okWide_struct Try.underlying27 (hval 0 27 v0 rfl rfl)
  obtain ⟨c0, c1, c2, c3, c4, rfl⟩ := arr5 (hcs.trans cells27)
  have hk0 := h0
  obtain ⟨f0, hf0⟩ := h0
  simp only [List.append_nil] at hW' hk
  have hbulk : Rows.uptoBulkAll [d0] ≤ 1048576 := of_decide_eq_true hk
  have hl0 : ∀ x ∈ p, x.block < W.heap.size := fun x hx => by simpa using hW'.lt x (by simp [hx])
  have hf0' : DataW.trod enc Try.prog W 0 (fun _ => true) true f0 27 [c0, c1, c2, c3, c4] = some (d0, p) := hf0
  obtain ⟨y0, y1, y2, y3, fu, hd, t0, t1, t2, t3⟩ := case_open hf0'
  have hd' : d0 = .agg [y0.1, y1.1, y2.1, y3.1] := hd
  subst hd'
  simp only [Rows.uptoBulkAll, Rows.uptoBulk] at hbulk
  obtain ⟨aA, lA, cA, rfl, hnA, wA, iA⟩ := pairs_small (B := 1048576) t0 (by omega)
  obtain ⟨aB, lB, cB, rfl, hnB, wB, iB⟩ := pairs_small (B := 1048576) t1 (by omega)
  obtain ⟨p0, p1, rfl, rfl⟩ := pair_open t2
  obtain ⟨aV, vl, cV, rfl, hnV, hcV, wV, iV⟩ := ints_smallW (B := 1048576) t3 (by omega)
  refine (sets_walk W aA aB aV cA cB cV _ _ _ lA lB vl p0 p1 rfl rfl rfl hnA hnB hnV hcV wA wB wV iA iB iV).mono fun e W' ⟨he, bel⟩ => ?_
  subst he
  exact ⟨_, rfl, _, _, _, [], _, [], hW', trodAll_mk1 (shut_bool Try.underlying4 _), trodAll_mk1 (Below.trod laidOut (by kernel_rfl) (of_decide_eq_true (by kernel_rfl)) hk0 bel hl0), rfl, bel.frame _, fun h => by cases h⟩

theorem sets_holds : Rows.DistSetsUptoSaid :=
  OpenClaim.holds_of_cond 3 Try.f3 rfl rfl rfl rfl rfl rfl rfl ⟨rfl, rfl, rfl, rfl, rfl⟩ rfl rfl rfl rfl rfl (by kernel_rfl) Try.func3 (by kernel_rfl)
    (of_decide_eq_true (by kernel_rfl)) (by unfold Func.isWrapper; first | (rw [if_pos (by decide +kernel)]; kernel_rfl) | (rw [if_neg (by decide +kernel)]; exact ⟨rfl, rfl⟩))
    (fun os started H enc _ F => sets_lifted os started H enc F)
#print axioms sets_holds
end Go.Proofs.Ytjaccgkeldabfaa
