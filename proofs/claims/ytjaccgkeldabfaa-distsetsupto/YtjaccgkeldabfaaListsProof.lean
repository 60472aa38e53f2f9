/- For every two lists of pairs, every pair and every list of variables that are together of bulk at most 1048576 the law that holds All, Norm, Union, Has and Only against the document's (DistLists) returns true and leaves its argument as it was. -/
import Derived.Test.YtjaccgkeldabfaaRows
import Derived.Test.YtjaccgkeldabfaaListsWalk
import Derived.ProofKit
import Derived.OpenShut
import Derived.JoinedCond
import Derived.Deep.DeepHandedRow
import Derived.Deep.SlicePairs
import Derived.SliceStrings
import Derived.ChangeSlices
import Derived.Carry
namespace Go.Proofs.Ytjaccgkeldabfaa
open Go.ChangeShapes Go.WideShapes Go.ChangeAt Go.RowKit Go.Deep

theorem own : ownKnob Try.prog.godebug = none := by kernel_rfl
theorem cells27 : Try.prog.cellsOf 27 = 5 := by kernel_rfl
theorem cells22 : Try.prog.cellsOf 22 = 1 := by kernel_rfl
theorem cells25 : Try.prog.cellsOf 25 = 1 := by kernel_rfl
theorem arr5 {cs : Array Value} (h : cs.size = 5) : ∃ a b c d e, cs = #[a, b, c, d, e] := by
  obtain ⟨l⟩ := cs
  match l, h with
  | [a, b, c, d, e], _ => exact ⟨a, b, c, d, e, rfl⟩
theorem bulkAll_le {H : Type} (l : List (DataW H)) : l.length ≤ Rows.uptoBulkAll l := by
  induction l with
  | nil => simp [Rows.uptoBulkAll]
  | cons x r ih =>
    have : 1 ≤ Rows.uptoBulk x := by
      cases x with
      | lit l => cases l <;> simp [Rows.uptoBulk]
      | nil => simp [Rows.uptoBulk]
      | ptr d => simp [Rows.uptoBulk]
      | slice elems spare => simp [Rows.uptoBulk]
      | agg parts => simp [Rows.uptoBulk]
      | iface t d => simp [Rows.uptoBulk]
      | map entries => simp [Rows.uptoBulk]
      | held h => simp [Rows.uptoBulk]
    simp only [Rows.uptoBulkAll, List.length_cons]; omega
/-- A slice of numbers that came in, of bulk at most B. -/
theorem ints_small {H : Type} {enc : TypeId × Value → H} {W : World} {fuel : Nat} {c : Value} {x : DataW H × List MemPlace} {B : Nat}
    (h : DataW.trod enc Try.prog W 0 (fun _ => true) true fuel 25 [c] = some x) (hsz : Rows.uptoBulk x.1 ≤ B) :
    ∃ (a0 : Option Addr) (l : List Int) (cap : Nat), c = .slice a0 l.length cap ∧ l.length ≤ B ∧ IntsAt W a0 l := by
  rcases open_ints Try.underlying25 Try.underlying3 cells3 h with ⟨hcs, hx⟩ | ⟨a, len', cap', zs, hcs, _, hl, hm, hz, hx, hcell, hws⟩
  · simp at hcs
    subst hcs
    exact ⟨none, [], 0, rfl, by simp, fun i x hi => by simp at hi⟩
  · simp at hcs
    subst hcs
    simp only [if_true] at hz
    rw [hx] at hsz
    simp only [Rows.uptoBulk] at hsz
    have h2 := bulkAll_le (lits (H := H) .i64 (zs.take len'))
    simp only [lits, List.length_map, List.length_take] at h2
    simp only [lits] at hsz
    have hlen : (zs.take len').length = len' := by rw [List.length_take]; omega
    refine ⟨some a, zs.take len', cap', by rw [hlen], by omega, fun i x hi => ?_⟩
    obtain ⟨b, off, spot⟩ := a
    have hlt : i < len' := by
      have := (List.getElem?_eq_some_iff.1 hi).1
      rw [List.length_take] at this; omega
    have hspot : spot = none := by simpa [Addr.add] using World.cell?_spot (hcell 0 (by omega))
    subst hspot
    have hc := hcell i (by omega)
    rw [add_plain] at hc
    refine ⟨b, off, rfl, ?_⟩
    rw [hc]
    rw [List.getElem?_take, if_pos hlt] at hi
    rw [List.getD, hi]; rfl
/-- A slice of pairs that came in, of bulk at most B. -/
theorem pairs_small {H : Type} {enc : TypeId × Value → H} {W : World} {fuel : Nat} {c : Value} {x : DataW H × List MemPlace} {B : Nat}
    (h : DataW.trod enc Try.prog W 0 (fun _ => true) true fuel 22 [c] = some x) (hsz : Rows.uptoBulk x.1 ≤ B) :
    ∃ (a0 : Option Addr) (l : List Pr) (cap : Nat), c = .slice a0 l.length cap ∧ l.length ≤ B ∧ (∀ p ∈ l, wfP p) ∧ PairsAt W a0 l := by
  rcases open_slice_pairs Try.underlying22 Try.underlying24 cells24 rfl rfl cells3 cells3 h with ⟨hcs, hx⟩ | ⟨a, len, cap, m, n, V0, V1, D0, D1, P0, P1, hcs, _, hl, hm, hmm, hx, hel⟩
  · simp at hcs
    subst hcs
    exact ⟨none, [], 0, rfl, by simp, by simp, fun i p hi => by simp at hi⟩
  · simp at hcs
    subst hcs
    simp only [if_true] at hmm
    have key : ∀ i, i < len → ∃ q : Pr, W.cell? (a.add (i * 2)) = some (.int .i64 q.1) ∧ W.cell? (a.add (i * 2 + 1)) = some (.int .i64 q.2) ∧ wfP q := by
      intro i hi
      obtain ⟨h0, h1, t0, t1⟩ := hel i (by omega)
      obtain ⟨k0, e0, w0, _⟩ := DataW.trod_int Try.underlying3 t0
      obtain ⟨k1, e1, w1, _⟩ := DataW.trod_int Try.underlying3 t1
      simp at e0 e1
      rw [e0] at h0
      rw [e1] at h1
      exact ⟨(k0, k1), h0, h1, by assumption, by assumption⟩
    obtain ⟨F, hF⟩ := choose_lt key
    rw [hx] at hsz
    simp only [Rows.uptoBulk] at hsz
    have h2 := bulkAll_le ((List.range len).map fun i => DataW.agg [D0 i, D1 i])
    simp only [List.length_map, List.length_range] at h2
    refine ⟨some a, (List.range len).map F, cap, by simp, by simp; omega, fun p hp => ?_, fun i p hi => ?_⟩
    · obtain ⟨i, hi, rfl⟩ := List.mem_map.1 hp
      exact (hF i (List.mem_range.1 hi)).2.2
    · rw [List.getElem?_map] at hi
      obtain ⟨j, hj, rfl⟩ := Option.map_eq_some_iff.1 hi
      have hlt := (List.getElem?_eq_some_iff.1 hj).1
      rw [List.length_range] at hlt
      rw [List.getElem?_range hlt] at hj
      cases hj
      obtain ⟨h0, h1, _⟩ := hF i hlt
      obtain ⟨b, off, spot⟩ := a
      have hspot : spot = none := by
        have := World.cell?_spot (hF 0 (by omega)).1
        simpa [Addr.add] using this
      subst hspot
      rw [add_plain] at h0 h1
      exact ⟨b, off, rfl, h0, h1⟩
/-- What came in, part by part. -/
theorem case_open {H : Type} {enc : TypeId × Value → H} {W : World} {fuel : Nat} {c0 c1 c2 c3 c4 : Value} {x : DataW H × List MemPlace}
    (h : DataW.trod enc Try.prog W 0 (fun _ => true) true fuel 27 [c0, c1, c2, c3, c4] = some x) :
    ∃ (y0 y1 y2 y3 : DataW H × List MemPlace) (n : Nat), x.1 = .agg [y0.1, y1.1, y2.1, y3.1] ∧ DataW.trod enc Try.prog W 0 (fun _ => true) true n 22 [c0] = some y0 ∧ DataW.trod enc Try.prog W 0 (fun _ => true) true n 22 [c1] = some y1 ∧ DataW.trod enc Try.prog W 0 (fun _ => true) true n 24 [c2, c3] = some y2 ∧ DataW.trod enc Try.prog W 0 (fun _ => true) true n 25 [c4] = some y3 := by
  obtain ⟨xs, n, _, hx, _, hlen, hf⟩ := DataW.trod_struct Try.underlying27 h
  match xs, hlen with
  | [y0, y1, y2, y3], _ =>
    have h0 : DataW.trod enc Try.prog W 0 (fun _ => true) true n 22 (List.take (Try.prog.cellsOf 22) (List.drop 0 [c0, c1, c2, c3, c4])) = some y0 := hf 0 _ rfl
    have h1 : DataW.trod enc Try.prog W 0 (fun _ => true) true n 22 (List.take (Try.prog.cellsOf 22) (List.drop 1 [c0, c1, c2, c3, c4])) = some y1 := hf 1 _ rfl
    have h2 : DataW.trod enc Try.prog W 0 (fun _ => true) true n 24 (List.take (Try.prog.cellsOf 24) (List.drop 2 [c0, c1, c2, c3, c4])) = some y2 := hf 2 _ rfl
    have h3 : DataW.trod enc Try.prog W 0 (fun _ => true) true n 25 (List.take (Try.prog.cellsOf 25) (List.drop 4 [c0, c1, c2, c3, c4])) = some y3 := hf 3 _ rfl
    rw [cells22] at h0 h1
    rw [cells24] at h2
    rw [cells25] at h3
    exact ⟨y0, y1, y2, y3, n, congrArg Prod.fst hx, h0, h1, h2, h3⟩
theorem pair_open {H : Type} {enc : TypeId × Value → H} {W : World} {fuel : Nat} {c0 c1 : Value} {x : DataW H × List MemPlace}
    (h : DataW.trod enc Try.prog W 0 (fun _ => true) true fuel 24 [c0, c1] = some x) : ∃ p0 p1 : Int, c0 = .int .i64 p0 ∧ c1 = .int .i64 p1 := by
  obtain ⟨y0, y1, n2, hd, hlen, t0, t1⟩ := trod_struct2 Try.underlying24 h
  obtain ⟨k0, e0, _, _⟩ := DataW.trod_int Try.underlying3 t0
  obtain ⟨k1, e1, _, _⟩ := DataW.trod_int Try.underlying3 t1
  dsimp only at e0 e1
  rw [cells3] at e0 e1
  simp at e0 e1
  exact ⟨k0, k1, e0, e1⟩

set_option maxRecDepth 100000 in
theorem lists_lifted (os : Os) (started : os.Started) (H : Type) (enc : TypeId × Value → H) (F : Stop.Interp) :
    ReturnsInHanded {} Try.checked os 4 .any ((Rows.OpenSpec.upto Rows.distListsSpec).pre6 enc Try.prog Try.f4 Rows.distListsUptoRow.domain false)
      (((Rows.OpenSpec.upto Rows.distListsSpec).at F).post enc Try.prog Try.f4 false true false false) := by
  refine returnsInHanded_of_cond (C := Try.checked) (s := Rows.OpenSpec.upto Rows.distListsSpec) (k := Rows.uptoSmall) rfl own started (by kernel_rfl) Try.func4
    (OpenSpec.witness (enc := enc) (C := Try.checked) (s := Rows.OpenSpec.upto Rows.distListsSpec) (k := Rows.uptoSmall) rfl false ⟨#[], #[.agg #[.slice none 0 0, .slice none 0 0, .int .i64 0, .int .i64 0, .slice none 0 0]], []⟩ 8 (by kernel_rfl) (by kernel_rfl) (by kernel_rfl)
      (x := ([.agg [.nil, .nil, .agg [.lit (.int .i64 0), .lit (.int .i64 0)], .nil]], [], [])) (by kernel_rfl) rfl (by kernel_rfl)) ?_
  intro W base args ds gs before hval0 hW _ hk _
  have hval : ∀ (j : Nat) t v, Try.f4.params[j]? = some t → args[j]? = some v → Value.okWide Try.prog W .any base t v := hval0
  have hW' := hW
  obtain ⟨p, q, hA0, hV, rfl, hfz, hnd⟩ := hW
  have hA : DataW.TrodAll enc Try.prog W 0 (fun _ => true) true Try.f4.params.toList args.toList ds p := hA0
  rw [Try.params4] at hA hval
  obtain ⟨v0, d0, rfl, rfl, h0⟩ := trodAll_one hA
  obtain ⟨rfl, rfl⟩ := trodVars_none hV
  obtain ⟨cs, rfl, hcs⟩ := okWide_struct Try.underlying27 (hval 0 27 v0 rfl rfl)
  obtain ⟨c0, c1, c2, c3, c4, rfl⟩ := arr5 (hcs.trans cells27)
  have hk0 := h0
  obtain ⟨f0, hf0⟩ := h0
  simp only [List.append_nil] at hW' hk
  have hbulk : Rows.uptoBulkAll [d0] ≤ 1048576 := of_decide_eq_true hk
  have hl0 : ∀ x ∈ p, x.block < W.heap.size := fun x hx => by simpa using hW'.lt x (by simp [hx])
  have hf0' : DataW.trod enc Try.prog W 0 (fun _ => true) true f0 27 [c0, c1, c2, c3, c4] = some (d0, p) := hf0
  obtain ⟨y0, y1, y2, y3, fu, hd, t0, t1, t2, t3⟩ := case_open hf0'
  have hd' : d0 = .agg [y0.1, y1.1, y2.1, y3.1] := hd
  subst hd'
  simp only [Rows.uptoBulkAll, Rows.uptoBulk] at hbulk
  obtain ⟨aA, lA, cA, rfl, hnA, wA, iA⟩ := pairs_small (B := 1048576) t0 (by omega)
  obtain ⟨aB, lB, cB, rfl, hnB, wB, iB⟩ := pairs_small (B := 1048576) t1 (by omega)
  obtain ⟨p0, p1, rfl, rfl⟩ := pair_open t2
  obtain ⟨aV, vl, cV, rfl, hnV, iV⟩ := ints_small (B := 1048576) t3 (by omega)
  refine (lists_walk W aA aB aV cA cB cV _ _ _ lA lB vl p0 p1 rfl rfl rfl hnA hnB hnV wA wB iA iB iV).mono fun e W' ⟨he, bel⟩ => ?_
  subst he
  exact ⟨_, rfl, _, _, _, [], _, [], hW', trodAll_mk1 (shut_bool Try.underlying4 _), trodAll_mk1 (Below.trod laidOut (by kernel_rfl) (of_decide_eq_true (by kernel_rfl)) hk0 bel hl0), rfl, bel.frame _, fun h => by cases h⟩

theorem lists_holds : Rows.DistListsUptoSaid :=
  OpenClaim.holds_of_cond 4 Try.f4 rfl rfl rfl rfl rfl rfl rfl ⟨rfl, rfl, rfl, rfl, rfl⟩ rfl rfl rfl rfl rfl (by kernel_rfl) Try.func4 (by kernel_rfl)
    (of_decide_eq_true (by kernel_rfl)) (by unfold Func.isWrapper; first | (rw [if_pos (by decide +kernel)]; kernel_rfl) | (rw [if_neg (by decide +kernel)]; exact ⟨rfl, rfl⟩))
    (fun os started H enc _ F => lists_lifted os started H enc F)
#print axioms lists_holds
end Go.Proofs.Ytjaccgkeldabfaa
