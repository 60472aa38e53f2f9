/- For every list of binds, every expression, every variable and every list of variables the law that holds a substitution against the document's (SubstAsks) returns true and leaves its arguments as they were. -/
import Derived.Test.YteiaobeklahifaaRows
import Derived.Test.YteiaobeklahifaaAsksWalk
import Derived.Test.YteiaobeklahifaaIn
import Derived.ProofKit
import Derived.SizedLaws
import Derived.Deep.DeepHandedRow
import Derived.SliceStrings
import Derived.ChangeSlices
import Derived.Carry
namespace Go.Proofs.Yteiaobeklahifaa
open Go.ChangeShapes Go.WideShapes Go.ChangeAt Go.RowKit Go.Deep

theorem own : ownKnob Try.prog.godebug = none := by kernel_rfl
theorem laidOut : laidOutB Try.prog = true := by kernel_rfl
theorem cells55 : Try.prog.cellsOf 55 = 4 := by kernel_rfl
theorem cells23 : Try.prog.cellsOf 23 = 1 := by kernel_rfl
theorem arr4 {cs : Array Value} (h : cs.size = 4) : ∃ a b c d, cs = #[a, b, c, d] := by
  obtain ⟨l⟩ := cs
  match l, h with
  | [a, b, c, d], _ => exact ⟨a, b, c, d, rfl⟩
/-- A case that came in, part by part. -/
theorem case_open {H : Type} {enc : TypeId × Value → H} {W : World} {fuel : Nat} {c0 c1 c2 c3 : Value} {x : DataW H × List MemPlace}
    (h : DataW.trod enc Try.prog W 0 (fun _ => true) true fuel 55 [c0, c1, c2, c3] = some x) :
    ∃ (y0 y1 y2 y3 : DataW H × List MemPlace) (n : Nat), x.1 = .agg [y0.1, y1.1, y2.1, y3.1] ∧ DataW.trod enc Try.prog W 0 (fun _ => true) true n 23 [c0] = some y0 ∧ DataW.trod enc Try.prog W 0 (fun _ => true) true n 29 [c1] = some y1 ∧ DataW.trod enc Try.prog W 0 (fun _ => true) true n 3 [c2] = some y2 ∧ DataW.trod enc Try.prog W 0 (fun _ => true) true n 29 [c3] = some y3 := by
  obtain ⟨xs, n, _, hx, _, hlen, hf⟩ := DataW.trod_struct Try.underlying55 h
  match xs, hlen with
  | [y0, y1, y2, y3], _ =>
    have h0 : DataW.trod enc Try.prog W 0 (fun _ => true) true n 23 (List.take (Try.prog.cellsOf 23) (List.drop 0 [c0, c1, c2, c3])) = some y0 := hf 0 _ rfl
    have h1 : DataW.trod enc Try.prog W 0 (fun _ => true) true n 29 (List.take (Try.prog.cellsOf 29) (List.drop 1 [c0, c1, c2, c3])) = some y1 := hf 1 _ rfl
    have h2 : DataW.trod enc Try.prog W 0 (fun _ => true) true n 3 (List.take (Try.prog.cellsOf 3) (List.drop 2 [c0, c1, c2, c3])) = some y2 := hf 2 _ rfl
    have h3 : DataW.trod enc Try.prog W 0 (fun _ => true) true n 29 (List.take (Try.prog.cellsOf 29) (List.drop 3 [c0, c1, c2, c3])) = some y3 := hf 3 _ rfl
    rw [cells23] at h0
    rw [cells29] at h1 h3
    rw [cells3] at h2
    exact ⟨y0, y1, y2, y3, n, congrArg Prod.fst hx, h0, h1, h2, h3⟩
theorem weights_case {H : Type} {d0 d1 d2 d3 : DataW H} (h : ∀ n ∈ (DataW.agg [d0, d1, d2, d3]).weights Try.prog 55, n ≤ reachBytes) : (∀ n ∈ d0.weights Try.prog 23, n ≤ reachBytes) ∧ (∀ n ∈ d1.weights Try.prog 29, n ≤ reachBytes) ∧ ∀ n ∈ d3.weights Try.prog 29, n ≤ reachBytes := by
  simp only [DataW.weights, Try.underlying55, List.map_cons, DataW.weightsEach, List.mem_append] at h
  exact ⟨fun n hn => h n (.inl hn), fun n hn => h n (.inr (.inl hn)), fun n hn => h n (.inr (.inr (.inr (.inl hn))))⟩

set_option maxRecDepth 100000 in
theorem asks_lifted (os : Os) (started : os.Started) (H : Type) (enc : TypeId × Value → H) :
    ReturnsInHanded {} Try.checked os 8 .any (Rows.substAsksSpec.pre6 enc Try.prog Try.f8 [] false)
      (Rows.substAsksSpec.post enc Try.prog Try.f8 false true false false) := by
  refine returnsInHanded_of_change_sized (C := Try.checked) own started (by kernel_rfl) Try.func8
    (ChangeSpec.witness6 (enc := enc) (C := Try.checked) false ⟨#[], #[.agg #[.slice none 0 0, .slice none 0 0, .int .i64 0, .slice none 0 0]], []⟩ 8 (by kernel_rfl) (by kernel_rfl) (by kernel_rfl) (by kernel_rfl)) ?_
  intro W base args ds gs before hval0 hW _ hsz0 _
  have hval : ∀ (j : Nat) t v, Try.f8.params[j]? = some t → args[j]? = some v → Value.okWide Try.prog W .any base t v := hval0
  have hsz : (DataW.weightsEach Try.prog (Try.f8.params.toList ++ Rows.substAsksSpec.plain.varTypes Try.prog) (ds ++ gs)).all (· ≤ reachBytes) = true := hsz0
  have hW' := hW
  obtain ⟨p, q, hA0, hV, rfl, hfz, hnd⟩ := hW
  have hA : DataW.TrodAll enc Try.prog W 0 (fun _ => true) true Try.f8.params.toList args.toList ds p := hA0
  rw [Try.params8] at hA hval hsz
  obtain ⟨v0, d0, rfl, rfl, h0⟩ := trodAll_one hA
  obtain ⟨rfl, rfl⟩ := trodVars_none hV
  obtain ⟨cs, rfl, hcs⟩ := okWide_struct Try.underlying55 (hval 0 55 v0 rfl rfl)
  obtain ⟨c0, c1, c2, c3, rfl⟩ := arr4 (hcs.trans cells55)
  have hk0 := h0
  obtain ⟨f0, hf0⟩ := h0
  simp only [List.append_nil] at hW'
  have hl0 : ∀ x ∈ p, x.block < W.heap.size := fun x hx => by simpa using hW'.lt x (by simp [hx])
  have hf0' : DataW.trod enc Try.prog W 0 (fun _ => true) true f0 55 [c0, c1, c2, c3] = some (d0, p) := hf0
  obtain ⟨y0, y1, y2, y3, fu, hd, t0, t1, t2, t3⟩ := case_open hf0'
  have hd' : d0 = .agg [y0.1, y1.1, y2.1, y3.1] := hd
  subst hd'
  have hall := List.all_eq_true.1 hsz
  obtain ⟨w0, w1, w3⟩ := weights_case fun n hn => by
    have := hall n (DataW.weights_mem_each (j := 0) (t := 55) (d := .agg [y0.1, y1.1, y2.1, y3.1]) rfl rfl n hn)
    simpa using this
  have hv : ∃ (a0 : Option Addr) (len cap : Nat), c0 = .slice a0 len cap := by
    rcases open_slice Try.underlying23 t0 with ⟨hcs, hx⟩ | ⟨a, len', cap', m, n, D, Pl, hcs, _⟩
    · simp at hcs; exact ⟨_, _, _, hcs⟩
    · simp at hcs; exact ⟨_, _, _, hcs⟩
  obtain ⟨a, n, c, rfl⟩ := hv
  obtain ⟨_, vs, bl, hbl, hR, hM, hx, hin⟩ := binds_open t0
  obtain ⟨hb0, hb1⟩ := weights_binds w0
  obtain ⟨ae, l, ce, e1, _, hln, hI⟩ := ints_open t1
  obtain ⟨V, e2, _, _⟩ := DataW.trod_int Try.underlying3 t2
  obtain ⟨ax, xl, cx, e3, _, hlx, hX⟩ := ints_open t3
  simp only [List.cons.injEq, and_true] at e1 e2 e3
  subst e1 e2 e3
  have hb2 := weights_ints w1
  have hb3 := weights_ints w3
  refine (asks_walk W a n c vs bl ae l.length ce l V ax xl.length cx xl hbl (by omega) (fun p hp => ?_) hR hM rfl (by omega) hI rfl (by omega) hX).mono fun e W' ⟨he, bel⟩ => ?_
  · obtain ⟨elems, spare, z0, z1, g1, g2, g3⟩ := hin p hp
    rw [← g3]
    exact hb1 elems spare z0 z1 g1 g2
  subst he
  exact ⟨_, rfl, _, _, _, [], _, [], hW', trodAll_mk1 (shut_bool Try.underlying4 _), trodAll_mk1 (Below.trod laidOut (by kernel_rfl) (of_decide_eq_true (by kernel_rfl)) hk0 bel hl0), rfl, bel.frame _, fun h => by cases h⟩

theorem asks_holds : Rows.SubstAsksSaid :=
  OpenClaim.holds_of_wide 8 Try.f8 rfl rfl rfl rfl rfl rfl rfl ⟨rfl, rfl, rfl, rfl, rfl⟩ rfl rfl rfl rfl rfl (by kernel_rfl) Try.func8 (by kernel_rfl)
    (of_decide_eq_true (by kernel_rfl)) (by unfold Func.isWrapper; first | (rw [if_pos (by decide +kernel)]; kernel_rfl) | (rw [if_neg (by decide +kernel)]; exact ⟨rfl, rfl⟩))
    (fun os started H enc _ => asks_lifted os started H enc)
#print axioms asks_holds
end Go.Proofs.Yteiaobeklahifaa
