/- For every list of binds, every expression, every variable and every list of variables that are together of bulk at most 1048576 the law that lists handed in and answered are memory of their own (SubstFresh) returns true and leaves its arguments as they were. -/
import Derived.Test.YteiaobeklahifaaSmall
import Derived.Test.YteiaobeklahifaaFreshWalk
import Derived.ProofKit
import Derived.OpenShut
import Derived.JoinedCond
import Derived.Deep.DeepHandedRow
import Derived.SliceStrings
import Derived.ChangeSlices
import Derived.Carry
import Derived.Deep.Strs
namespace Go.Proofs.Yteiaobeklahifaa
open Go.ChangeShapes Go.WideShapes Go.ChangeAt Go.RowKit Go.Deep

theorem own : ownKnob Try.prog.godebug = none := by kernel_rfl
theorem laidOut : laidOutB Try.prog = true := by kernel_rfl
theorem cells55 : Try.prog.cellsOf 55 = 4 := by kernel_rfl
theorem cells23 : Try.prog.cellsOf 23 = 1 := by kernel_rfl
theorem arr4 {cs : Array Value} (h : cs.size = 4) : ∃ a b c d, cs = #[a, b, c, d] := by
  obtain ⟨l⟩ := cs
  match l, h with
  | [a, b, c, d], _ => exact ⟨a, b, c, d, rfl⟩
/-- A case that came in, part by part. -/
theorem case_open {H : Type} {enc : TypeId × Value → H} {W : World} {fuel : Nat} {c0 c1 c2 c3 : Value} {x : DataW H × List MemPlace}
    (h : DataW.trod enc Try.prog W 0 (fun _ => true) true fuel 55 [c0, c1, c2, c3] = some x) :
    ∃ (y0 y1 y2 y3 : DataW H × List MemPlace) (n : Nat), x.1 = .agg [y0.1, y1.1, y2.1, y3.1] ∧ DataW.trod enc Try.prog W 0 (fun _ => true) true n 23 [c0] = some y0 ∧ DataW.trod enc Try.prog W 0 (fun _ => true) true n 29 [c1] = some y1 ∧ DataW.trod enc Try.prog W 0 (fun _ => true) true n 3 [c2] = some y2 ∧ DataW.trod enc Try.prog W 0 (fun _ => true) true n 29 [c3] = some y3 := by
  obtain ⟨xs, n, _, hx, _, hlen, hf⟩ := DataW.trod_struct Try.underlying55 h
  match xs, hlen with
  | [y0, y1, y2, y3], _ =>
    have h0 : DataW.trod enc Try.prog W 0 (fun _ => true) true n 23 (List.take (Try.prog.cellsOf 23) (List.drop 0 [c0, c1, c2, c3])) = some y0 := hf 0 _ rfl
    have h1 : DataW.trod enc Try.prog W 0 (fun _ => true) true n 29 (List.take (Try.prog.cellsOf 29) (List.drop 1 [c0, c1, c2, c3])) = some y1 := hf 1 _ rfl
    have h2 : DataW.trod enc Try.prog W 0 (fun _ => true) true n 3 (List.take (Try.prog.cellsOf 3) (List.drop 2 [c0, c1, c2, c3])) = some y2 := hf 2 _ rfl
    have h3 : DataW.trod enc Try.prog W 0 (fun _ => true) true n 29 (List.take (Try.prog.cellsOf 29) (List.drop 3 [c0, c1, c2, c3])) = some y3 := hf 3 _ rfl
    rw [cells23] at h0
    rw [cells29] at h1 h3
    rw [cells3] at h2
    exact ⟨y0, y1, y2, y3, n, congrArg Prod.fst hx, h0, h1, h2, h3⟩

set_option maxRecDepth 100000 in
theorem fresh_lifted (os : Os) (started : os.Started) (H : Type) (enc : TypeId × Value → H) (F : Stop.Interp) :
    ReturnsInHanded {} Try.checked os 7 .any ((Rows.OpenSpec.upto Rows.substFreshSpec).pre6 enc Try.prog Try.f7 Rows.substFreshUptoRow.domain false)
      (((Rows.OpenSpec.upto Rows.substFreshSpec).at F).post enc Try.prog Try.f7 false true false false) := by
  refine returnsInHanded_of_cond (C := Try.checked) (s := Rows.OpenSpec.upto Rows.substFreshSpec) (k := Rows.uptoSmall) rfl own started (by kernel_rfl) Try.func7
    (OpenSpec.witness (enc := enc) (C := Try.checked) (s := Rows.OpenSpec.upto Rows.substFreshSpec) (k := Rows.uptoSmall) rfl false ⟨#[], #[.agg #[.slice none 0 0, .slice none 0 0, .int .i64 0, .slice none 0 0]], []⟩ 8 (by kernel_rfl) (by kernel_rfl) (by kernel_rfl)
      (x := ([.agg [.nil, .nil, .lit (.int .i64 0), .nil]], [], [])) (by kernel_rfl) rfl (by kernel_rfl)) ?_
  intro W base args ds gs before hval0 hW _ hk _
  have hval : ∀ (j : Nat) t v, Try.f7.params[j]? = some t → args[j]? = some v → Value.okWide Try.prog W .any base t v := hval0
  have hW' := hW
  obtain ⟨p, q, hA0, hV, rfl, hfz, hnd⟩ := hW
  have hA : DataW.TrodAll enc Try.prog W 0 (fun _ => true) true Try.f7.params.toList args.toList ds p := hA0
  rw [Try.params7] at hA hval
  obtain ⟨v0, d0, rfl, rfl, h0⟩ := trodAll_one hA
  obtain ⟨rfl, rfl⟩ := trodVars_none hV
  obtain ⟨cs, rfl, hcs⟩ := okWide_struct Try.underlying55 (hval 0 55 v0 rfl rfl)
  obtain ⟨c0, c1, c2, c3, rfl⟩ := arr4 (hcs.trans cells55)
  have hk0 := h0
  obtain ⟨f0, hf0⟩ := h0
  simp only [List.append_nil] at hW' hk
  have hbulk : Rows.uptoBulkAll [d0] ≤ 1048576 := of_decide_eq_true hk
  have hl0 : ∀ x ∈ p, x.block < W.heap.size := fun x hx => by simpa using hW'.lt x (by simp [hx])
  have hf0' : DataW.trod enc Try.prog W 0 (fun _ => true) true f0 55 [c0, c1, c2, c3] = some (d0, p) := hf0
  obtain ⟨y0, y1, y2, y3, fu, hd, t0, t1, t2, t3⟩ := case_open hf0'
  have hd' : d0 = .agg [y0.1, y1.1, y2.1, y3.1] := hd
  rw [hd'] at hbulk
  simp only [Rows.uptoBulkAll, Rows.uptoBulk] at hbulk
  obtain ⟨a, n, c, rfl, hn, _, vs0, bl, e0, r0, m0, g0⟩ := binds_small (B := 1048576) t0 (by omega)
  obtain ⟨ae, l, ce, rfl, hln, hce, hI⟩ := ints_small (B := 1048576) t1 (by omega)
  obtain ⟨V, e2, _, _⟩ := DataW.trod_int Try.underlying3 t2
  obtain ⟨ax, xl, cx, rfl, hlx, _, hX⟩ := ints_small (B := 1048576) t3 (by omega)
  simp only [List.cons.injEq, and_true] at e2
  subst e2
  refine (fresh_walk W a n c vs0 bl ae l.length ce l V ax xl.length cx xl e0 hn g0 r0 m0 rfl hce hln hI rfl hlx hX).mono fun e W' ⟨he, bel⟩ => ?_
  subst he
  exact ⟨_, rfl, _, _, _, [], _, [], hW', trodAll_mk1 (shut_bool Try.underlying4 _), trodAll_mk1 (Below.trod laidOut (by kernel_rfl) (of_decide_eq_true (by kernel_rfl)) hk0 bel hl0), rfl, bel.frame _, fun h => by cases h⟩

theorem fresh_holds : Rows.SubstFreshUptoSaid :=
  OpenClaim.holds_of_cond 7 Try.f7 rfl rfl rfl rfl rfl rfl rfl ⟨rfl, rfl, rfl, rfl, rfl⟩ rfl rfl rfl rfl rfl (by kernel_rfl) Try.func7 (by kernel_rfl)
    (of_decide_eq_true (by kernel_rfl)) (by unfold Func.isWrapper; first | (rw [if_pos (by decide +kernel)]; kernel_rfl) | (rw [if_neg (by decide +kernel)]; exact ⟨rfl, rfl⟩))
    (fun os started H enc _ F => fresh_lifted os started H enc F)
#print axioms fresh_holds
end Go.Proofs.Yteiaobeklahifaa
