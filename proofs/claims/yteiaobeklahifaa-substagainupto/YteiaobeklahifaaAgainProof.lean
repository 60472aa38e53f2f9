/- For every two lists of binds and every expression that are together of bulk at most 1048576 the law on one substitution behind another (SubstAgain) returns true and leaves its arguments as they were. -/
import Derived.Test.YteiaobeklahifaaSmall
import Derived.Test.YteiaobeklahifaaAgainWalk
import Derived.ProofKit
import Derived.OpenShut
import Derived.JoinedCond
import Derived.Deep.DeepHandedRow
import Derived.SliceStrings
import Derived.ChangeSlices
import Derived.Carry
import Derived.Deep.Strs
namespace Go.Proofs.Yteiaobeklahifaa
open Go.ChangeShapes Go.WideShapes Go.ChangeAt Go.RowKit Go.Deep

theorem own : ownKnob Try.prog.godebug = none := by kernel_rfl
theorem laidOut : laidOutB Try.prog = true := by kernel_rfl
theorem cells44 : Try.prog.cellsOf 44 = 3 := by kernel_rfl
theorem cells23 : Try.prog.cellsOf 23 = 1 := by kernel_rfl

set_option maxRecDepth 100000 in
theorem again_lifted (os : Os) (started : os.Started) (H : Type) (enc : TypeId × Value → H) (F : Stop.Interp) :
    ReturnsInHanded {} Try.checked os 5 .any ((Rows.OpenSpec.upto Rows.substAgainSpec).pre6 enc Try.prog Try.f5 Rows.substAgainUptoRow.domain false)
      (((Rows.OpenSpec.upto Rows.substAgainSpec).at F).post enc Try.prog Try.f5 false true false false) := by
  refine returnsInHanded_of_cond (C := Try.checked) (s := Rows.OpenSpec.upto Rows.substAgainSpec) (k := Rows.uptoSmall) rfl own started (by kernel_rfl) Try.func5
    (OpenSpec.witness (enc := enc) (C := Try.checked) (s := Rows.OpenSpec.upto Rows.substAgainSpec) (k := Rows.uptoSmall) rfl false ⟨#[], #[.agg #[.slice none 0 0, .slice none 0 0, .slice none 0 0]], []⟩ 8 (by kernel_rfl) (by kernel_rfl) (by kernel_rfl)
      (x := ([.agg [.nil, .nil, .nil]], [], [])) (by kernel_rfl) rfl (by kernel_rfl)) ?_
  intro W base args ds gs before hval0 hW _ hk _
  have hval : ∀ (j : Nat) t v, Try.f5.params[j]? = some t → args[j]? = some v → Value.okWide Try.prog W .any base t v := hval0
  have hW' := hW
  obtain ⟨p, q, hA0, hV, rfl, hfz, hnd⟩ := hW
  have hA : DataW.TrodAll enc Try.prog W 0 (fun _ => true) true Try.f5.params.toList args.toList ds p := hA0
  rw [Try.params5] at hA hval
  obtain ⟨v0, d0, rfl, rfl, h0⟩ := trodAll_one hA
  obtain ⟨rfl, rfl⟩ := trodVars_none hV
  obtain ⟨cs, rfl, hcs⟩ := okWide_struct Try.underlying44 (hval 0 44 v0 rfl rfl)
  obtain ⟨c0, c1, c2, rfl⟩ := arr3 (hcs.trans cells44)
  have hk0 := h0
  obtain ⟨f0, hf0⟩ := h0
  simp only [List.append_nil] at hW' hk
  have hbulk : Rows.uptoBulkAll [d0] ≤ 1048576 := of_decide_eq_true hk
  have hl0 : ∀ x ∈ p, x.block < W.heap.size := fun x hx => by simpa using hW'.lt x (by simp [hx])
  obtain ⟨y0, y1, y2, fu, hx, _, t0, t1, t2⟩ := trod_struct3 Try.underlying44 hf0
  have hd0 : d0 = .agg [y0.1, y1.1, y2.1] := congrArg Prod.fst hx
  rw [hd0] at hbulk
  simp only [Rows.uptoBulkAll, Rows.uptoBulk] at hbulk
  dsimp only at t0 t1 t2
  rw [cells23] at t0 t1
  rw [cells29] at t2
  have t0' : DataW.trod enc Try.prog W 0 (fun _ => true) true fu 23 [c0] = some y0 := t0
  have t1' : DataW.trod enc Try.prog W 0 (fun _ => true) true fu 23 [c1] = some y1 := t1
  have t2' : DataW.trod enc Try.prog W 0 (fun _ => true) true fu 29 [c2] = some y2 := t2
  obtain ⟨a, n, c, rfl, hn, _, vs0, bl, e0, r0, m0, g0⟩ := binds_small (B := 1048576) t0' (by omega)
  obtain ⟨a', n', c', rfl, hn', _, vs1, bt, e1, r1, m1, g1⟩ := binds_small (B := 1048576) t1' (by omega)
  obtain ⟨ae, l, ce, rfl, hln, hce, hI⟩ := ints_small (B := 1048576) t2' (by omega)
  refine (again_walk W a n c vs0 bl a' n' c' vs1 bt ae l.length ce l e0 e1 (by omega) (fun p hp => by have := g0 p hp; omega) (fun p hp => by have := g1 p hp; omega) r0 m0 r1 m1 rfl hce (by omega) hI).mono fun e W' ⟨he, bel⟩ => ?_
  subst he
  exact ⟨_, rfl, _, _, _, [], _, [], hW', trodAll_mk1 (shut_bool Try.underlying4 _), trodAll_mk1 (Below.trod laidOut (by kernel_rfl) (of_decide_eq_true (by kernel_rfl)) hk0 bel hl0), rfl, bel.frame _, fun h => by cases h⟩

theorem again_holds : Rows.SubstAgainUptoSaid :=
  OpenClaim.holds_of_cond 5 Try.f5 rfl rfl rfl rfl rfl rfl rfl ⟨rfl, rfl, rfl, rfl, rfl⟩ rfl rfl rfl rfl rfl (by kernel_rfl) Try.func5 (by kernel_rfl)
    (of_decide_eq_true (by kernel_rfl)) (by unfold Func.isWrapper; first | (rw [if_pos (by decide +kernel)]; kernel_rfl) | (rw [if_neg (by decide +kernel)]; exact ⟨rfl, rfl⟩))
    (fun os started H enc _ F => again_lifted os started H enc F)
#print axioms again_holds
end Go.Proofs.Yteiaobeklahifaa
