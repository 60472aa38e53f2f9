/- For every list of labels and every list of numbers that are together of bulk at most 1048576 the law that holds Plain and Packed against the document's answers (ProofPrints) returns true and leaves its arguments as they were. The card ties scan's table of bytes to the text of this seat's pruned copy of the project. -/
import Derived.Test.YtffchjigpppoaaaDoorSmall
import Derived.Test.YtffchjigpppoaaaDoorPrintsWalk
import Derived.Test.YtffchjigpppoaaaDoorTie
import Derived.Test.YtffchjigpppoaaaDoorCards
import Derived.Test.YtffchjigpppoaaaDoorLaid
import Derived.Lib.LaidTab
import Derived.SevenTiedAt
namespace Go.Proofs.YtffchjigpppoaaaDoor
open Go.ChangeShapes Go.WideShapes Go.ChangeAt Go.RowKit Go.Deep Go.Shelf Go.Lib

theorem gKinds : Tryd.prog.globalNamed "lemma/scan.kinds" = some 1 := by kernel_rfl
theorem tKinds : (Tryd.prog.globals[1]?).map (·.type) = some 119 := by kernel_rfl
def laid1 : List (String × DataW Unit) := [("lemma/scan.kinds", Rows.laid_lemma_scan_kinds)]
theorem laid1_tab : laid1 = [("lemma/scan.kinds", Lib.tabData .u8 K.tbl)] := by kernel_rfl
theorem c5 : Tryd.prog.cellsOf 5 = 1 := by kernel_rfl
theorem c119 : Tryd.prog.cellsOf 119 = 128 := by kernel_rfl
theorem kb_of_laid {W : World} (h : laidMetH Tryd.prog laid1 W) : KBs W := by
  rw [MakeChecks.laidMetH_plain _ _ _ (by kernel_rfl), laid1_tab] at h
  have hv := Lib.tabIs_of_head gKinds tKinds Tryd.underlying119 Tryd.underlying5 c5 c119 h
  intro i hi
  have hc := World.var?_cell gKinds hv i
  rw [hc]
  have hl : i < K.tbl.length := hi
  simp [hl]
theorem prints_reads (os : Os) {H : Type} (enc : TypeId × Value → H) : ∃ places, DataW.whole enc Tryd.prog ((World.laidAll Tryd.prog os laid1).forCall (fun _ _ => 0) ⟨#[], #[.slice none 0 0, .slice none 0 0], []⟩).memory Tryd.f4.params.toList Rows.proofPrintsSpec.vars false #[Value.slice none 0 0, Value.slice none 0 0].toList 8 = some ([.nil, .nil], [], places) :=
  ⟨[], by kernel_rfl⟩
theorem prints_met (os : Os) : laidMet Tryd.prog laid1 ((World.laidAll Tryd.prog os laid1).forCall (fun _ _ => 0) ⟨#[], #[.slice none 0 0, .slice none 0 0], []⟩).memory :=
  laidMet_laidAll _ (by kernel_rfl) (by kernel_rfl)

set_option maxRecDepth 100000 in
theorem prints_lifted (os : Os) (started : os.Started) (H : Type) (enc : TypeId × Value → H) (F : Stop.Interp) :
    ReturnsInHanded {} Tryd.checked os 4 .any ((Rows.OpenSpec.upto Rows.proofPrintsSpec).preRow enc Tryd.prog Tryd.f4 Rows.proofPrintsUptoRow.domain false Rows.proofPrintsUptoRow.laid) (((Rows.OpenSpec.upto Rows.proofPrintsSpec).at F).post enc Tryd.prog Tryd.f4 false true false false) := by
  obtain ⟨places, hx⟩ := prints_reads os enc
  refine returnsInHanded_of_row (C := Tryd.checked) (s := Rows.OpenSpec.upto Rows.proofPrintsSpec) own started (by kernel_rfl) Tryd.func4
    (witness_row_at (enc := enc) (C := Tryd.checked) false (World.laidAll Tryd.prog os laid1) #[.slice none 0 0, .slice none 0 0] (World.laidAll_os _ _ _) (by kernel_rfl) (by kernel_rfl) (by kernel_rfl)
      (OpenSpec.preRow_of_cond 8 hx (by kernel_rfl) (fun k hk => by cases hk; kernel_rfl) (by kernel_rfl) (prints_met os))) ?_
  intro W base args ds gs before hval0 hW _ hcond _ hL _ _
  have hk := hcond _ rfl
  have hval : ∀ (j : Nat) t v, Tryd.f4.params[j]? = some t → args[j]? = some v → Value.okWide Tryd.prog W .any base t v := hval0
  have hW' := hW
  obtain ⟨p, q, hA0, hV, rfl, hfz, hnd⟩ := hW
  have hA : DataW.TrodAll enc Tryd.prog W 0 (fun _ => true) true Tryd.f4.params.toList args.toList ds p := hA0
  rw [Tryd.params4] at hA hval
  obtain ⟨v0, v1, d0, d1, p0, p1, rfl, rfl, rfl, h0, h1⟩ := trodAll_two hA
  obtain ⟨rfl, rfl⟩ := trodVars_none hV
  obtain ⟨wa0, wn0, wc0, rfl⟩ := okWide_slice Tryd.underlying23 (hval 0 23 v0 rfl rfl)
  obtain ⟨wa1, wn1, wc1, rfl⟩ := okWide_slice Tryd.underlying22 (hval 1 22 v1 rfl rfl)
  have hk0 := h0
  have hk1 := h1
  obtain ⟨f0, hf0⟩ := h0
  obtain ⟨f1, hf1⟩ := h1
  simp only [List.append_nil] at hW' hk
  have hbulk : Rows.uptoBulkAll (H := H) [d0, d1] ≤ 1048576 := of_decide_eq_true hk
  simp only [Rows.uptoBulkAll] at hbulk
  have hl0 : ∀ x ∈ p0, x.block < W.heap.size := fun x hx => by simpa using hW'.lt x (by simp [hx])
  have hl1 : ∀ x ∈ p1, x.block < W.heap.size := fun x hx => by simpa using hW'.lt x (by simp [hx])
  obtain ⟨hn0, hc0, l0, e0, i0, z0⟩ := strs_small (B := 1048576) hf0 (by show Rows.uptoBulk d0 ≤ _; omega)
  obtain ⟨hn1, hc1, l1, e1, i1⟩ := ints_small (B := 1048576) hf1 (by show Rows.uptoBulk d1 ≤ _; omega)
  have hlen : lenTo l0 wn0 ≤ 1099511620000 := by
    unfold lenTo
    rw [List.take_of_length_le (by omega)]
    omega
  refine (prints_walk W wa0 wn0 wc0 l0 e0 hc0 hlen i0 (kb_of_laid hL) wa1 wn1 wc1 l1 e1 hc1 (by omega) i1).mono fun e W' ⟨he, bel⟩ => ?_
  subst he
  exact ⟨_, rfl, _, _, _, [], _, [], hW', trodAll_mk1 (shut_bool Tryd.underlying4 _), trodAll_mk2 (Below.trod laidOut (by kernel_rfl) (of_decide_eq_true (by kernel_rfl)) hk0 bel hl0) (Below.trod laidOut (by kernel_rfl) (of_decide_eq_true (by kernel_rfl)) hk1 bel hl1), rfl, bel.frame _, fun h => by cases h⟩

theorem prints_row : Rows.ProofPrintsUptoSaid :=
  OpenClaim.holds_of_cond 4 Tryd.f4 rfl rfl rfl rfl rfl rfl rfl ⟨rfl, rfl, rfl, rfl, rfl⟩ rfl rfl rfl rfl rfl (by kernel_rfl) Tryd.func4 (by kernel_rfl)
    (of_decide_eq_true (by kernel_rfl)) (by unfold Func.isWrapper; first | (rw [if_pos (by decide +kernel)]; kernel_rfl) | (rw [if_neg (by decide +kernel)]; exact ⟨rfl, rfl⟩))
    (fun os started H enc _ F => by rw [OpenClaim.pre_eq_preRow]; exact prints_lifted os started H enc F)

theorem prints_holds : Rows.ProofPrintsUptoCardSaid :=
  Claim7.holds_tied_plain_at .later [] _ _ _ _ prints_row (fun _ h => by cases h) (by kernel_rfl) (fun _ h => by cases h) proofPrintsUpto_row_tie rfl ⟨rfl, rfl⟩ (by kernel_rfl) rfl
    (fun f fn hf hfn => by
      obtain rfl : f = 4 := Option.some.inj ((show Tryd.prog.funcNamed "lemma/lemmalaw10.ProofPrints" = some 4 by kernel_rfl).symm.trans hf) |>.symm
      obtain rfl : fn = Tryd.f4 := (Option.some.inj (Tryd.func4.symm.trans hfn)).symm
      exact ⟨by kernel_rfl, fun j t ht => by
        rw [Tryd.params4] at ht
        have hm : t ∈ [23, 22] := by simpa using Array.mem_of_getElem? ht
        have hall : ([23, 22].all fun u => !Tryd.prog.wantsStandIn u) = true := by kernel_rfl
        exact (show Tryd.prog.wantsStandIn t = false by simpa using List.all_eq_true.1 hall t hm)⟩)
    (by kernel_rfl)
#print axioms prints_holds
end Go.Proofs.YtffchjigpppoaaaDoor
