/- For every list of numbers, every list of cuts and either bool that are together of bulk at most 1048576 the law on letters parted into words (ProofSplits) returns true and leaves its arguments as they were. The card ties scan's table of bytes and the tables of unicode/utf8 to the text of this seat's pruned copy of the project. -/
import Derived.Test.YtffchjigpppoaaaDoorSplitsWalk
import Derived.Test.YtffchjigpppoaaaDoorLinesProof
namespace Go.Proofs.YtffchjigpppoaaaDoor
open Go.ChangeShapes Go.WideShapes Go.ChangeAt Go.RowKit Go.Deep Go.Shelf Go.Lib

def laidS : List (String × DataW Unit) := [("unicode/utf8.acceptRanges", Rows.laid_unicode_utf8_acceptRanges), ("lemma/scan.kinds", Rows.laid_lemma_scan_kinds), ("unicode/utf8.first", Rows.laid_unicode_utf8_first)]
theorem kinds_tab : (Rows.laid_lemma_scan_kinds : DataW Unit) = Lib.tabData .u8 K.tbl := by kernel_rfl
theorem kb_of_reads {W : World} (h : Lib.VarReads Tryd.prog W "lemma/scan.kinds" Rows.laid_lemma_scan_kinds) : KBs W := by
  rw [kinds_tab] at h
  obtain ⟨g', t', cs, fuel, p, hg', ht', hvar, hd⟩ := h
  obtain rfl := Option.some.inj (gKinds.symm.trans hg')
  obtain rfl := Option.some.inj (tKinds.symm.trans ht')
  have hcs := Lib.cells_of_tab Tryd.underlying119 Tryd.underlying5 c5 c119 hd
  intro i hi
  have hc := World.var?_cell gKinds hvar i
  rw [hc]
  have hl : i < K.tbl.length := hi
  have e : cs[i]? = cs.toList[i]? := by simp
  rw [e, hcs]
  simp [hl]
theorem kbt_of_laid {W : World} (h : laidMetH Tryd.prog laidS W) : KBs W ∧ Tabs W := by
  rw [MakeChecks.laidMetH_plain _ _ _ (by kernel_rfl)] at h
  have h4 := Lib.laidMet.reads h (List.Mem.head _)
  have h2 := Lib.laidMet.reads h (List.Mem.tail _ (List.Mem.head _))
  have h3 := Lib.laidMet.reads h (List.Mem.tail _ (List.Mem.tail _ (List.Mem.head _)))
  rw [acc_eq] at h4
  rw [show Rows.laid_unicode_utf8_first = firstData from Pinned.utf8First_eq] at h3
  exact ⟨kb_of_reads h2, utf8Tabs_of_readsT u8T u8X h3 h4⟩
theorem splits_reads (os : Os) {H : Type} (enc : TypeId × Value → H) : ∃ places, DataW.whole enc Tryd.prog ((World.laidAll Tryd.prog os laidS).forCall (fun _ _ => 0) ⟨#[], #[.slice none 0 0, .slice none 0 0, .bool false], []⟩).memory Tryd.f7.params.toList Rows.proofSplitsSpec.vars false #[Value.slice none 0 0, Value.slice none 0 0, Value.bool false].toList 8 = some ([.nil, .nil, .lit (.bool false)], [], places) :=
  ⟨[], by kernel_rfl⟩
theorem splits_met (os : Os) : laidMet Tryd.prog laidS ((World.laidAll Tryd.prog os laidS).forCall (fun _ _ => 0) ⟨#[], #[.slice none 0 0, .slice none 0 0, .bool false], []⟩).memory :=
  laidMet_laidAll _ (by kernel_rfl) (by kernel_rfl)

set_option maxRecDepth 100000 in
theorem splits_lifted (os : Os) (started : os.Started) (H : Type) (enc : TypeId × Value → H) (F : Stop.Interp) :
    ReturnsInHanded {} Tryd.checked os 7 .any ((Rows.OpenSpec.upto Rows.proofSplitsSpec).preRow enc Tryd.prog Tryd.f7 Rows.proofSplitsUptoRow.domain false Rows.proofSplitsUptoRow.laid) (((Rows.OpenSpec.upto Rows.proofSplitsSpec).at F).post enc Tryd.prog Tryd.f7 false true false false) := by
  obtain ⟨places, hx⟩ := splits_reads os enc
  refine returnsInHanded_of_row (C := Tryd.checked) (s := Rows.OpenSpec.upto Rows.proofSplitsSpec) own started (by kernel_rfl) Tryd.func7
    (witness_row_at (enc := enc) (C := Tryd.checked) false (World.laidAll Tryd.prog os laidS) #[.slice none 0 0, .slice none 0 0, .bool false] (World.laidAll_os _ _ _) (by kernel_rfl) (by kernel_rfl) (by kernel_rfl)
      (OpenSpec.preRow_of_cond 8 hx (by kernel_rfl) (fun k hk => by cases hk; kernel_rfl) (by kernel_rfl) (splits_met os))) ?_
  intro W base args ds gs before hval0 hW _ hcond _ hL _ _
  have hk := hcond _ rfl
  have hval : ∀ (j : Nat) t v, Tryd.f7.params[j]? = some t → args[j]? = some v → Value.okWide Tryd.prog W .any base t v := hval0
  have hW' := hW
  obtain ⟨p, q, hA0, hV, rfl, hfz, hnd⟩ := hW
  have hA : DataW.TrodAll enc Tryd.prog W 0 (fun _ => true) true Tryd.f7.params.toList args.toList ds p := hA0
  rw [Tryd.params7] at hA hval
  obtain ⟨v0, v1, v2, d0, d1, d2, p0, p1, p2, rfl, rfl, rfl, h0, h1, h2⟩ := trodAll_three hA
  obtain ⟨rfl, rfl⟩ := trodVars_none hV
  obtain ⟨wa0, wn0, wc0, rfl⟩ := okWide_slice Tryd.underlying22 (hval 0 22 v0 rfl rfl)
  obtain ⟨wa1, wn1, wc1, rfl⟩ := okWide_slice Tryd.underlying22 (hval 1 22 v1 rfl rfl)
  obtain ⟨dg, rfl, rfl, rfl⟩ := open_bool Tryd.underlying4 (hval 2 4 v2 rfl rfl) h2
  have hk0 := h0
  have hk1 := h1
  obtain ⟨f0, hf0⟩ := h0
  obtain ⟨f1, hf1⟩ := h1
  simp only [List.append_nil] at hW' hk
  have hbulk : Rows.uptoBulkAll (H := H) [d0, d1, .lit (.bool dg)] ≤ 1048576 := of_decide_eq_true hk
  simp only [Rows.uptoBulkAll] at hbulk
  have hl0 : ∀ x ∈ p0, x.block < W.heap.size := fun x hx => by simpa using hW'.lt x (by simp [hx])
  have hl1 : ∀ x ∈ p1, x.block < W.heap.size := fun x hx => by simpa using hW'.lt x (by simp [hx])
  obtain ⟨hn0, l0, e0, i0, r0⟩ := ints_came hf0
  obtain ⟨_, l1, e1, i1, r1⟩ := ints_came hf1
  obtain ⟨hn1, _, _⟩ := ints_small (B := 1048576) hf1 (by show Rows.uptoBulk d1 ≤ _; omega)
  obtain ⟨hKB, hTb⟩ := kbt_of_laid hL
  refine (splits_walk W wa0 wn0 wc0 l0 e0 hn0 i0 r0 hKB hTb wa1 wn1 wc1 l1 e1 hn1 i1 r1 dg).mono fun e W' ⟨he, bel⟩ => ?_
  subst he
  exact ⟨_, rfl, _, _, _, [], _, [], hW', trodAll_mk1 (shut_bool Tryd.underlying4 _), trodAll_mk3 (Below.trod laidOut (by kernel_rfl) (of_decide_eq_true (by kernel_rfl)) hk0 bel hl0) (Below.trod laidOut (by kernel_rfl) (of_decide_eq_true (by kernel_rfl)) hk1 bel hl1) (shut_bool Tryd.underlying4 _), rfl, bel.frame _, fun h => by cases h⟩

theorem splits_row : Rows.ProofSplitsUptoSaid :=
  OpenClaim.holds_of_cond 7 Tryd.f7 rfl rfl rfl rfl rfl rfl rfl ⟨rfl, rfl, rfl, rfl, rfl⟩ rfl rfl rfl rfl rfl (by kernel_rfl) Tryd.func7 (by kernel_rfl)
    (of_decide_eq_true (by kernel_rfl)) (by unfold Func.isWrapper; first | (rw [if_pos (by decide +kernel)]; kernel_rfl) | (rw [if_neg (by decide +kernel)]; exact ⟨rfl, rfl⟩))
    (fun os started H enc _ F => by rw [OpenClaim.pre_eq_preRow]; exact splits_lifted os started H enc F)

theorem splits_holds : Rows.ProofSplitsUptoCardSaid :=
  Claim7.holds_tied_plain_at .later [] _ _ _ _ splits_row (fun _ h => by cases h) (by kernel_rfl) (fun _ h => by cases h) proofSplitsUpto_row_tie rfl ⟨rfl, rfl⟩ (by kernel_rfl) rfl
    (fun f fn hf hfn => by
      obtain rfl : f = 7 := Option.some.inj ((show Tryd.prog.funcNamed "lemma/lemmalaw10.ProofSplits" = some 7 by kernel_rfl).symm.trans hf) |>.symm
      obtain rfl : fn = Tryd.f7 := (Option.some.inj (Tryd.func7.symm.trans hfn)).symm
      exact ⟨by kernel_rfl, fun j t ht => by
        rw [Tryd.params7] at ht
        have hm : t ∈ [22, 22, 4] := by simpa using Array.mem_of_getElem? ht
        have hall : ([22, 22, 4].all fun u => !Tryd.prog.wantsStandIn u) = true := by kernel_rfl
        exact (show Tryd.prog.wantsStandIn t = false by simpa using List.all_eq_true.1 hall t hm)⟩)
    (by kernel_rfl)
#print axioms splits_holds
end Go.Proofs.YtffchjigpppoaaaDoor
