/- For every list of declarations, every list of words and every list of numbers that are together of bulk at most 1048576 the law on words read and printed (ExprWords) returns true and leaves its arguments as they were, where the tables hold what the programs' texts lay in them. -/
import Derived.Test.YtmgpnaehniohgaaDoorLaid
import Derived.Test.YtmgpnaehniohgaaDoorWordsWalk
import Derived.Test.YtmgpnaehniohgaaDoorTie
import Derived.Test.YtmgpnaehniohgaaDoorCards
import Derived.ProofKit
import Derived.OpenShut
import Derived.Deep.DeepHandedRow
import Derived.Lib.LaidTab
import Derived.Deep.Slices
import Derived.Deep.Strs
import Derived.ChangeArms
import Derived.ChangeSlices
import Derived.SliceStrings
import Derived.Carry
import Derived.SevenTiedAt
namespace Go.Proofs.YtmgpnaehniohgaaDoor.Words
open Go.ChangeShapes Go.WideShapes Go.ChangeAt Go.RowKit Go.Deep

theorem cells48 : Tryd.prog.cellsOf 48 = 2 := by kernel_rfl
theorem cells9 : Tryd.prog.cellsOf 9 = 1 := by kernel_rfl
theorem cells3 : Tryd.prog.cellsOf 3 = 1 := by kernel_rfl
/-- The row's list of tables. -/
def laid4 : List (String × DataW Unit) := [("math/bits.deBruijn32tab", Rows.laid_math_bits_deBruijn32tab), ("math/bits.deBruijn64tab", Rows.laid_math_bits_deBruijn64tab), ("internal/strconv.uint64pow10", Rows.laid_internal_strconv_uint64pow10), ("lemma/scan.kinds", Rows.laid_lemma_scan_kinds)]
theorem laid_tail {P : Program} {n : String} {d : DataW Unit} {r : List (String × DataW Unit)} {w : World} (h : laidMet P ((n, d) :: r) w) : laidMet P r w := by
  obtain ⟨ps, ⟨g, t, cs, fuel, p, q, _, _, _, _, hr, rfl⟩, hnd, hc⟩ := h
  exact ⟨q, hr, (List.nodup_append.1 hnd).2.1, fun b off hm => hc b off (List.mem_append_right _ hm)⟩
theorem met_tail {W : World} (h : laidMetH Tryd.prog laid4 W) : laidMet Tryd.prog [("internal/strconv.uint64pow10", Rows.laid_internal_strconv_uint64pow10), ("lemma/scan.kinds", Rows.laid_lemma_scan_kinds)] W := by
  rw [MakeChecks.laidMetH_plain _ _ _ (by kernel_rfl)] at h
  exact laid_tail (laid_tail h)
theorem kb_of_laid4 {W : World} (h : laidMetH Tryd.prog laid4 W) : KB W := by
  refine kb_of_laid ?_
  rw [MakeChecks.laidMetH_plain _ _ _ (by kernel_rfl)]
  exact laid_tail (met_tail h)
theorem pow_data : (Rows.laid_internal_strconv_uint64pow10 : DataW Unit) = Lib.tabData .u64 Lib.pow10Tab := by kernel_rfl
theorem gPow : Tryd.prog.globalNamed "internal/strconv.uint64pow10" = some 1 := by kernel_rfl
theorem tPow : (Tryd.prog.globals[1]?).map (·.type) = some 139 := by kernel_rfl
theorem cPow : Tryd.prog.cellsOf 139 = 20 := by kernel_rfl
theorem cPowE : Tryd.prog.cellsOf 122 = 1 := by kernel_rfl
theorem pow_of_laid4 {W : World} (h : laidMetH Tryd.prog laid4 W) : R.Pow W := by
  have h1 := met_tail h
  rw [pow_data] at h1
  exact Lib.tabIs_of_head gPow tPow Tryd.underlying139 Tryd.underlying122 cPowE cPow h1

theorem bulk_mem {H : Type} : ∀ {l : List (DataW H)} {d : DataW H}, d ∈ l → Rows.uptoBulk d ≤ Rows.uptoBulkAll l
  | x :: r, d, h => by
    simp only [Rows.uptoBulkAll]
    rcases List.mem_cons.1 h with rfl | h
    · omega
    · have := bulk_mem h; omega
  | [], _, h => by simp at h
theorem bulk_pos {H : Type} (x : DataW H) : 1 ≤ Rows.uptoBulk x := by
  cases x with
  | lit l => cases l <;> simp [Rows.uptoBulk]
  | nil => simp [Rows.uptoBulk]
  | ptr d => simp [Rows.uptoBulk]
  | slice elems spare => simp [Rows.uptoBulk]
  | agg parts => simp [Rows.uptoBulk]
  | iface t d => simp [Rows.uptoBulk]
  | map entries => simp [Rows.uptoBulk]
  | held h => simp [Rows.uptoBulk]
theorem bulkAll_len {H : Type} (l : List (DataW H)) : l.length ≤ Rows.uptoBulkAll l := by
  induction l with
  | nil => simp [Rows.uptoBulkAll]
  | cons x r ih =>
    have := bulk_pos x
    simp only [Rows.uptoBulkAll, List.length_cons]; omega
/-- A slice of numbers that came in, of bulk at most B. -/
theorem ints_small {H : Type} {enc : TypeId × Value → H} {W : World} {fuel : Nat} {a0 : Option Addr} {len cap : Nat} {x : DataW H × List MemPlace} {B : Nat}
    (h : DataW.trod enc Tryd.prog W 0 (fun _ => true) true fuel 23 [.slice a0 len cap] = some x) (hB : Rows.uptoBulk x.1 ≤ B) :
    len ≤ B ∧ ∃ l : List Int, l.length = len ∧ E.IntsAt W a0 l ∧ ∀ z ∈ l, R.Rng z := by
  rcases open_ints Tryd.underlying23 Tryd.underlying3 cells3 h with ⟨hcs, hx⟩ | ⟨a, len', cap', zs, hcs, _, hl, hm, hz, hx, hcell, hws⟩
  · simp at hcs
    obtain ⟨rfl, rfl, rfl⟩ := hcs
    exact ⟨Nat.zero_le _, [], rfl, fun i x hi => by simp at hi, by simp⟩
  · simp at hcs
    obtain ⟨rfl, rfl, rfl⟩ := hcs
    simp only [if_true] at hz
    have hb : len ≤ B := by
      rw [hx] at hB
      simp only [Rows.uptoBulk] at hB
      have h2 := bulkAll_len (lits (H := H) .i64 (zs.take len))
      simp only [lits, List.length_map, List.length_take] at h2
      simp only [lits] at hB
      omega
    refine ⟨hb, zs.take len, by rw [List.length_take]; omega, fun i x hi => ?_, fun z hz' => ?_⟩
    · obtain ⟨b, off, spot⟩ := a
      have hlt : i < len := by
        have := (List.getElem?_eq_some_iff.1 hi).1
        rw [List.length_take] at this; omega
      have hspot : spot = none := by simpa [Addr.add] using World.cell?_spot (hcell 0 (by omega))
      subst hspot
      have hc := hcell i (by omega)
      rw [add_plain] at hc
      refine ⟨b, off, rfl, ?_⟩
      rw [hc]
      rw [List.getElem?_take, if_pos hlt] at hi
      rw [List.getD, hi]; rfl
    · exact bounds_i64 (hws z (List.mem_of_mem_take hz'))

set_option maxRecDepth 100000 in
/-- Declarations that came in, of bulk at most B. -/
theorem decls_small {H : Type} {enc : TypeId × Value → H} {W : World} {fuel : Nat} {a0 : Option Addr} {len cap : Nat} {x : DataW H × List MemPlace} {B : Nat}
    (h : DataW.trod enc Tryd.prog W 0 (fun _ => true) true fuel 46 [.slice a0 len cap] = some x) (hB : Rows.uptoBulk x.1 ≤ B) :
    len ≤ B ∧ ∃ K S, R.DeclsAt W a0 len K S := by
  rcases open_slice Tryd.underlying46 h with ⟨hcs, _⟩ | ⟨a, len', cap', m, n, D, Pl, hcs, _, hl, hm, hmm, hx, hel⟩
  · simp at hcs
    obtain ⟨rfl, rfl, rfl⟩ := hcs
    exact ⟨Nat.zero_le _, fun _ => 0, fun _ => ⟨#[]⟩, fun i hi => by omega⟩
  · simp at hcs
    obtain ⟨rfl, rfl, rfl⟩ := hcs
    simp only [if_true] at hmm
    rw [hx] at hB
    simp only [Rows.uptoBulk] at hB
    have hlen := bulkAll_len ((List.range len).map D)
    simp only [List.length_map, List.length_range] at hlen
    refine ⟨by omega, ?_⟩
    have key : ∀ i, i < len → ∃ q : Int × ByteArray, W.cell? (a.add (i * 2)) = some (.int .i64 q.1) ∧ W.cell? (a.add (i * 2 + 1)) = some (.string q.2) ∧ q.2.size ≤ maxLen := by
      intro i hi
      obtain ⟨cs', hc, ht⟩ := hel i (by omega)
      rw [cells48] at hc
      obtain ⟨y0, y1, n2, _, hlen, t0, t1⟩ := trod_struct2 Tryd.underlying48 ht
      obtain ⟨k, e0, _, _⟩ := DataW.trod_int Tryd.underlying3 t0
      obtain ⟨s, e1, _, hs⟩ := DataW.trod_string Tryd.underlying9 t1
      dsimp only at e0 e1
      rw [cells3] at e0
      rw [cells9] at e1
      rw [cells48] at hlen
      match cs', hlen with
      | [u0, u1], _ =>
        simp at e0 e1
        subst e0 e1
        obtain ⟨_, _, hcell⟩ := World.cells?_some hc
        have h0 := hcell 0 (by omega)
        have h1 := hcell 1 (by omega)
        rw [add_add] at h0 h1
        exact ⟨(k, s), h0, h1, hs⟩
    obtain ⟨F, hF⟩ := choose_lt key
    refine ⟨fun i => (F i).1, fun i => (F i).2, fun i hi => ?_⟩
    obtain ⟨h0, h1, hs⟩ := hF i hi
    obtain ⟨b, off, spot⟩ := a
    have hspot : spot = none := by
      have := World.cell?_spot (hF 0 (by omega)).1
      simpa [Addr.add] using this
    subst hspot
    rw [add_plain] at h0 h1
    exact ⟨b, off, rfl, h0, by rw [Nat.add_assoc]; exact h1, hs⟩

set_option maxRecDepth 100000 in
/-- Words that came in, of bulk at most B. -/
theorem strs_small {H : Type} {enc : TypeId × Value → H} {W : World} {fuel : Nat} {a0 : Option Addr} {len cap : Nat} {x : DataW H × List MemPlace} {B : Nat}
    (h : DataW.trod enc Tryd.prog W 0 (fun _ => true) true fuel 43 [.slice a0 len cap] = some x) (hB : Rows.uptoBulk x.1 ≤ B) :
    len ≤ B ∧ ∃ ws : List ByteArray, ws.length = len ∧ E.WordsAt W a0 ws ∧ ∀ s ∈ ws, s.size ≤ maxLen := by
  rcases open_slice Tryd.underlying43 h with ⟨hcs, _⟩ | ⟨a, len', cap', m, n, D, Pl, hcs, _, hl, hm, hmm, hx, hel⟩
  · simp at hcs
    obtain ⟨rfl, rfl, rfl⟩ := hcs
    exact ⟨Nat.zero_le _, [], rfl, fun i s hi => by simp at hi, by simp⟩
  · simp at hcs
    obtain ⟨rfl, rfl, rfl⟩ := hcs
    simp only [if_true] at hmm
    rw [hx] at hB
    simp only [Rows.uptoBulk] at hB
    have hlen := bulkAll_len ((List.range len).map D)
    simp only [List.length_map, List.length_range] at hlen
    refine ⟨by omega, ?_⟩
    have key : ∀ i, i < len → ∃ q : ByteArray, W.cell? (a.add i) = some (.string q) ∧ q.size ≤ maxLen := by
      intro i hi
      obtain ⟨cs', hc, ht⟩ := hel i (by omega)
      rw [cells9] at hc
      obtain ⟨s, e1, _, hs⟩ := DataW.trod_string Tryd.underlying9 ht
      subst e1
      obtain ⟨_, _, hcell⟩ := World.cells?_some hc
      have h0 := hcell 0 (by omega)
      rw [add_add, Nat.mul_one, Nat.add_zero] at h0
      exact ⟨s, h0, hs⟩
    obtain ⟨F, hF⟩ := choose_lt key
    refine ⟨(List.range len).map F, by simp, fun i s hi => ?_, fun s hs => ?_⟩
    · have hlt : i < len := by
        have := (List.getElem?_eq_some_iff.1 hi).1
        rwa [List.length_map, List.length_range] at this
      obtain ⟨h0, _⟩ := hF i hlt
      obtain ⟨b, off, spot⟩ := a
      have hspot : spot = none := by
        have := World.cell?_spot (hF 0 (by omega)).1
        simpa [Addr.add] using this
      subst hspot
      rw [add_plain] at h0
      rw [List.getElem?_map, List.getElem?_range hlt] at hi
      cases hi
      exact ⟨b, off, rfl, h0⟩
    · obtain ⟨i, hi, rfl⟩ := List.mem_map.1 hs
      exact (hF i (List.mem_range.1 hi)).2

theorem reads (os : Os) {H : Type} (enc : TypeId × Value → H) : ∃ places, DataW.whole enc Tryd.prog ((World.doorLaid Tryd.prog 400 os).forCall (fun _ _ => 0) ⟨#[], #[.slice none 0 0, .slice none 0 0, .slice none 0 0], []⟩).memory Tryd.f5.params.toList Rows.exprWordsSpec.vars false #[Value.slice none 0 0, Value.slice none 0 0, Value.slice none 0 0].toList 8 = some ([.nil, .nil, .nil], [], places) :=
  ⟨[], by kernel_rfl⟩
theorem met (os : Os) : laidMet Tryd.prog Rows.exprWordsUptoRow.laid ((World.doorLaid Tryd.prog 400 os).forCall (fun _ _ => 0) ⟨#[], #[.slice none 0 0, .slice none 0 0, .slice none 0 0], []⟩).memory :=
  laidMet_of_run' 8 (by kernel_rfl) (by kernel_rfl)

set_option maxRecDepth 100000 in
theorem words_lifted (os : Os) (started : os.Started) (H : Type) (enc : TypeId × Value → H) (F : Stop.Interp) :
    ReturnsInHanded {} Tryd.checked os 5 .any ((Rows.OpenSpec.upto Rows.exprWordsSpec).preRow enc Tryd.prog Tryd.f5 Rows.exprWordsUptoRow.domain false Rows.exprWordsUptoRow.laid) (((Rows.OpenSpec.upto Rows.exprWordsSpec).at F).post enc Tryd.prog Tryd.f5 false true false false) := by
  obtain ⟨places, hx⟩ := reads os enc
  refine returnsInHanded_of_row (C := Tryd.checked) (s := Rows.OpenSpec.upto Rows.exprWordsSpec) own started (by kernel_rfl) Tryd.func5
    (witness_row_at (enc := enc) (C := Tryd.checked) false (World.doorLaid Tryd.prog 400 os) #[.slice none 0 0, .slice none 0 0, .slice none 0 0] rfl (by kernel_rfl) (by kernel_rfl) (by kernel_rfl)
      (OpenSpec.preRow_of_cond 8 hx (by kernel_rfl) (fun k hk => by cases hk; kernel_rfl) (by kernel_rfl) (met os))) ?_
  intro W base args ds gs before hval0 hW _ hcond _ hL _ _
  have hk := hcond _ rfl
  have hval : ∀ (j : Nat) t v, Tryd.f5.params[j]? = some t → args[j]? = some v → Value.okWide Tryd.prog W .any base t v := hval0
  have hW' := hW
  obtain ⟨p, q, hA0, hV, rfl, hfz, hnd⟩ := hW
  have hA : DataW.TrodAll enc Tryd.prog W 0 (fun _ => true) true Tryd.f5.params.toList args.toList ds p := hA0
  rw [Tryd.params5] at hA hval
  obtain ⟨v0, v1, v2, d0, d1, d2, p0, p1, p2, rfl, rfl, rfl, h0, h1, h2⟩ := trodAll_three hA
  obtain ⟨rfl, rfl⟩ := trodVars_none hV
  obtain ⟨wa0, wn0, wc0, rfl⟩ := okWide_slice Tryd.underlying46 (hval 0 46 v0 rfl rfl)
  obtain ⟨wa1, wn1, wc1, rfl⟩ := okWide_slice Tryd.underlying43 (hval 1 43 v1 rfl rfl)
  obtain ⟨wa2, wn2, wc2, rfl⟩ := okWide_slice Tryd.underlying23 (hval 2 23 v2 rfl rfl)
  have hk0 := h0
  have hk1 := h1
  have hk2 := h2
  obtain ⟨f0, hf0⟩ := h0
  obtain ⟨f1, hf1⟩ := h1
  obtain ⟨f2, hf2⟩ := h2
  simp only [List.append_nil] at hW' hk
  have hbulk : Rows.uptoBulkAll [d0, d1, d2] ≤ 1048576 := of_decide_eq_true hk
  simp only [Rows.uptoBulkAll] at hbulk
  have hl0 : ∀ x ∈ p0, x.block < W.heap.size := fun x hx => by simpa using hW'.lt x (by simp [hx])
  have hl1 : ∀ x ∈ p1, x.block < W.heap.size := fun x hx => by simpa using hW'.lt x (by simp [hx])
  have hl2 : ∀ x ∈ p2, x.block < W.heap.size := fun x hx => by simpa using hW'.lt x (by simp [hx])
  obtain ⟨hn0, K, S, hD⟩ := decls_small (B := 1048576) hf0 (by show Rows.uptoBulk d0 ≤ _; omega)
  obtain ⟨hn1, ws, e1, i1, z1⟩ := strs_small (B := 1048576) hf1 (by show Rows.uptoBulk d1 ≤ _; omega)
  obtain ⟨hn2, l, e2, i2, z2⟩ := ints_small (B := 1048576) hf2 (by show Rows.uptoBulk d2 ≤ _; omega)
  refine (R.words_walk W wa0 wn0 wc0 K S wa1 wn1 wc1 ws wa2 wn2 wc2 l hn0 hD e1 hn1 z1 i1 e2 hn2 i2 z2 (kb_of_laid4 hL) (pow_of_laid4 hL)).mono fun e W' ⟨he, bel⟩ => ?_
  subst he
  exact ⟨_, rfl, _, _, _, [], _, [], hW', trodAll_mk1 (shut_bool Tryd.underlying4 _), trodAll_mk3 (Below.trod laidOut (by kernel_rfl) (of_decide_eq_true (by kernel_rfl)) hk0 bel hl0) (Below.trod laidOut (by kernel_rfl) (of_decide_eq_true (by kernel_rfl)) hk1 bel hl1) (Below.trod laidOut (by kernel_rfl) (of_decide_eq_true (by kernel_rfl)) hk2 bel hl2), rfl, bel.frame _, fun h => by cases h⟩

theorem words_row : Rows.ExprWordsUptoSaid :=
  OpenClaim.holds_of_cond 5 Tryd.f5 rfl rfl rfl rfl rfl rfl rfl ⟨rfl, rfl, rfl, rfl, rfl⟩ rfl rfl rfl rfl rfl (by kernel_rfl) Tryd.func5 (by kernel_rfl)
    (of_decide_eq_true (by kernel_rfl)) (by unfold Func.isWrapper; first | (rw [if_pos (by decide +kernel)]; kernel_rfl) | (rw [if_neg (by decide +kernel)]; exact ⟨rfl, rfl⟩))
    (fun os started H enc _ F => by rw [OpenClaim.pre_eq_preRow]; exact words_lifted os started H enc F)

theorem words_card : Rows.ExprWordsUptoCardSaid :=
  Claim7.holds_tied_plain_at .later [] _ _ _ _ words_row (fun _ h => by cases h) (by kernel_rfl) (fun _ h => by cases h) exprWordsUpto_row_tie rfl ⟨rfl, rfl⟩ (by kernel_rfl) rfl
    (fun f fn hf hfn => by
      obtain rfl : f = 5 := Option.some.inj ((show Tryd.prog.funcNamed "lemma/lemmalaw03.ExprWords" = some 5 by kernel_rfl).symm.trans hf) |>.symm
      obtain rfl : fn = Tryd.f5 := (Option.some.inj (Tryd.func5.symm.trans hfn)).symm
      exact ⟨by kernel_rfl, fun j t ht => by
        rw [Tryd.params5] at ht
        have hm : t ∈ [46, 43, 23] := by simpa using Array.mem_of_getElem? ht
        have hall : ([46, 43, 23].all fun u => !Tryd.prog.wantsStandIn u) = true := by kernel_rfl
        exact (show Tryd.prog.wantsStandIn t = false by simpa using List.all_eq_true.1 hall t hm)⟩)
    (by kernel_rfl)
end Go.Proofs.YtmgpnaehniohgaaDoor.Words
namespace Go.Proofs.YtmgpnaehniohgaaDoor
theorem words_holds : Rows.ExprWordsUptoCardSaid := Words.words_card
#print axioms words_holds
end Go.Proofs.YtmgpnaehniohgaaDoor
