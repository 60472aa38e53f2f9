/- The document's answer: the words of a statement's line. -/
import Derived.Test.YtipfhfeaalbmcaaDoorRMay
import Derived.Test.YtipfhfeaalbmcaaDoorLine
import Derived.Deep.CutRange
namespace Go.Proofs.YtipfhfeaalbmcaaDoor
open Go.RowKit

theorem infoS : (Tryd.prog.info? 9).map (fun i => (i.zero, i.size, i.bytes)) = some (some (.string ⟨#[]⟩), 1, 16) := by kernel_rfl
def strV (l : List ByteArray) : List Value := l.map .string
def textsL (ts : List Tok) : List ByteArray := ts.map (·.text)
/-- The words of a statement's line. -/
def lineW (kk : Nat) (lb : Tok) (ws ps : List Tok) : List ByteArray := (if labB kk then [lb.text] else []) ++ [kwB kk] ++ textsL ws ++ (if kk = 7 then proofS :: textsL ps else []) ++ (if brkB kk then [] else [endS])
theorem strV_append (l m : List ByteArray) : strV (l ++ m) = strV l ++ strV m := List.map_append
theorem strV_len (l : List ByteArray) : (strV l).length = l.length := List.length_map _
theorem strV_one (l : List ByteArray) : ∀ u ∈ strV l, u.oneCell' = true := fun u hu => by
  obtain ⟨x, _, rfl⟩ := List.mem_map.1 hu
  rfl
theorem textsL_step {ts : List Tok} {j : Nat} {t : Tok} (h : ts[j]? = some t) : textsL (ts.take (j + 1)) = textsL (ts.take j) ++ [t.text] := by
  unfold textsL
  rw [List.take_add_one, h, List.map_append]
  rfl
theorem textsL_len (ts : List Tok) : (textsL ts).length = ts.length := List.length_map _
/-- A row of words that is one's own. -/
def OwnS (W : World) (base : Nat) (v : Value) (l : List ByteArray) : Prop := W.ownsRow base 9 1 v l.length (strV l)
theorem OwnS.down {W W' : World} {base : Nat} {v : Value} {l : List ByteArray} (h : OwnS W base v l) (hb : Below W.heap.size W W') : OwnS W' base v l := M.owns_ch h (M.Ch.of_below (X := fun _ => False) hb) fun _ _ e => e
/-- One more word at the end of a row of one's own: the law for the walk. -/
theorem push_word {ops : Array Oper} {rest : List Oper} {o : Oper} {a : Act} {Q : Exit → Act → World → Prop} (w : World) (hgd : o.guard = none) (s x : Operand) (ho : o.op = .call { callee := .builtin .append, args := #[s, x], argTypes := #[82, 82] })
    (base : Nat) (v : Value) (l : List ByteArray) (t : ByteArray) (hs : a.eval s = v) (hown : OwnS w base v l) (hx : a.eval x = .slice (some ⟨w.heap.size, 0, none⟩) 1 1) (hn : l.length ≤ 16777216) (hbase : base ≤ w.heap.size)
    (h : ∀ a' c' w', OwnS w' base (.slice a' (l.length + 1) c') (l ++ [t]) → Below base w w' → wpList Tryd.prog ops Q rest (a.put o.dst (.slice a' (l.length + 1) c')) w') : wpList Tryd.prog ops Q (o :: rest) a (w.alloc (.cells #[.string t] 9)) := by
  obtain ⟨i0, hi0, hz0, hz1, hz3⟩ := info_parts infoS
  refine wpList_append_more (w := w.alloc (.cells #[.string t] 9)) hgd s x 82 ho base 9 i0 _ 1 16 Tryd.underlying82 hi0 hz0 hz1 hz3 rfl (by omega) v l.length (strV l) hs (M.owns_alloc hown _) (some ⟨w.heap.size, 0, none⟩) 1 1 [.string t] hx rfl (fun j' u hu => ⟨_, rfl, World.news_of_block (cs := #[.string t]) (t := 9) (fr := (0, 0)) (heap_alloc_new w _) j' u hu⟩) (by simp [Value.oneCell']) (by unfold maxLen; omega) (by omega) (by simp; omega) ?_
  intro a' c' w' ho' hb'
  refine h a' c' w' ?_ (((Below.refl _ w).alloc hbase _).trans hb')
  unfold OwnS
  rw [List.length_append, strV_append]
  exact ho'

set_option maxRecDepth 100000 in
set_option maxHeartbeats 16000000 in
theorem rline_any (w : World) (kk : Nat) (hk10 : kk < 10) (lb ky fn : Tok) (pr : Bool) (aw : Option Addr) (nw cw : Nat) (ap : Option Addr) (np cp : Nat) (ws ps : List Tok) (hlw : ws.length = nw) (hlp : ps.length = np) (hnw : nw ≤ 1048576) (hnp : np ≤ 1048576) (hT : ToksAt w aw ws) (hP : ToksAt w ap ps) :
    Calls Tryd.prog 30 #[.agg (stmA (kk : Int) lb ky fn pr (.slice aw nw cw) (.slice ap np cp))] w fun e w' => Below w.heap.size w w' ∧ ∃ v, e = .returned v ∧ OwnS w' w.heap.size v (lineW kk lb ws ps) := by
  unfold stmA
  have hk0 : (0 : Int) ≤ (kk : Int) := by omega
  have hk11 : (kk : Int) < 10 := by omega
  obtain ⟨w1, hw1⟩ : ∃ w1, w1 = w.alloc (.cells (stmA (kk : Int) lb ky fn pr (.slice aw nw cw) (.slice ap np cp)) 36) := ⟨_, rfl⟩
  obtain ⟨w2, hw2⟩ : ∃ w2, w2 = w1.alloc (.cells #[.string ⟨#[]⟩, .string ⟨#[36, 99]⟩, .string ⟨#[36, 118]⟩, .string ⟨#[36, 102]⟩, .string ⟨#[36, 101]⟩, .string ⟨#[36, 100]⟩, .string ⟨#[36, 97]⟩, .string ⟨#[36, 112]⟩, .string ⟨#[36, 123]⟩, .string ⟨#[36, 125]⟩] 9) := ⟨_, rfl⟩
  have b1 : Below w.heap.size w w1 := by rw [hw1]; exact below_alloc _ _
  have b2 : Below w1.heap.size w1 w2 := by rw [hw2]; exact below_alloc _ _
  have hk1 : w1.heap[w.heap.size]? = some (.cells (stmA (kk : Int) lb ky fn pr (.slice aw nw cw) (.slice ap np cp)) 36 (0, 0)) := by rw [hw1]; exact heap_alloc_new w _
  have hk2 : w2.heap[w1.heap.size]? = some (.cells #[.string ⟨#[]⟩, .string ⟨#[36, 99]⟩, .string ⟨#[36, 118]⟩, .string ⟨#[36, 102]⟩, .string ⟨#[36, 101]⟩, .string ⟨#[36, 100]⟩, .string ⟨#[36, 97]⟩, .string ⟨#[36, 112]⟩, .string ⟨#[36, 123]⟩, .string ⟨#[36, 125]⟩] 9 (0, 0)) := by rw [hw2]; exact heap_alloc_new w1 _
  obtain ⟨B, hB⟩ : ∃ B, w.heap.size = B := ⟨_, rfl⟩
  obtain ⟨D, hD⟩ : ∃ D, w1.heap.size = D := ⟨_, rfl⟩
  rw [hB] at hk1
  rw [hD] at hk2
  have hk12 := (b2.block B (Array.getElem?_eq_some_iff.1 hk1).1).trans hk1
  have B2 : Hid (Below w.heap.size w w2) := b1.trans (b2.mono b1.size)
  have XX : Hid (∀ wx, Below w2.heap.size w2 wx → wx.heap[B]? = some (.cells (stmA (kk : Int) lb ky fn pr (.slice aw nw cw) (.slice ap np cp)) 36 (0, 0)) ∧ wx.cell? ⟨D, kk, none⟩ = some (.string (kwB kk))) := fun wx hx => ⟨(hx.block B (Array.getElem?_eq_some_iff.1 hk12).1).trans hk12, by
    have h := (hx.block D (Array.getElem?_eq_some_iff.1 hk2).1).trans hk2
    rw [M.cell_whole h kk]
    rcases ten hk10 with rfl | rfl | rfl | rfl | rfl | rfl | rfl | rfl | rfl | rfl <;> rfl⟩
  have TW : Hid (∀ wx, Below w2.heap.size w2 wx → ToksAt wx aw ws ∧ ToksAt wx ap ps) := fun wx hx => ⟨hT.under (B2.out.trans (hx.mono B2.out.size)), hP.under (B2.out.trans (hx.mono B2.out.size))⟩
  have LB : Hid (∀ wx, Calls Tryd.prog 48 #[.int .i64 (kk : Int)] wx fun e w' => e = .returned (.bool (labB kk)) ∧ w' = wx) := fun wx => rlab_any wx kk hk10
  have BK : Hid (∀ wx, Calls Tryd.prog 53 #[.int .i64 (kk : Int)] wx fun e w' => e = .returned (.bool (brkB kk)) ∧ w' = wx) := fun wx => rbrk_any wx kk hk10
  have HW1 : Hid (w.alloc (.cells #[.int .i64 (kk : Int), .string lb.text, .int .i64 lb.off, .int .i64 lb.line, .int .i64 lb.col, .string ky.text, .int .i64 ky.off, .int .i64 ky.line, .int .i64 ky.col, .bool pr, .slice aw nw cw, .slice ap np cp, .string fn.text, .int .i64 fn.off, .int .i64 fn.line, .int .i64 fn.col] 36) = w1) := hw1.symm
  have HW2 : Hid (w1.alloc (.cells #[.string ⟨#[]⟩, .string ⟨#[36, 99]⟩, .string ⟨#[36, 118]⟩, .string ⟨#[36, 102]⟩, .string ⟨#[36, 101]⟩, .string ⟨#[36, 100]⟩, .string ⟨#[36, 97]⟩, .string ⟨#[36, 112]⟩, .string ⟨#[36, 123]⟩, .string ⟨#[36, 125]⟩] 9) = w2) := hw2.symm
  have HBe : Hid (w.heap.size = B) := hB
  have HDe : Hid (w1.heap.size = D) := hD
  have HLW : Hid (ws.length = nw) := hlw
  have HLP : Hid (ps.length = np) := hlp
  clear hw1 hw2 b1 b2 hk1 hk2 hk12 hB hD hT hP hlw hlp
  go_enter Tryd.func30, Tryd.ntmps30
  go_upto_region 1 with fail
  rw [HW1.out, HBe.out]
  go_upto_region 2 with fail
  rw [HW2.out, HDe.out]
  clear HW1 HW2 HDe
  go_upto_region 3 with fail
  have x0 : w2.cell? ⟨B, 0, none⟩ = some (.int .i64 (kk : Int)) := M.cell_whole (XX.out w2 (Below.refl _ _)).1 0
  have x1 : w2.cell? ⟨B, 1, none⟩ = some (.string lb.text) := M.cell_whole (XX.out w2 (Below.refl _ _)).1 1
  go_wp2_with fail
  refine Calls.mono (LB.out w2) ?_
  rintro e wx ⟨rfl, hwx⟩
  subst wx
  obtain ⟨N2, hN2⟩ : ∃ N2, w2.heap.size = N2 := ⟨_, rfl⟩
  have HN2 : Hid (w2.heap.size = N2) := hN2
  have HBN : Hid (w.heap.size ≤ N2) := by have h := B2.out.size; show _ ≤ _; omega
  have OW : Hid (OwnS w2 N2 (.slice none 0 0) []) := World.ownsRow_nil _ _ _ _
  have HLN : Hid (([] : List ByteArray).length ≤ 16777216) := Nat.zero_le _
  have HBS : Hid (N2 ≤ w2.heap.size) := Nat.le_of_eq hN2.symm
  have HBP : Hid (Below N2 w2 w2) := Below.refl _ _
  clear hN2
  go_upto_if 10 with fail
  go_cut [4] (fun v4 wx => Hid (OwnS wx N2 v4 (if labB kk then [lb.text] else [])) ∧ Hid (Below N2 w2 wx))
  case first => as_aux_lemma =>
    cases hlab : labB kk with
    | true =>
      have HLB : Hid (labB kk = true) := hlab
      clear hlab
      go_wp2_with (at_builtin; (refine push_word w2 rfl _ _ rfl N2 _ ([]) lb.text (by rfl) OW.out (by rfl) HLN.out HBS.out ?_; intro a4 c4 w4 ho4 hb4; have HO4 : Hid (OwnS w4 N2 (.slice a4 (([]).length + 1) c4) (([]) ++ [lb.text])) := ho4; have HB4 : Hid (Below N2 w2 w4) := HBP.out.trans hb4; clear ho4 hb4))
      go_meet
      exact ⟨(by show OwnS _ _ _ _; rw [HLB.out, if_pos rfl]; exact HO4.out), HB4.out⟩
    | false =>
      have HLB : Hid (labB kk = false) := hlab
      clear hlab
      go_wp2_with fail
      go_meet
      exact ⟨(by show OwnS _ _ _ _; rw [HLB.out, if_neg (by simp)]; exact World.ownsRow_nil _ _ _ _), Below.refl _ _⟩
  case rest =>
    clear OW HLN HBS HBP x0 x1
    obtain ⟨hO0, HBP⟩ := hcut
    obtain ⟨L0, hL0⟩ : ∃ L0, L0 = (if labB kk then [lb.text] else []) := ⟨_, rfl⟩
    have HL0 : Hid (L0 = (if labB kk then [lb.text] else [])) := hL0
    have hl0 : L0.length ≤ 1 := by rw [hL0]; split <;> simp
    obtain ⟨w3, hw3⟩ : ∃ w3, w3 = wc := ⟨_, rfl⟩
    subst hw3
    have OW : Hid (OwnS w3 N2 u4 L0) := by show OwnS _ _ _ _; rw [hL0]; exact hO0.out
    have HLN : Hid (L0.length ≤ 16777216) := by show _ ≤ _; omega
    have HBS : Hid (N2 ≤ w3.heap.size) := by have h1 := HBP.out.size; have h2 := HN2.out; show N2 ≤ _; omega
    have BX : Hid (Below w2.heap.size w2 w3) := by rw [HN2.out]; exact HBP.out
    have y0 : w3.cell? ⟨B, 0, none⟩ = some (.int .i64 (kk : Int)) := M.cell_whole (XX.out w3 BX.out).1 0
    have yk : w3.cell? ⟨D, kk, none⟩ = some (.string (kwB kk)) := (XX.out w3 BX.out).2
    have HLL : Hid ((L0 ++ [kwB kk]).length ≤ 2) := by show _ ≤ _; simp; omega
    clear hO0 hL0
    go_upto_region 6 with (at_builtin; (refine push_word w3 rfl _ _ rfl N2 _ (L0) (kwB kk) (by rfl) OW.out (by rfl) HLN.out HBS.out ?_; intro a5 c5 w5 ho5 hb5; have HO5 : Hid (OwnS w5 N2 (.slice a5 ((L0).length + 1) c5) ((L0) ++ [(kwB kk)])) := ho5; have HB5 : Hid (Below N2 w2 w5) := HBP.out.trans hb5; clear ho5 hb5))
    clear OW HLN HBS BX y0 yk HBP
    have OWL : Hid (OwnS w5 N2 (.slice a5 (L0.length + 1) c5) (L0 ++ [kwB kk])) := HO5.out
    have HBL : Hid (Below N2 w2 w5) := HB5.out
    clear HO5 HB5
    go_wp2_with fail
    go_loopw [4, 5] (fun v4 i wx => ∃ j : Nat, j ≤ nw ∧ i = .int .i64 j ∧ Hid (OwnS wx N2 v4 (L0 ++ [kwB kk] ++ textsL (ws.take j))) ∧ Hid (Below N2 w2 wx)) (fun _ i _ => nw - (intOf i).toNat)
    case atStart => exact ⟨0, Nat.zero_le _, rfl, (by show OwnS _ _ _ _; rw [show L0 ++ [kwB kk] ++ textsL (ws.take 0) = L0 ++ [kwB kk] by simp [textsL]]; exact OWL.out), HBL.out⟩
    case round =>
      obtain ⟨j, hj, rfl, OW, HBP⟩ := hrel
      have BX : Hid (Below w2.heap.size w2 wr) := by rw [HN2.out]; exact HBP.out
      have HBS : Hid (N2 ≤ wr.heap.size) := by have h1 := HBP.out.size; have h2 := HN2.out; show N2 ≤ _; omega
      have yF : wr.cell? ⟨B, 10, none⟩ = some (.slice aw nw cw) := M.cell_whole (XX.out wr BX.out).1 10
      by_cases hlt : j < nw
      · have n1 : (j : Int) < (nw : Int) := by omega
        obtain ⟨k, hk⟩ : ∃ k, ws[j]? = some k := ⟨ws[j]'(by rw [HLW.out]; exact hlt), List.getElem?_eq_getElem _⟩
        obtain ⟨gT, oT, hax, t0, _, _, _⟩ := (TW.out wr BX.out).1 j k hk
        obtain ⟨Lj, hLj⟩ : ∃ Lj, Lj = L0 ++ [kwB kk] ++ textsL (ws.take j) := ⟨_, rfl⟩
        have HE : Hid (L0 ++ [kwB kk] ++ textsL (ws.take (j + 1)) = Lj ++ [k.text]) := by show _ = _; rw [hLj, textsL_step hk, List.append_assoc, List.append_assoc, List.append_assoc]
        have OWJ : Hid (OwnS wr N2 u4 Lj) := by show OwnS _ _ _ _; rw [hLj]; exact OW.out
        have HLN : Hid (Lj.length ≤ 16777216) := by
          show _ ≤ _
          rw [hLj, List.length_append, textsL_len, List.length_take]
          have := HLL.out
          omega
        subst hax
        clear hk BX hLj
        go_wp2_with (at_builtin; (refine push_word wr rfl _ _ rfl N2 _ (Lj) k.text (by rfl) OWJ.out (by rfl) HLN.out HBS.out ?_; intro a6 c6 w6 ho6 hb6; have HO6 : Hid (OwnS w6 N2 (.slice a6 ((Lj).length + 1) c6) ((Lj) ++ [k.text])) := ho6; have HB6 : Hid (Below N2 w2 w6) := HBP.out.trans hb6; clear ho6 hb6))
        exact ⟨⟨j + 1, by omega, by go_num, (by show OwnS _ _ _ _; rw [HE.out]; have h := HO6.out; exact h), HB6.out⟩, by simp [intOf]; omega⟩
      · have n1 : ¬ (j : Int) < (nw : Int) := by omega
        have OWE : Hid (OwnS wr N2 u4 (L0 ++ [kwB kk] ++ textsL ws)) := by have h := OW.out; rw [List.take_of_length_le (by rw [HLW.out]; omega)] at h; exact h
        clear OW
        obtain ⟨w6, hw6⟩ : ∃ w6, w6 = wr := ⟨_, rfl⟩
        subst hw6
        have y0 : w6.cell? ⟨B, 0, none⟩ = some (.int .i64 (kk : Int)) := M.cell_whole (XX.out w6 BX.out).1 0
        obtain ⟨L2, hL2⟩ : ∃ L2, L2 = L0 ++ [kwB kk] ++ textsL ws := ⟨_, rfl⟩
        have HL2 : Hid (L2 = L0 ++ [kwB kk] ++ textsL ws) := hL2
        have HLN : Hid (L2.length ≤ 16777216) := by show _ ≤ _; rw [hL2, List.length_append, textsL_len, HLW.out]; have := HLL.out; omega
        have HLL2 : Hid ((L2 ++ [proofS]).length ≤ 2097152) := by show _ ≤ _; rw [List.length_append, hL2, List.length_append, textsL_len, HLW.out]; have := HLL.out; simp; omega
        have OW : Hid (OwnS w6 N2 u4 L2) := by show OwnS _ _ _ _; rw [hL2]; exact OWE.out
        clear OWE hL2 OWL HBL
        go_upto_if 43 with fail
        clear yF
        go_cut [4, 6] (fun v4 _ wx => Hid (OwnS wx N2 v4 (L2 ++ (if kk = 7 then proofS :: textsL ps else []))) ∧ Hid (Below N2 w2 wx))
        case first => as_aux_lemma =>
          by_cases h7 : kk = 7
          · subst h7
            have e7 : (((7 : Nat) : Int) == 7) = true := by decide
            go_upto_region 12 with (at_builtin; (refine push_word w6 rfl _ _ rfl N2 _ (L2) proofS (by rfl) OW.out (by rfl) HLN.out HBS.out ?_; intro a7 c7 w7 ho7 hb7; have HO7 : Hid (OwnS w7 N2 (.slice a7 ((L2).length + 1) c7) ((L2) ++ [proofS])) := ho7; have HB7 : Hid (Below N2 w2 w7) := HBP.out.trans hb7; clear ho7 hb7))
            clear OW HLN HBS BX y0 HBP
            have OWL : Hid (OwnS w7 N2 (.slice a7 (L2.length + 1) c7) (L2 ++ [proofS])) := HO7.out
            have HBL : Hid (Below N2 w2 w7) := HB7.out
            have HLL : Hid ((L2 ++ [proofS]).length ≤ 2097152) := HLL2.out
            clear HO7 HB7 HLL2
            go_wp2_with fail
            go_loopw [4, 6] (fun v4 i wx => ∃ j : Nat, j ≤ np ∧ i = .int .i64 j ∧ Hid (OwnS wx N2 v4 (L2 ++ [proofS] ++ textsL (ps.take j))) ∧ Hid (Below N2 w2 wx)) (fun _ i _ => np - (intOf i).toNat)
            case atStart => exact ⟨0, Nat.zero_le _, rfl, (by show OwnS _ _ _ _; rw [show L2 ++ [proofS] ++ textsL (ps.take 0) = L2 ++ [proofS] by simp [textsL]]; exact OWL.out), HBL.out⟩
            case round =>
              obtain ⟨j, hj, rfl, OW, HBP⟩ := hrel
              have BX : Hid (Below w2.heap.size w2 wr) := by rw [HN2.out]; exact HBP.out
              have HBS : Hid (N2 ≤ wr.heap.size) := by have h1 := HBP.out.size; have h2 := HN2.out; show N2 ≤ _; omega
              have yF : wr.cell? ⟨B, 11, none⟩ = some (.slice ap np cp) := M.cell_whole (XX.out wr BX.out).1 11
              by_cases hlt : j < np
              · have n1 : (j : Int) < (np : Int) := by omega
                obtain ⟨k, hk⟩ : ∃ k, ps[j]? = some k := ⟨ps[j]'(by rw [HLP.out]; exact hlt), List.getElem?_eq_getElem _⟩
                obtain ⟨gT, oT, hax, t0, _, _, _⟩ := (TW.out wr BX.out).2 j k hk
                obtain ⟨Lj, hLj⟩ : ∃ Lj, Lj = L2 ++ [proofS] ++ textsL (ps.take j) := ⟨_, rfl⟩
                have HE : Hid (L2 ++ [proofS] ++ textsL (ps.take (j + 1)) = Lj ++ [k.text]) := by show _ = _; rw [hLj, textsL_step hk, List.append_assoc, List.append_assoc, List.append_assoc]
                have OWJ : Hid (OwnS wr N2 u4 Lj) := by show OwnS _ _ _ _; rw [hLj]; exact OW.out
                have HLN : Hid (Lj.length ≤ 16777216) := by
                  show _ ≤ _
                  rw [hLj, List.length_append, textsL_len, List.length_take]
                  have := HLL.out
                  omega
                subst hax
                clear hk BX hLj
                go_wp2_with (at_builtin; (refine push_word wr rfl _ _ rfl N2 _ (Lj) k.text (by rfl) OWJ.out (by rfl) HLN.out HBS.out ?_; intro a6 c6 w6 ho6 hb6; have HO6 : Hid (OwnS w6 N2 (.slice a6 ((Lj).length + 1) c6) ((Lj) ++ [k.text])) := ho6; have HB6 : Hid (Below N2 w2 w6) := HBP.out.trans hb6; clear ho6 hb6))
                exact ⟨⟨j + 1, by omega, by go_num, (by show OwnS _ _ _ _; rw [HE.out]; have h := HO6.out; exact h), HB6.out⟩, by simp [intOf]; omega⟩
              · have n1 : ¬ (j : Int) < (np : Int) := by omega
                have OWE : Hid (OwnS wr N2 u4 (L2 ++ [proofS] ++ textsL ps)) := by have h := OW.out; rw [List.take_of_length_le (by rw [HLP.out]; omega)] at h; exact h
                clear OW
                go_wp2_with fail
                go_meet
                exact ⟨(by show OwnS _ _ _ _; first | rw [if_pos rfl] | rw [if_pos trivial]; have h := OWE.out; rw [List.append_assoc] at h; exact h), HBP.out⟩
          · have e7 : ((kk : Int) == 7) = false := by simp; omega
            go_wp2_with fail
            go_meet
            exact ⟨(by show OwnS _ _ _ _; rw [if_neg h7, List.append_nil]; exact OW.out), HBP.out⟩
        case rest =>
          obtain ⟨hO8, HBP8⟩ := hcut
          obtain ⟨w8, hw8⟩ : ∃ w8, w8 = wc := ⟨_, rfl⟩
          subst hw8
          obtain ⟨L3, hL3⟩ : ∃ L3, L3 = L2 ++ (if kk = 7 then proofS :: textsL ps else []) := ⟨_, rfl⟩
          have HL3 : Hid (L3 = L2 ++ (if kk = 7 then proofS :: textsL ps else [])) := hL3
          clear OW HLN HBS BX y0 HBP
          have OW : Hid (OwnS w8 N2 u4 L3) := by show OwnS _ _ _ _; rw [hL3]; exact hO8.out
          have HLN : Hid (L3.length ≤ 16777216) := by
            show _ ≤ _
            have h := HLL2.out
            rw [List.length_append] at h
            rw [hL3, List.length_append]
            split
            · rw [List.length_cons, textsL_len, HLP.out]; simp at h; omega
            · simp at h ⊢; omega
          have HBS : Hid (N2 ≤ w8.heap.size) := by have h1 := HBP8.out.size; have h2 := HN2.out; show N2 ≤ _; omega
          have BX : Hid (Below w2.heap.size w2 w8) := by rw [HN2.out]; exact HBP8.out
          have y0 : w8.cell? ⟨B, 0, none⟩ = some (.int .i64 (kk : Int)) := M.cell_whole (XX.out w8 BX.out).1 0
          have HEW : Hid (lineW kk lb ws ps = L3 ++ (if brkB kk then [] else [endS])) := by
            show _ = _
            rw [HL3.out, HL2.out, HL0.out]
            rfl
          have HFB : Hid (Below w.heap.size w w8) := B2.out.trans (BX.out.mono B2.out.size)
          clear hO8 hL3 HLL2
          have BKx : Hid _ := BK.out w8
          cases hbr : brkB kk with
          | true =>
            rw [hbr] at BKx
            have HBR : Hid (brkB kk = true) := hbr
            clear hbr
            go_wp2_with fail
            refine Calls.mono BKx.out ?_
            rintro e wx ⟨rfl, hwx⟩
            subst wx
            go_wp2
            go_ret
            refine ⟨HFB.out, _, rfl, ?_⟩
            rw [HEW.out, HBR.out, if_pos rfl, List.append_nil]
            exact M.owns_mono OW.out HBN.out
          | false =>
            rw [hbr] at BKx
            have HBR : Hid (brkB kk = false) := hbr
            clear hbr
            go_wp2_with fail
            refine Calls.mono BKx.out ?_
            rintro e wx ⟨rfl, hwx⟩
            subst wx
            go_wp2_with (at_builtin; (refine push_word w8 rfl _ _ rfl N2 _ (L3) endS (by rfl) OW.out (by rfl) HLN.out HBS.out ?_; intro a9 c9 w9 ho9 hb9; have HO9 : Hid (OwnS w9 N2 (.slice a9 ((L3).length + 1) c9) ((L3) ++ [endS])) := ho9; have HB9 : Hid (Below N2 w2 w9) := HBP8.out.trans hb9; clear ho9 hb9))
            go_ret
            refine ⟨B2.out.trans (HB9.out.mono HBN.out), _, rfl, ?_⟩
            rw [HEW.out, HBR.out, if_neg (by simp)]
            have h := M.owns_mono HO9.out HBN.out
            exact h
end Go.Proofs.YtipfhfeaalbmcaaDoor
