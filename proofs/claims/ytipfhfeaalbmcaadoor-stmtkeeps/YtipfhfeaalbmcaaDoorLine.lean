/- head, line: a statement laid down on a page. -/
import Derived.Test.YtipfhfeaalbmcaaDoorMade
namespace Go.Proofs.YtipfhfeaalbmcaaDoor
open Go.RowKit

theorem kw_small : ∀ k, k < 10 → (kwB k).size ≤ 1048576 := by decide
/-- The words of a statement's head, each with what stands behind it. -/
def headP (kk : Nat) (lb : Tok) (ws : List Tok) : List (ByteArray × UInt8) := (if labB kk then [(lb.text, 32)] else []) ++ (kwB kk, 32) :: wordsP ws
def endS : ByteArray := ⟨#[36, 46]⟩
def proofS : ByteArray := ⟨#[36, 61]⟩
def lineP (kk : Nat) (lb : Tok) (ws ps : List Tok) : List (ByteArray × UInt8) :=
  if kk = 8 ∨ kk = 9 then [(kwB kk, 10)] else if kk = 7 then headP kk lb ws ++ (proofS, 32) :: wordsP ps ++ [(endS, 10)] else headP kk lb ws ++ [(endS, 10)]

set_option maxRecDepth 100000 in
set_option maxHeartbeats 8000000 in
theorem head_any (w : World) (P : Nat) (v : Value) (s : Pst) (g : Nat) (kk : Nat) (hk : kk < 10) (lb ky : Tok) (aw : Option Addr) (nw cw : Nat) (ws : List Tok) (hlw : ws.length = nw) (hnw : nw ≤ 1048576) (hsw : ∀ t ∈ ws, t.text.size ≤ 1048576) (hsl : lb.text.size ≤ 1048576) (h : PageAt w P v s) (hSh : ShapesAt w)
    (hG : ∀ w' v', Pg P w v w' v' → ∀ i u, (clauseC (kk : Int) lb ky (.slice aw nw cw))[i]? = some u → w'.cell? ⟨g, i, none⟩ = some u) (hT : ∀ w' v', Pg P w v w' v' → ToksAt w' aw ws) :
    Calls Tryd.prog 60 #[.pointer (some ⟨P, 0, none⟩), .pointer (some ⟨g, 0, none⟩)] w fun e w' => e = .returned (.tuple #[]) ∧ ∃ v', PageAt w' P v' (runP s (headP kk lb ws)) ∧ Pg P w v w' v' := by
  have hk0 : (0 : Int) ≤ (kk : Int) := by omega
  have hk11 : (kk : Int) < 10 := by omega
  obtain ⟨s0, s1, s2, s3⟩ := hSh kk hk
  have g0 : w.cell? ⟨g, 0, none⟩ = some (.int .i64 (kk : Int)) := hG w v (Pg.refl _ _ _) 0 _ rfl
  obtain ⟨w1, hw1⟩ : ∃ w1, w1 = w.alloc (.cells #[.string (kwB kk), .bool (labB kk), .int .i64 (lstI kk), .int .i64 (mstI kk)] 113) := ⟨_, rfl⟩
  have hb1 : Below w.heap.size w w1 := by rw [hw1]; exact below_alloc _ _
  have hk1 : w1.heap[w.heap.size]? = some (.cells #[.string (kwB kk), .bool (labB kk), .int .i64 (lstI kk), .int .i64 (mstI kk)] 113 (0, 0)) := by rw [hw1]; exact heap_alloc_new w _
  obtain ⟨B, hB⟩ : ∃ B, w.heap.size = B := ⟨_, rfl⟩
  rw [hB] at hk1
  have G1 : Hid (Pg P w v w1 v) := Pg.of_below hb1
  have A1 : Hid (PageAt w1 P v s) := h.down hb1
  have HW1 : Hid (w.alloc (.cells #[.string (kwB kk), .bool (labB kk), .int .i64 (lstI kk), .int .i64 (mstI kk)] 113) = w1) := hw1.symm
  have HBe : Hid (w.heap.size = B) := hB
  have BX : Hid (∀ w' v', Pg P w1 v w' v' → w'.cell? ⟨B, 0, none⟩ = some (.string (kwB kk))) := fun w' v' hx => by
    have hlt := (Array.getElem?_eq_some_iff.1 hk1).1
    have h1 := (hx.ch.block B hlt (fun e => e.elim (fun e => by have h1 := h.lt; omega) (fun e => by have h1 := M.own_lt h.own B e; omega))).trans hk1
    exact M.cell_whole h1 0
  have x1 : w1.cell? ⟨B, 1, none⟩ = some (.bool (labB kk)) := M.cell_whole hk1 1
  have CG : Hid _ := hG
  have CT : Hid _ := hT
  have HLW : Hid (ws.length = nw) := hlw
  have HSW : Hid _ := hsw
  have HKW : Hid ((kwB kk).size ≤ 1048576) := kw_small kk hk
  clear hw1 hb1 hk1 hB hG hT hlw hsw h hSh
  go_enter Tryd.func60, Tryd.ntmps60
  go_upto_region 1 with fail
  rw [HW1.out, HBe.out]
  clear HW1 HBe s0 s1 s2 s3 g0
  go_upto_if 12 with fail
  go_cut [19] (fun _ wx => ∃ v2, Hid (PageAt wx P v2 (runP s (if labB kk then [(lb.text, 32)] else []))) ∧ Hid (Pg P w1 v wx v2))
  case first =>
    cases hlab : labB kk with
    | true =>
      have t1 : w1.cell? ⟨g, 1, none⟩ = some (.string lb.text) := CG.out w1 v G1.out 1 _ rfl
      have PU : Hid _ := put_any w1 P v s lb.text 32 32 rfl A1.out hsl
      have HLB : Hid (labB kk = true) := hlab
      clear hlab
      go_wp2_with fail
      refine Calls.mono PU.out ?_
      rintro e w2 ⟨rfl, v2, hA2, hG2⟩
      have A2 : Hid (PageAt w2 P v2 (runP s [(lb.text, 32)])) := hA2
      have G2 : Hid (Pg P w1 v w2 v2) := hG2
      clear PU hA2 hG2
      go_wp2_with fail
      go_meet
      exact ⟨v2, (by show PageAt _ _ _ _; rw [HLB.out, if_pos rfl]; exact A2.out), G2.out⟩
    | false =>
      have HLB : Hid (labB kk = false) := hlab
      clear hlab
      go_wp2_with fail
      go_meet
      exact ⟨v, (by show PageAt _ _ _ _; rw [HLB.out, if_neg (by simp)]; exact A1.out), Pg.refl _ _ _⟩
  case rest =>
    obtain ⟨v2, hA2, hG2⟩ := hcut
    obtain ⟨w2, hw2⟩ : ∃ w2, w2 = wc := ⟨_, rfl⟩
    subst hw2
    have z0 : w2.cell? ⟨B, 0, none⟩ = some (.string (kwB kk)) := BX.out w2 v2 hG2.out
    have PU : Hid _ := put_any w2 P v2 _ (kwB kk) 32 32 rfl hA2.out HKW.out
    go_wp2_with fail
    refine Calls.mono PU.out ?_
    rintro e w3 ⟨rfl, v3, hA3, hG3⟩
    have A3 : Hid (PageAt w3 P v3 (runP s ((if labB kk then [(lb.text, 32)] else []) ++ [(kwB kk, 32)]))) := by
      show PageAt _ _ _ _
      rw [runP_append]
      exact hA3
    have G3 : Hid (Pg P w v w3 v3) := G1.out.trans (hG2.out.trans hG3)
    have q9 : w3.cell? ⟨g, 9, none⟩ = some (.slice aw nw cw) := CG.out w3 v3 G3.out 9 _ rfl
    have AL : Hid _ := pall_any w3 P v3 _ aw nw cw ws HLW.out hnw HSW.out A3.out (fun w' v' hx => CT.out w' v' (G3.out.trans hx))
    clear PU hA3 hG3 z0
    go_wp2_with fail
    refine Calls.mono AL.out ?_
    rintro e w4 ⟨rfl, v4, hA4, hG4⟩
    have A4 : Hid (PageAt w4 P v4 (runP s (headP kk lb ws))) := by
      show PageAt _ _ _ _
      have h := hA4
      rw [← runP_append, List.append_assoc] at h
      exact h
    have G4 : Hid (Pg P w v w4 v4) := G3.out.trans hG4
    clear AL hA4 hG4 q9
    go_wp2
    go_end0
    exact ⟨rfl, v4, A4.out, G4.out⟩

theorem clause_in (k : Int) (lb ky : Tok) (wd pf : Value) (i : Nat) (u : Value) (h : (clauseC k lb ky wd)[i]? = some u) : (theoremC k lb ky wd pf)[i]? = some u := by
  have hi : i < 14 := (Array.getElem?_eq_some_iff.1 h).1
  rw [← h]
  match i, hi with
  | 0, _ => rfl
  | 1, _ => rfl
  | 2, _ => rfl
  | 3, _ => rfl
  | 4, _ => rfl
  | 5, _ => rfl
  | 6, _ => rfl
  | 7, _ => rfl
  | 8, _ => rfl
  | 9, _ => rfl
  | 10, _ => rfl
  | 11, _ => rfl
  | 12, _ => rfl
  | 13, _ => rfl

set_option maxRecDepth 100000 in
set_option maxHeartbeats 8000000 in
theorem line_any (w : World) (P : Nat) (v : Value) (s : Pst) (N : Nat) (st : Value) (kk : Nat) (hk : kk < 10) (lb ky : Tok) (aw : Option Addr) (nw cw : Nat) (ap : Option Addr) (np cp : Nat) (ws ps : List Tok) (hlw : ws.length = nw) (hnw : nw ≤ 1048576) (hsw : ∀ t ∈ ws, t.text.size ≤ 1048576) (hlp : ps.length = np) (hnp : np ≤ 1048576) (hsp : ∀ t ∈ ps, t.text.size ≤ 1048576) (hsl : lb.text.size ≤ 1048576) (h : PageAt w P v s) (hSh : ShapesAt w)
    (hH : Holds w N st (kk : Int) lb ky (.slice aw nw cw) (.slice ap np cp)) (hfree : ∀ g, N ≤ g → g ≠ P ∧ v.ownBlock ≠ some g) (hT : ∀ w' v', Pg P w v w' v' → ToksAt w' aw ws ∧ ToksAt w' ap ps) :
    Calls Tryd.prog 33 #[.pointer (some ⟨P, 0, none⟩), st] w fun e w' => e = .returned (.tuple #[]) ∧ ∃ v', PageAt w' P v' (runP s (lineP kk lb ws ps)) ∧ Pg P w v w' v' := by
  have hk0 : (0 : Int) ≤ (kk : Int) := by omega
  have hk11 : (kk : Int) < 10 := by omega
  obtain ⟨s0, s1, s2, s3⟩ := hSh kk hk
  obtain ⟨g, hg0, hg1, hcase⟩ := hH
  have GS : Hid (∀ w' v', Pg P w v w' v' → w'.heap[g]? = w.heap[g]?) := fun w' v' hx => hx.ch.block g hg1 fun e => e.elim (hfree g hg0).1 (hfree g hg0).2
  have KW : Hid ((kwB kk).size ≤ 1048576) := kw_small kk hk
  have HT : Hid _ := hT
  have HA : Hid (PageAt w P v s) := h
  rcases hcase with ⟨h89, rfl, hbk⟩ | ⟨h7, rfl, hbk⟩ | ⟨h7, h8, h9, rfl, hbk⟩
  · have a1 := as123_123
    have g0 : w.cell? ⟨g, 0, none⟩ = some (.int .i64 (kk : Int)) := M.cell_whole hbk 0
    have PU : Hid _ := put_any w P v s (kwB kk) 10 10 rfl h KW.out
    have HE : Hid (lineP kk lb ws ps = [(kwB kk, 10)]) := if_pos (by omega)
    clear hbk h89 h hT hSh hlw hsw hlp hsp hfree s1 s2 s3
    go_enter Tryd.func33, Tryd.ntmps33
    go_wp2_with fail
    refine Calls.mono PU.out ?_
    rintro e w1 ⟨rfl, v1, hA1, hG1⟩
    have A1 : Hid (PageAt w1 P v1 (runP s (lineP kk lb ws ps))) := by show PageAt _ _ _ _; rw [HE.out]; exact hA1
    have G1 : Hid (Pg P w v w1 v1) := hG1
    clear PU hA1 hG1
    go_wp2
    go_end0
    exact ⟨rfl, v1, A1.out, G1.out⟩
  · have a1 := as116_123
    have a2 := as116_121
    have a3 := as116_116
    have h7n : kk = 7 := by omega
    subst h7n
    have HBK : Hid (w.heap[g]? = some (.cells (theoremC ((7 : Nat) : Int) lb ky (.slice aw nw cw) (.slice ap np cp)) 120 (0, 0))) := hbk
    have HD : Hid _ := head_any w P v s g 7 (by omega) lb ky aw nw cw ws hlw hnw hsw hsl h hSh (fun w' v' hx i u hi => by have h1 := (GS.out w' v' hx).trans HBK.out; rw [M.cell_whole h1 i]; exact clause_in _ _ _ _ _ _ _ hi) (fun w' v' hx => (HT.out w' v' hx).1)
    have HLP : Hid (ps.length = np) := hlp
    have HSP : Hid _ := hsp
    clear hbk h7 h hT hSh hlw hsw hlp hsp hfree s0 s1 s2 s3
    go_enter Tryd.func33, Tryd.ntmps33
    go_wp2_with fail
    refine Calls.mono HD.out ?_
    rintro e w1 ⟨rfl, v1, hA1, hG1⟩
    have G1 : Hid (Pg P w v w1 v1) := hG1
    have PU : Hid _ := put_any w1 P v1 _ proofS 32 32 rfl hA1 (by decide)
    clear HD hA1 hG1
    go_wp2_with fail
    refine Calls.mono PU.out ?_
    rintro e w2 ⟨rfl, v2, hA2, hG2⟩
    have G2 : Hid (Pg P w v w2 v2) := G1.out.trans hG2
    have q15 : w2.cell? ⟨g, 15, none⟩ = some (.slice ap np cp) := M.cell_whole ((GS.out w2 v2 G2.out).trans HBK.out) 15
    have AL : Hid _ := pall_any w2 P v2 _ ap np cp ps HLP.out hnp HSP.out hA2 (fun w' v' hx => (HT.out w' v' (G2.out.trans hx)).2)
    clear PU hA2 hG2
    go_wp2_with fail
    refine Calls.mono AL.out ?_
    rintro e w3 ⟨rfl, v3, hA3, hG3⟩
    have G3 : Hid (Pg P w v w3 v3) := G2.out.trans hG3
    have PV : Hid _ := put_any w3 P v3 _ endS 10 10 rfl hA3 (by decide)
    clear AL hA3 hG3 q15
    go_wp2_with fail
    refine Calls.mono PV.out ?_
    rintro e w4 ⟨rfl, v4, hA4, hG4⟩
    have G4 : Hid (Pg P w v w4 v4) := G3.out.trans hG4
    have A4 : Hid (PageAt w4 P v4 (runP s (lineP 7 lb ws ps))) := by
      show PageAt _ _ _ _
      rw [show lineP 7 lb ws ps = headP 7 lb ws ++ ([(proofS, 32)] ++ (wordsP ps ++ [(endS, 10)])) by simp [lineP], runP_append, runP_append, runP_append]
      exact hA4
    clear PV hA4 hG4
    go_wp2
    go_end0
    exact ⟨rfl, v4, A4.out, G4.out⟩
  · have a1 := as121_123
    have a2 := as121_121
    have HBK : Hid (w.heap[g]? = some (.cells (clauseC (kk : Int) lb ky (.slice aw nw cw)) 118 (0, 0))) := hbk
    have HD : Hid _ := head_any w P v s g kk hk lb ky aw nw cw ws hlw hnw hsw hsl h hSh (fun w' v' hx i u hi => by have h1 := (GS.out w' v' hx).trans HBK.out; rw [M.cell_whole h1 i]; exact hi) (fun w' v' hx => (HT.out w' v' hx).1)
    have HE : Hid (lineP kk lb ws ps = headP kk lb ws ++ [(endS, 10)]) := by
      show _ = _
      unfold lineP
      rw [if_neg (by omega), if_neg (by omega)]
    clear hbk h7 h8 h9 h hT hSh hlw hsw hlp hsp hfree s0 s1 s2 s3
    go_enter Tryd.func33, Tryd.ntmps33
    go_wp2_with fail
    refine Calls.mono HD.out ?_
    rintro e w1 ⟨rfl, v1, hA1, hG1⟩
    have G1 : Hid (Pg P w v w1 v1) := hG1
    have PV : Hid _ := put_any w1 P v1 _ endS 10 10 rfl hA1 (by decide)
    clear HD hA1 hG1
    go_wp2_with fail
    refine Calls.mono PV.out ?_
    rintro e w4 ⟨rfl, v4, hA4, hG4⟩
    have G4 : Hid (Pg P w v w4 v4) := G1.out.trans hG4
    have A4 : Hid (PageAt w4 P v4 (runP s (lineP kk lb ws ps))) := by
      show PageAt _ _ _ _
      rw [HE.out, runP_append]
      exact hA4
    clear PV hA4 hG4
    go_wp2
    go_end0
    exact ⟨rfl, v4, A4.out, G4.out⟩
end Go.Proofs.YtipfhfeaalbmcaaDoor
