/- A word between statements. -/
import Derived.Test.YtipfhfeaalbmcaaDoorBegin
namespace Go.Proofs.YtipfhfeaalbmcaaDoor
open Go.RowKit

/-- Where the reader has come to: what has begun, whether the last is open, the label that waits. -/
structure PS where
  l : List Stm
  opn : Bool
  wt : Tok
def wtB (t : Tok) : Bool := !t.text.toList.isEmpty
def betweenF (P : PS) (t : Tok) : Int × PS :=
  if plainB t.text = true then (if wtB P.wt = true then (60, P) else (0, { P with wt := t }))
  else if kindN t.text = 0 then (60, P)
  else if labB (kindN t.text) ≠ wtB P.wt then (61, P)
  else (0, ⟨P.l ++ [newS (kindN t.text) P.wt t], !brk (kindN t.text), zTok⟩)
/-- The blocks that the reader holds. -/
def Held (R : Nat) (vb : Value) (its : List Itm) (b : Nat) : Prop := b = R ∨ vb.ownBlock = some b ∨ ∃ x ∈ its, blk x b
def RdIs (N R : Nat) (H : Nat → Prop) (W : World) (P : PS) : Prop := ∃ vb vo its, RSt N R W vb vo its P.wt ∧ its.map (·.s) = P.l ∧ (P.opn = false → vo = .nilIface) ∧ (P.opn = true → ∃ pre x, its = pre ++ [x] ∧ vo = itmI x ∧ brk x.s.kind = false) ∧ ∀ b, Held R vb its b → H b
theorem RdIs.mono {N R : Nat} {H H' : Nat → Prop} {W : World} {P : PS} (h : RdIs N R H W P) (hm : ∀ b, H b → H' b) : RdIs N R H' W P := by
  obtain ⟨vb, vo, its, h1, h2, h3, h4, h5⟩ := h
  exact ⟨vb, vo, its, h1, h2, h3, h4, fun b e => hm b (h5 b e)⟩
theorem RdIs.under {N R : Nat} {H : Nat → Prop} {W W' : World} {P : PS} (h : RdIs N R H W P) (hb : Below W.heap.size W W') : RdIs N R H W' P := by
  obtain ⟨vb, vo, its, h1, h2⟩ := h
  exact ⟨vb, vo, its, h1.under hb, h2⟩
/-- What a call of the reader comes to. -/
def Takes (N R : Nat) (H : Nat → Prop) (w : World) (r : Int × PS) (e : Ending) (w' : World) : Prop := e = .returned (.int .i64 r.1) ∧ RdIs N R (fun b => H b ∨ w.heap.size ≤ b) w' r.2 ∧ M.Ch H w w'
theorem Takes.from {N R : Nat} {H : Nat → Prop} {w w0 w' : World} {r : Int × PS} {e : Ending} (hb : Below w.heap.size w w0) (h : Takes N R H w0 r e w') : Takes N R H w r e w' :=
  ⟨h.1, h.2.1.mono fun _ e => e.imp id fun e => Nat.le_trans hb.size e, (M.Ch.of_below hb).trans h.2.2⟩

theorem held_new {R : Nat} {H : Nat → Prop} {vb vb' : Value} {its : List Itm} {x : Itm} {m : Nat} (h : ∀ b, Held R vb its b → H b) (hl : ∀ b, vb'.ownBlock = some b → vb.ownBlock = some b ∨ m ≤ b) (hx : ∀ b, blk x b → m ≤ b) : ∀ b, Held R vb' (its ++ [x]) b → H b ∨ m ≤ b := fun b e => by
  rcases e with e | e | ⟨y, hy, e⟩
  · exact .inl (h b (.inl e))
  · exact (hl b e).imp (fun e => h b (.inr (.inl e))) id
  · rcases List.mem_append.1 hy with hy | hy
    · exact .inl (h b (.inr (.inr ⟨y, hy, e⟩)))
    · rw [List.mem_singleton.1 hy] at e; exact .inr (hx b e)
theorem newS_kind (k : Int) (lb ky : Tok) : (newS k lb ky).kind = k := by unfold newS; split <;> rfl
theorem rdis_new {N R : Nat} {W : World} {vb : Value} {its : List Itm} {x : Itm} {P : PS} {k : Int} {tk : Tok} (hxs : x.s = newS k P.wt tk) (hr : RSt N R W vb (if brk x.s.kind = true then .nilIface else itmI x) (its ++ [x]) zTok) (hits : its.map (·.s) = P.l) {H : Nat → Prop} (hh : ∀ b, Held R vb (its ++ [x]) b → H b) : RdIs N R H W ⟨P.l ++ [newS k P.wt tk], !brk k, zTok⟩ := by
  have hk : x.s.kind = k := by rw [hxs, newS_kind]
  rw [hk] at hr
  refine ⟨vb, _, its ++ [x], hr, by rw [List.map_append, hits, List.map_singleton, hxs], fun e => ?_, fun e => ?_, hh⟩
  · have e' : brk k = true := by simpa using e
    rw [if_pos e']
  · have e' : brk k = false := by simpa using e
    exact ⟨its, x, rfl, by rw [if_neg (by rw [e']; exact Bool.false_ne_true)], by rw [hk]; exact e'⟩

set_option maxRecDepth 100000 in
set_option maxHeartbeats 8000000 in
theorem takeBetween_any (w : World) (N R : Nat) (H : Nat → Prop) (P : PS) (tk : Tok) (h : RdIs N R H w P) (ho : P.opn = false) (hS : ShapesAt w) (hN : N ≤ w.heap.size) (hn : P.l.length ≤ 1048576) (ht : tk.text.size ≤ 1048576) :
    Calls Tryd.prog 44 #[.pointer (some ⟨R, 0, none⟩), tokV tk] w (Takes N R H w (betweenF P tk)) := by
  obtain ⟨w1, hw1⟩ : ∃ w1, w1 = w.alloc (.cells #[.string tk.text, .int .i64 tk.off, .int .i64 tk.line, .int .i64 tk.col] 34) := ⟨_, rfl⟩
  have hb1 : Below w.heap.size w w1 := by rw [hw1]; exact below_alloc _ _
  have HN1 : w1.heap[w.heap.size]? = some (.cells #[.string tk.text, .int .i64 tk.off, .int .i64 tk.line, .int .i64 tk.col] 34 (0, 0)) := by rw [hw1]; exact heap_alloc_new w _
  have x0 : w1.cell? ⟨w.heap.size, 0, none⟩ = some (.string tk.text) := M.cell_whole HN1 0
  have x1 : w1.cell? ⟨w.heap.size, 1, none⟩ = some (.int .i64 tk.off) := M.cell_whole HN1 1
  have x2 : w1.cell? ⟨w.heap.size, 2, none⟩ = some (.int .i64 tk.line) := M.cell_whole HN1 2
  have x3 : w1.cell? ⟨w.heap.size, 3, none⟩ = some (.int .i64 tk.col) := M.cell_whole HN1 3
  have HB : Hid (Below w.heap.size w w1) := hb1
  have h1 := h.under hb1
  obtain ⟨vb, vo, its, hR, hits, hvo, _, hH⟩ := h
  have hvo' := hvo ho
  subst hvo'
  have hR1 := hR.under hb1
  have r2 : w1.cell? ⟨R, 2, none⟩ = some (.string P.wt.text) := M.cell_whole hR1.box 2
  have PL : Hid _ := plain_any tk.text w1 (by omega)
  have WT : Hid _ := waits_any w1 R P.wt.text r2
  have HST : Hid (∀ c, Takes N R H w (c, P) (.returned (.int .i64 c)) w1) := fun c => ⟨rfl, h1.mono fun _ e => .inl e, M.Ch.of_below hb1⟩
  have HHd : Hid (∀ b, Held R vb its b → H b) := hH
  clear hH
  cases hpl : plainB tk.text with
  | true =>
    rw [hpl] at PL
    cases hwt : wtB P.wt with
    | true =>
      have hw' : (!P.wt.text.toList.isEmpty) = true := hwt
      rw [hw'] at WT
      have E : Hid (betweenF P tk = (60, P)) := by show _ = _; unfold betweenF; rw [if_pos hpl, if_pos hwt]
      rw [E.out]
      unfold tokV
      clear h1 hR hR1 hS HN1 hb1 hvo hits hwt hpl hw'
      go_enter Tryd.func44, Tryd.ntmps44
      go_upto_region 1 with fail
      rw [← hw1]
      clear hw1
      go_wp2_with fail
      refine Calls.mono PL.out ?_
      rintro e w2 ⟨rfl, hw2⟩
      subst w2
      clear PL
      go_wp2_with fail
      refine Calls.mono WT.out ?_
      rintro e w2 ⟨rfl, hw2⟩
      subst w2
      clear WT
      go_wp2
      go_ret
      exact HST.out 60
    | false =>
      have hw' : (!P.wt.text.toList.isEmpty) = false := hwt
      rw [hw'] at WT
      have E : Hid (betweenF P tk = (0, { P with wt := tk })) := by show _ = _; unfold betweenF; rw [if_pos hpl, if_neg (by rw [hwt]; exact Bool.false_ne_true)]
      rw [E.out]
      have HP : Hid (RdIs N R (fun b => H b ∨ w.heap.size ≤ b) ((((w1.setCell ⟨R, 2, none⟩ (.string tk.text)).setCell ⟨R, 3, none⟩ (.int .i64 tk.off)).setCell ⟨R, 4, none⟩ (.int .i64 tk.line)).setCell ⟨R, 5, none⟩ (.int .i64 tk.col)) { P with wt := tk } ∧ M.Ch H w ((((w1.setCell ⟨R, 2, none⟩ (.string tk.text)).setCell ⟨R, 3, none⟩ (.int .i64 tk.off)).setCell ⟨R, 4, none⟩ (.int .i64 tk.line)).setCell ⟨R, 5, none⟩ (.int .i64 tk.col))) := by
        have hc := ch_cells R [.string tk.text, .int .i64 tk.off, .int .i64 tk.line, .int .i64 tk.col] 2 w1
        refine ⟨⟨vb, .nilIface, its, hR1.cells hc (heap_put4 hR1.box 2 tk), hits, fun _ => rfl, fun e => ?_, fun b e => .inl (HHd.out b e)⟩, (M.Ch.of_below hb1).trans (hc.mono fun b e => HHd.out b (.inl e))⟩
        have e' : P.opn = true := e
        rw [ho] at e'
        cases e'
      have c : ∀ i, w1.cell? ⟨R, i, none⟩ = (rdC vb .nilIface P.wt)[i]? := fun i => M.cell_whole hR1.box i
      have c3 := c 3
      have c4 := c 4
      have c5 := c 5
      clear c
      simp only [rdC] at c3 c4 c5
      have f : ∀ i, w1.frozen? ⟨R, i, none⟩ = false := fun i => by simp [World.frozen?, hR1.box]
      have f2 := f 2
      have f3 := f 3
      have f4 := f 4
      have f5 := f 5
      unfold tokV
      clear f h1 hR hR1 hS HN1 hb1 hvo hits hwt hpl hw'
      go_enter Tryd.func44, Tryd.ntmps44
      go_upto_region 1 with fail
      rw [← hw1]
      clear hw1
      go_wp2_with fail
      refine Calls.mono PL.out ?_
      rintro e w2 ⟨rfl, hw2⟩
      subst w2
      clear PL
      go_wp2_with fail
      refine Calls.mono WT.out ?_
      rintro e w2 ⟨rfl, hw2⟩
      subst w2
      clear WT
      go_wp2
      go_ret
      exact ⟨rfl, HP.out.1, HP.out.2⟩
  | false =>
    rw [hpl] at PL
    have hnp : ¬ plainB tk.text = true := by rw [hpl]; exact Bool.false_ne_true
    have KO : Hid _ := kindOf_any w1 tk.text (hS.under hb1)
    obtain ⟨k, hk⟩ : ∃ k, kindN tk.text = k := ⟨_, rfl⟩
    have hk10 : k < 10 := by rw [← hk]; exact kindN_lt _
    rw [hk] at KO
    by_cases hk0 : k = 0
    · have E : Hid (betweenF P tk = (60, P)) := by show _ = _; unfold betweenF; rw [if_neg hnp, hk, if_pos hk0]
      rw [E.out]
      subst hk0
      have HS2 : Hid (∀ w2, Below w1.heap.size w1 w2 → Takes N R H w (60, P) (.returned (.int .i64 60)) w2) := fun w2 hb2 => ⟨rfl, (h1.under hb2).mono fun _ e => .inl e, M.Ch.of_below (hb1.trans (hb2.mono hb1.size))⟩
      unfold tokV
      clear h1 hR hR1 hS HN1 hb1 hvo hits hpl hnp hk
      go_enter Tryd.func44, Tryd.ntmps44
      go_upto_region 1 with fail
      rw [← hw1]
      clear hw1
      go_wp2_with fail
      refine Calls.mono PL.out ?_
      rintro e w2 ⟨rfl, hw2⟩
      subst w2
      clear PL
      go_wp2_with fail
      refine Calls.mono KO.out ?_
      rintro e w2 ⟨rfl, hb2⟩
      have HB2 : Hid (Below w1.heap.size w1 w2) := hb2
      clear KO hb2
      go_wp2
      go_ret
      exact HS2.out _ HB2.out
    · obtain ⟨b, hwt⟩ : ∃ b, wtB P.wt = b := ⟨_, rfl⟩
      have hw' : (!P.wt.text.toList.isEmpty) = b := hwt
      obtain ⟨lb, hlb⟩ : ∃ lb, labB k = lb := ⟨_, rfl⟩
      have hk0' : ((k : Int) == 0) = false := by simpa using hk0
      have k0 : (0 : Int) ≤ (k : Int) := by omega
      have k1 : (k : Int) < 10 := by omega
      have HSh : Hid (ShapesAt w) := hS
      have HRd : Hid (RSt N R w1 vb .nilIface its P.wt) := hR1
      have HIT : Hid (its.map (·.s) = P.l ∧ its.length ≤ 1048576) := ⟨hits, by have := congrArg List.length hits; rw [List.length_map] at this; omega⟩
      have HE : Hid (betweenF P tk = if lb ≠ b then (61, P) else (0, ⟨P.l ++ [newS k P.wt tk], !brk k, zTok⟩)) := by
        show _ = _
        unfold betweenF
        rw [if_neg hnp, hk, if_neg hk0, hlb, hwt]
      have HLB : Hid (labB k = lb ∧ (!P.wt.text.toList.isEmpty) = b ∧ k < 10 ∧ 1 ≤ k) := ⟨hlb, hw', hk10, by omega⟩
      have HNB : Hid (w1.heap[w.heap.size]? = some (.cells #[.string tk.text, .int .i64 tk.off, .int .i64 tk.line, .int .i64 tk.col] 34 (0, 0))) := HN1
      unfold tokV
      clear h1 hR hR1 hS HN1 hb1 hvo hits hpl hnp hk hwt hw' hlb WT hk0 x1 x2 x3 r2
      go_enter Tryd.func44, Tryd.ntmps44
      go_upto_region 1 with fail
      rw [← hw1]
      clear hw1
      go_wp2_with fail
      refine Calls.mono PL.out ?_
      rintro e w2 ⟨rfl, hw2⟩
      subst w2
      clear PL
      go_wp2_with fail
      refine Calls.mono KO.out ?_
      rintro e w2 ⟨rfl, hb2⟩
      have HB2 : Hid (Below w1.heap.size w1 w2) := hb2
      have HBw : Hid (Below w.heap.size w w2) := HB.out.trans (hb2.mono HB.out.size)
      have HR2 : Hid (RSt N R w2 vb .nilIface its P.wt) := HRd.out.under hb2
      have r2 : w2.cell? ⟨R, 2, none⟩ = some (.string P.wt.text) := M.cell_whole HR2.out.box 2
      have WT : Hid _ := waits_any w2.drew R P.wt.text r2
      obtain ⟨_, l1, _, _⟩ := (HSh.out.under HBw.out) k hk10
      rw [HLB.out.1] at l1
      rw [HLB.out.2.1] at WT
      clear KO hb2 x0
      go_upto_region 9 with fail
      go_region_law (go_simp; go_at_call 45; refine Calls.mono WT.out ?_; rintro e w3 ⟨rfl, hw3⟩; subst w3)
      all_goals
        have HR3 : Hid (RSt N R w2.drew vb .nilIface its P.wt) := HR2.out.under (below_drewN (Below.refl _ _) 1)
        have HB3 : Hid (Below w.heap.size w w2.drew) := below_drewN HBw.out 1
        have HN3 : Hid (w2.drew.heap[w.heap.size]? = some (.cells #[.string tk.text, .int .i64 tk.off, .int .i64 tk.line, .int .i64 tk.col] 34 (0, 0))) := (HB2.out.block _ (Array.getElem?_eq_some_iff.1 HNB.out).1).trans HNB.out
        clear WT l1 r2 HR2 HBw HB2 HNB
        generalize w2.drew = w3 at *
        by_cases hbe : lb = b
        · have E : Hid (betweenF P tk = (0, ⟨P.l ++ [newS k P.wt tk], !brk k, zTok⟩)) := by show _ = _; rw [HE.out, if_neg (by simpa using hbe)]
          have c : ∀ i, w3.cell? ⟨R, i, none⟩ = (rdC vb .nilIface P.wt)[i]? := fun i => M.cell_whole HR3.out.box i
          have c2 := c 2
          have c3 := c 3
          have c4 := c 4
          have c5 := c 5
          clear c
          simp only [rdC] at c2 c3 c4 c5
          have x0 : w3.cell? ⟨w.heap.size, 0, none⟩ = some (.string tk.text) := M.cell_whole HN3.out 0
          have x1 : w3.cell? ⟨w.heap.size, 1, none⟩ = some (.int .i64 tk.off) := M.cell_whole HN3.out 1
          have x2 : w3.cell? ⟨w.heap.size, 2, none⟩ = some (.int .i64 tk.line) := M.cell_whole HN3.out 2
          have x3 : w3.cell? ⟨w.heap.size, 3, none⟩ = some (.int .i64 tk.col) := M.cell_whole HN3.out 3
          have NS : Hid _ := newSt_any w3.drew k P.wt tk
          unfold tokV at NS
          subst hbe
          rcases lb with _ | _
          all_goals go_upto_region 11 with fail
          all_goals go_region_law (first
            | (go_simp; go_at_call 57; refine Calls.mono NS.out ?_; rintro e w4 ⟨hb4, st, rfl, hh⟩; obtain ⟨x, rfl, hxs, hxi, hxb⟩ := holds_itm (w := w3.drew) (N := N) (by have := HLB.out.2.2.2; omega) (by have := HLB.out.2.2.1; omega) (Nat.le_trans hN HB3.out.size) hh; have HXS : Hid (x.s = newS k P.wt tk ∧ Below w.heap.size w w4 ∧ ∀ b, blk x b → w.heap.size ≤ b) := ⟨hxs, HB3.out.trans (Below.mono (show Below w3.heap.size w3 w4 from ⟨hb4.os, hb4.tape, hb4.output, hb4.size, hb4.block⟩) HB3.out.size), fun b e => Nat.le_trans HB3.out.size (hxb b e)⟩; have BG : Hid _ := begin_any w4 N R vb its x P.wt (HR3.out.under ⟨hb4.os, hb4.tape, hb4.output, hb4.size, hb4.block⟩) hxi (fun b e => ⟨fun e2 => (by have h1 := hxb b e; have h2 := HR3.out.lt; subst e2; exact absurd h2 (Nat.not_lt.2 h1)), fun e2 => (by have h1 := hxb b e; have h2 := M.own_lt HR3.out.own b e2; exact absurd h2 (Nat.not_lt.2 h1))⟩) (fun y hy b e e2 => absurd ((HR3.out.all y hy).lt b e) (Nat.not_lt.2 (hxb b e2))) HIT.out.2 (Nat.le_trans hN HXS.out.2.1.size); clear hb4 hh hxs hxi hxb)
            | (go_simp; go_at_call 74; refine Calls.mono BG.out ?_; rintro e w5 ⟨rfl, vb', hr5, hb5, hl5⟩; have H5 : Hid (RSt N R w5 vb' (if brk x.s.kind = true then .nilIface else itmI x) (its ++ [x]) zTok ∧ M.Ch H w w5 ∧ ∀ b, Held R vb' (its ++ [x]) b → H b ∨ w.heap.size ≤ b) := ⟨hr5, (M.Ch.of_below HXS.out.2.1).trans (hb5.mono fun b e => HHd.out b (e.imp id .inl)), held_new HHd.out (fun b e => (hl5 b e).imp id fun h => Nat.le_trans HXS.out.2.1.size h) HXS.out.2.2⟩; clear hr5 hb5 hl5))
          all_goals have HF : Hid (RdIs N R (fun b => H b ∨ w.heap.size ≤ b) w5 ⟨P.l ++ [newS k P.wt tk], !brk k, zTok⟩) := rdis_new HXS.out.1 H5.out.1 HIT.out.1 H5.out.2.2
          all_goals clear BG NS
          all_goals go_wp2
          all_goals go_ret
          all_goals show Takes _ _ _ _ _ _ _
          all_goals rw [E.out]
          all_goals exact ⟨rfl, HF.out, H5.out.2.1⟩
        · have E : Hid (betweenF P tk = (61, P)) := by show _ = _; rw [HE.out, if_pos hbe]
          have HD : Hid (RdIs N R (fun b => H b ∨ w.heap.size ≤ b) w3 P) := ⟨vb, .nilIface, its, HR3.out, HIT.out.1, fun _ => rfl, (fun e => by rw [ho] at e; cases e), fun b e => .inl (HHd.out b e)⟩
          clear HE
          rcases lb with _ | _ <;> rcases b with _ | _
          all_goals first | exact absurd rfl hbe | skip
          all_goals clear hbe
          all_goals go_wp2
          all_goals go_ret
          all_goals show Takes _ _ _ _ _ _ _
          all_goals rw [E.out]
          all_goals exact ⟨rfl, HD.out, M.Ch.of_below HB3.out⟩
end Go.Proofs.YtipfhfeaalbmcaaDoor
