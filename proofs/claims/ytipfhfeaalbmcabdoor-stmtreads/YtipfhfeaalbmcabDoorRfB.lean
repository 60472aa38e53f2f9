/- The document's reader: a word between statements. -/
import Derived.Test.YtipfhfeaalbmcabDoorRfP
import Derived.Test.YtipfhfeaalbmcabDoorRfX
import Derived.Deep.DeepCutAuto
namespace Go.Proofs.YtipfhfeaalbmcabDoor
open Go.RowKit

/-- The document's reader holds this. -/
def RfD (N Q : Nat) (W : World) (D : DS) : Prop := ∃ H vL fin p, RfSt N Q H W vL fin D.lb D.wts D.opn p ∧ fin.map (·.s) = D.fin ∧ p.s = D.p ∧ (D.opn = false → p = zItm)
theorem RfD.under {N Q : Nat} {W W' : World} {D : DS} (h : RfD N Q W D) (hb : Below W.heap.size W W') : RfD N Q W' D := by
  obtain ⟨H, vL, fin, p, h1, h2⟩ := h
  exact ⟨H, vL, fin, p, h1.under hb, h2⟩
def RfT (N Q : Nat) (w : World) (r : Int × DS) (e : Ending) (w' : World) : Prop := e = .returned (.int .i64 r.1) ∧ RfD N Q w' r.2 ∧ Below N w w'
theorem brk_lab {kk : Nat} (h : kk < 10) (hb : brkB kk = true) : labB kk = false := by
  rcases ten h with rfl | rfl | rfl | rfl | rfl | rfl | rfl | rfl | rfl | rfl <;> first | rfl | cases hb
/-- The open one is begun: the reader's cells turn. -/
theorem RfSt.opens {N Q : Nat} {H : Nat → Prop} {W W' : World} {vL : Value} {fin : List Itm} {lb lb' : Tok} {wts wts' : Bool} {s' : Stm} (h : RfSt N Q H W vL fin lb wts false zItm) (hc : M.Ch (fun b => b = Q) W W') (hw : s'.words = []) (hp : s'.proof = []) (hb : W'.heap[Q]? = some (.cells (refC vL lb' wts' true ⟨s', 0, .slice none 0 0, .slice none 0 0⟩) 40 (0, 0))) : RfSt N Q H W' vL fin lb' wts' true ⟨s', 0, .slice none 0 0, .slice none 0 0⟩ := h.cells (g' := 0) hc hb hw hp

set_option maxRecDepth 100000 in
set_option maxHeartbeats 16000000 in
theorem rbetween_any (w : World) (N Q : Nat) (D : DS) (tk : Tok) (h : RfD N Q w D) (ho : D.opn = false) (hN : N ≤ w.heap.size) (hnf : D.fin.length ≤ 1048576) (ht : tk.text.size ≤ 1048576) :
    Calls Tryd.prog 10 #[.pointer (some ⟨Q, 0, none⟩), tokV tk] w (RfT N Q w (rbetweenF D tk)) := by
  obtain ⟨iS, hiS, iSz, iSs, iSb⟩ := info_parts infoSM
  obtain ⟨fs, lb, wts, opn, ps⟩ := D
  obtain ⟨H, vL, fin, p, h, hfs, hps, hpz⟩ := h
  dsimp only at h ho hfs hps hpz hnf
  subst ho
  obtain rfl := hpz rfl
  subst hps
  obtain ⟨nf, hnfl⟩ : ∃ nf, fin.length = nf := ⟨_, rfl⟩
  have hnf' : nf ≤ 1048576 := by rw [← hfs, List.length_map, hnfl] at hnf; exact hnf
  clear hnf
  obtain ⟨aL, cL, eL, _⟩ := own_shape h.oL
  rw [hnfl] at eL
  subst eL
  obtain ⟨w1, hw1⟩ : ∃ w1, w1 = w.alloc (.cells #[.string tk.text, .int .i64 tk.off, .int .i64 tk.line, .int .i64 tk.col] 36) := ⟨_, rfl⟩
  have b1 : Below w.heap.size w w1 := by rw [hw1]; exact below_alloc _ _
  have hk1 : w1.heap[w.heap.size]? = some (.cells #[.string tk.text, .int .i64 tk.off, .int .i64 tk.line, .int .i64 tk.col] 36 (0, 0)) := by rw [hw1]; exact heap_alloc_new w _
  obtain ⟨T, hT⟩ : ∃ T, w.heap.size = T := ⟨_, rfl⟩
  rw [hT] at hk1
  have HW1 : Hid (w1 = w.alloc (.cells #[.string tk.text, .int .i64 tk.off, .int .i64 tk.line, .int .i64 tk.col] 36)) := hw1
  have HTs : Hid (w.heap.size = T) := hT
  have HN : Hid (N ≤ w.heap.size) := hN
  have HF : Hid (fin.map (·.s) = fs ∧ fin.length = nf) := ⟨hfs, hnfl⟩
  have H0 : Hid (RfSt N Q H w (.slice aL nf cL) fin lb wts false zItm) := h
  have B1 : Hid (Below w.heap.size w w1) := b1
  have K1 : Hid (w1.heap[T]? = some (.cells #[.string tk.text, .int .i64 tk.off, .int .i64 tk.line, .int .i64 tk.col] 36 (0, 0))) := hk1
  have KD : Hid _ := rkind_any w1 tk.text
  unfold tokV
  clear hw1 b1 hk1 hT hN hfs hnfl h
  go_enter Tryd.func10, Tryd.ntmps10
  go_upto_region 1 with fail
  rw [← HW1.out, HTs.out]
  have x0 : w1.cell? ⟨T, 0, none⟩ = some (.string tk.text) := M.cell_whole K1.out 0
  clear HW1
  go_wp2_with fail
  refine Calls.mono KD.out ?_
  rintro e w2 ⟨rfl, hb2⟩
  have B2 : Hid (Below w.heap.size w w2) := B1.out.trans (hb2.mono B1.out.size)
  have H2 : Hid (RfSt N Q H w2 (.slice aL nf cL) fin lb wts false zItm) := H0.out.under B2.out
  have K2 : Hid (w2.heap[T]? = some (.cells #[.string tk.text, .int .i64 tk.off, .int .i64 tk.line, .int .i64 tk.col] 36 (0, 0))) := (hb2.block T (Array.getElem?_eq_some_iff.1 K1.out).1).trans K1.out
  have HBN : Hid (Below N w w2) := B2.out.mono HN.out
  have HZ : Hid (N ≤ w2.heap.size) := Nat.le_trans HN.out B2.out.size
  have KY : Hid _ := rkey_any tk.text w2 (by omega)
  have HKT : Hid (kindN tk.text < 10) := kindN_lt tk.text
  obtain ⟨kk, hkk⟩ : ∃ kk, kindN tk.text = kk := ⟨_, rfl⟩
  rw [hkk]
  have HKK : Hid (kindN tk.text = kk) := hkk
  have hk10 : kk < 10 := by rw [← hkk]; exact HKT.out
  clear KD hb2 B1 K1 H0 x0 HKT hkk B2
  have x0 : w2.cell? ⟨T, 0, none⟩ = some (.string tk.text) := M.cell_whole K2.out 0
  have x1 : w2.cell? ⟨T, 1, none⟩ = some (.int .i64 tk.off) := M.cell_whole K2.out 1
  have x2 : w2.cell? ⟨T, 2, none⟩ = some (.int .i64 tk.line) := M.cell_whole K2.out 2
  have x3 : w2.cell? ⟨T, 3, none⟩ = some (.int .i64 tk.col) := M.cell_whole K2.out 3
  have d5 : w2.cell? ⟨Q, 5, none⟩ = some (.bool wts) := M.cell_whole H2.out.box 5
  have SAMEF : Hid (RfD N Q w2 ⟨fs, lb, wts, false, zItm.s⟩) := ⟨H, _, fin, zItm, H2.out, HF.out.1, rfl, fun _ => rfl⟩
  go_wp2_with fail
  refine Calls.mono KY.out ?_
  rintro e w3 ⟨rfl, hw3⟩
  subst w3
  clear KY
  cases hky : keyB tk.text with
  | false =>
    cases wts with
    | true =>
      have E : Hid (rbetweenF ⟨fs, lb, true, false, zItm.s⟩ tk = (60, ⟨fs, lb, true, false, zItm.s⟩)) := by show _ = _; unfold rbetweenF; rw [if_pos hky, if_pos rfl]
      clear hky
      go_wp2
      go_ret
      show RfT _ _ _ _ _ _
      rw [E.out]
      exact ⟨rfl, SAMEF.out, HBN.out⟩
    | false =>
      have E : Hid (rbetweenF ⟨fs, lb, false, false, zItm.s⟩ tk = (0, ⟨fs, tk, true, false, zItm.s⟩)) := by show _ = _; unfold rbetweenF; rw [if_pos hky, if_neg Bool.false_ne_true]
      clear hky
      have CL : Hid (∀ W' : World, M.Ch (fun b => b = Q) w2 W' → W'.heap[Q]? = some (.cells (refC (.slice aL nf cL) tk true false zItm) 40 (0, 0)) → RfT N Q w (rbetweenF ⟨fs, lb, false, false, zItm.s⟩ tk) (.returned (.int .i64 0)) W') := by
        intro W' cs hb
        rw [E.out]
        exact ⟨rfl, ⟨H, _, fin, zItm, H2.out.cells (g' := 0) cs hb rfl rfl, HF.out.1, rfl, fun _ => rfl⟩, HBN.out.trans (cs.below HZ.out fun b e => by rw [e]; exact H2.out.ge)⟩
      have d1 : w2.cell? ⟨Q, 1, none⟩ = some (.string lb.text) := M.cell_whole H2.out.box 1
      have f1 : w2.frozen? ⟨Q, 1, none⟩ = false := by simp [World.frozen?, H2.out.box]
      have d2 : w2.cell? ⟨Q, 2, none⟩ = some (.int .i64 lb.off) := M.cell_whole H2.out.box 2
      have f2 : w2.frozen? ⟨Q, 2, none⟩ = false := by simp [World.frozen?, H2.out.box]
      have d3 : w2.cell? ⟨Q, 3, none⟩ = some (.int .i64 lb.line) := M.cell_whole H2.out.box 3
      have f3 : w2.frozen? ⟨Q, 3, none⟩ = false := by simp [World.frozen?, H2.out.box]
      have d4 : w2.cell? ⟨Q, 4, none⟩ = some (.int .i64 lb.col) := M.cell_whole H2.out.box 4
      have f4 : w2.frozen? ⟨Q, 4, none⟩ = false := by simp [World.frozen?, H2.out.box]
      have f5 : w2.frozen? ⟨Q, 5, none⟩ = false := by simp [World.frozen?, H2.out.box]
      go_wp2
      go_ret
      exact CL.out _ (((((M.ch_set w2 Q 1 _).trans (M.ch_set _ Q 2 _)).trans (M.ch_set _ Q 3 _)).trans (M.ch_set _ Q 4 _)).trans (M.ch_set _ Q 5 _)) (M.heap_set_same (M.heap_set_same (M.heap_set_same (M.heap_set_same (M.heap_set_same (H2.out.box))))))
  | true =>
    by_cases hk0 : kk = 0
    · have E : Hid (rbetweenF ⟨fs, lb, wts, false, zItm.s⟩ tk = (60, ⟨fs, lb, wts, false, zItm.s⟩)) := by show _ = _; unfold rbetweenF; rw [if_neg (by rw [hky]; exact fun e => by cases e), if_pos (HKK.out.trans hk0)]
      clear hky
      subst hk0
      go_wp2
      go_ret
      show RfT _ _ _ _ _ _
      rw [E.out]
      exact ⟨rfl, SAMEF.out, HBN.out⟩
    · have k0 : ((kk : Int) == 0) = false := by rw [beq_eq_false_iff_ne]; omega
      have LB : Hid _ := rlab_any w2.drew kk hk10
      obtain ⟨lk, hlk⟩ : ∃ lk, labB kk = lk := ⟨_, rfl⟩
      rw [hlk] at LB
      have E0 : Hid (rbetweenF ⟨fs, lb, wts, false, zItm.s⟩ tk = if lk ≠ wts then (61, ⟨fs, lb, wts, false, zItm.s⟩) else if brkB kk = true then (0, ⟨fs ++ [rbrkS kk wts lb tk], zTok, false, false, zItm.s⟩) else (0, ⟨fs, zTok, false, true, rnewS kk wts lb tk⟩)) := by
        show _ = _; unfold rbetweenF; rw [if_neg (by rw [hky]; exact fun e => by cases e), if_neg (by rw [HKK.out]; exact hk0), HKK.out, hlk]
      have HLK : Hid (labB kk = lk) := hlk
      clear hky hlk
      go_upto_region 10 with fail
      have d5' : w2.drew.cell? ⟨Q, 5, none⟩ = some (.bool wts) := d5
      go_cut [33] (fun v wx => v = .bool (decide (lk ≠ wts)) ∧ wx = w2.drew)
      case first =>
        go_region_law (go_simp; go_at_call 28; refine Calls.mono LB.out ?_; rintro e w3 ⟨rfl, hw3⟩; subst w3)
        all_goals (first | (go_wp2_with fail; go_meet) | go_meet)
        all_goals (refine ⟨?_, rfl⟩; cases lk <;> cases wts <;> rfl)
      case rest =>
        obtain ⟨rfl, rfl⟩ := hcut
        clear LB d5'
        have H3 : Hid (RfSt N Q H w2.drew (.slice aL nf cL) fin lb wts false zItm) := H2.out.under (below_drewN (Below.refl _ _) 1)
        have K3 : Hid (w2.drew.heap[T]? = some (.cells #[.string tk.text, .int .i64 tk.off, .int .i64 tk.line, .int .i64 tk.col] 36 (0, 0))) := K2.out
        have HB3 : Hid (Below N w w2.drew) := below_drewN HBN.out 1
        have HZ3 : Hid (N ≤ w2.drew.heap.size) := HZ.out
        clear x0 x1 x2 x3 d5 H2 K2 HBN HZ SAMEF
        generalize w2.drew = w3 at *
        by_cases hlw : lk ≠ wts
        · have E : Hid (rbetweenF ⟨fs, lb, wts, false, zItm.s⟩ tk = (61, ⟨fs, lb, wts, false, zItm.s⟩)) := by show _ = _; rw [E0.out, if_pos hlw]
          have dl : decide (lk ≠ wts) = true := decide_eq_true hlw
          rw [dl]
          clear hlw dl
          go_wp2
          go_ret
          show RfT _ _ _ _ _ _
          rw [E.out]
          exact ⟨rfl, ⟨H, _, fin, zItm, H3.out, HF.out.1, rfl, fun _ => rfl⟩, HB3.out⟩
        · have dl : decide (lk ≠ wts) = false := decide_eq_false hlw
          rw [dl]
          obtain rfl : lk = wts := Classical.byContradiction hlw
          have E1 : Hid (rbetweenF ⟨fs, lb, lk, false, zItm.s⟩ tk = if brkB kk = true then (0, ⟨fs ++ [rbrkS kk lk lb tk], zTok, false, false, zItm.s⟩) else (0, ⟨fs, zTok, false, true, rnewS kk lk lb tk⟩)) := by show _ = _; rw [E0.out, if_neg hlw]
          clear hlw dl E0
          have x0 : w3.cell? ⟨T, 0, none⟩ = some (.string tk.text) := M.cell_whole K3.out 0
          have x1 : w3.cell? ⟨T, 1, none⟩ = some (.int .i64 tk.off) := M.cell_whole K3.out 1
          have x2 : w3.cell? ⟨T, 2, none⟩ = some (.int .i64 tk.line) := M.cell_whole K3.out 2
          have x3 : w3.cell? ⟨T, 3, none⟩ = some (.int .i64 tk.col) := M.cell_whole K3.out 3
          have HTQ : Hid (T = Q → False) := fun e => by have h1 := K3.out; rw [e, H3.out.box] at h1; cases h1
          cases hbk : brkB kk with
          | true =>
            obtain rfl : lk = false := by rw [← HLK.out]; exact brk_lab hk10 hbk
            have E : Hid (rbetweenF ⟨fs, lb, false, false, zItm.s⟩ tk = (0, ⟨fs ++ [rbrkS kk false lb tk], zTok, false, false, zItm.s⟩)) := by show _ = _; rw [E1.out, if_pos hbk]
            clear E1 HLK
            obtain ⟨w4, hw4⟩ : ∃ w4, w4 = w3.alloc (.cells #[.int .i64 (kk : Nat), .string ⟨#[]⟩, .int .i64 0, .int .i64 0, .int .i64 0, .string tk.text, .int .i64 tk.off, .int .i64 tk.line, .int .i64 tk.col, .bool false, .slice none 0 0, .slice none 0 0, .string ⟨#[]⟩, .int .i64 0, .int .i64 0, .int .i64 0] 38) := ⟨_, rfl⟩
            have b4 : Below w3.heap.size w3 w4 := by rw [hw4]; exact below_alloc _ _
            obtain ⟨S, hS⟩ : ∃ S, w3.heap.size = S := ⟨_, rfl⟩
            have hk4 : w4.heap[S]? = some (.cells #[.int .i64 (kk : Nat), .string ⟨#[]⟩, .int .i64 0, .int .i64 0, .int .i64 0, .string tk.text, .int .i64 tk.off, .int .i64 tk.line, .int .i64 tk.col, .bool false, .slice none 0 0, .slice none 0 0, .string ⟨#[]⟩, .int .i64 0, .int .i64 0, .int .i64 0] 38 (0, 0)) := by rw [← hS, hw4]; exact heap_alloc_new w3 _
            have HQS : Hid (Q < S ∧ T < S) := ⟨by rw [← hS]; exact H3.out.lt, by rw [← hS]; exact (Array.getElem?_eq_some_iff.1 K3.out).1⟩
            have C4 : Hid (M.Ch (fun b => b = Q ∨ b = S) w3 w4) := M.Ch.of_below b4
            have Q4 : Hid (w4.heap[Q]? = some (.cells (refC (.slice aL nf cL) lb false false zItm) 40 (0, 0))) := (b4.block Q H3.out.lt).trans H3.out.box
            have K4 : Hid (w4.heap[T]? = some (.cells #[.string tk.text, .int .i64 tk.off, .int .i64 tk.line, .int .i64 tk.col] 36 (0, 0))) := (b4.block T (Array.getElem?_eq_some_iff.1 K3.out).1).trans K3.out
            have L4 : Hid (w4.heap[S]? = some (.cells #[.int .i64 (kk : Nat), .string ⟨#[]⟩, .int .i64 0, .int .i64 0, .int .i64 0, .string tk.text, .int .i64 tk.off, .int .i64 tk.line, .int .i64 tk.col, .bool false, .slice none 0 0, .slice none 0 0, .string ⟨#[]⟩, .int .i64 0, .int .i64 0, .int .i64 0] 38 (0, 0))) := hk4
            have HW4 : Hid (w4 = w3.alloc (.cells #[.int .i64 (kk : Nat), .string ⟨#[]⟩, .int .i64 0, .int .i64 0, .int .i64 0, .string tk.text, .int .i64 tk.off, .int .i64 tk.line, .int .i64 tk.col, .bool false, .slice none 0 0, .slice none 0 0, .string ⟨#[]⟩, .int .i64 0, .int .i64 0, .int .i64 0] 38)) := hw4
            have HS : Hid (w3.heap.size = S) := hS
            have NRW : Hid (∀ W' : World, M.Ch (fun b => b = Q ∨ b = S) w3 W' → M.Ch (fun b => b = Q) w3 W') := fun W' hc => ⟨hc.os, hc.tape, hc.output, hc.size, fun g hg hn => hc.block g hg fun e => e.elim hn fun e => by rw [e, ← hS] at hg; omega⟩
            clear hw4 b4 hS hk4
            go_upto_region 13 with fail
            rw [← HW4.out, HS.out]
            clear HW4 x0 x1 x2 x3 HS
            have q5 : w4.cell? ⟨Q, 5, none⟩ = some (.bool false) := M.cell_whole Q4.out 5
            have d1 : w4.cell? ⟨Q, 1, none⟩ = some (.string lb.text) := M.cell_whole Q4.out 1
            have f1 : w4.frozen? ⟨Q, 1, none⟩ = false := by simp [World.frozen?, Q4.out]
            have d2 : w4.cell? ⟨Q, 2, none⟩ = some (.int .i64 lb.off) := M.cell_whole Q4.out 2
            have f2 : w4.frozen? ⟨Q, 2, none⟩ = false := by simp [World.frozen?, Q4.out]
            have d3 : w4.cell? ⟨Q, 3, none⟩ = some (.int .i64 lb.line) := M.cell_whole Q4.out 3
            have f3 : w4.frozen? ⟨Q, 3, none⟩ = false := by simp [World.frozen?, Q4.out]
            have d4 : w4.cell? ⟨Q, 4, none⟩ = some (.int .i64 lb.col) := M.cell_whole Q4.out 4
            have f4 : w4.frozen? ⟨Q, 4, none⟩ = false := by simp [World.frozen?, Q4.out]
            have d5 : w4.cell? ⟨Q, 5, none⟩ = some (.bool false) := M.cell_whole Q4.out 5
            have f5 : w4.frozen? ⟨Q, 5, none⟩ = false := by simp [World.frozen?, Q4.out]
            go_upto_region 17 with fail
            obtain ⟨w5, hw5⟩ : ∃ w5, w5 = (((((w4.setCell ⟨Q, 1, none⟩ (.string ⟨#[]⟩)).setCell ⟨Q, 2, none⟩ (.int .i64 0)).setCell ⟨Q, 3, none⟩ (.int .i64 0)).setCell ⟨Q, 4, none⟩ (.int .i64 0)).setCell ⟨Q, 5, none⟩ (.bool false)) := ⟨_, rfl⟩
            have C5' : M.Ch (fun b => b = Q) w4 w5 := by rw [hw5]; exact ((((M.ch_set w4 Q 1 _).trans (M.ch_set _ Q 2 _)).trans (M.ch_set _ Q 3 _)).trans (M.ch_set _ Q 4 _)).trans (M.ch_set _ Q 5 _)
            have C5 : Hid (M.Ch (fun b => b = Q ∨ b = S) w3 w5) := C4.out.trans (C5'.mono fun _ e => .inl e)
            have Q5 : Hid (w5.heap[Q]? = some (.cells (refC (.slice aL nf cL) zTok false false zItm) 40 (0, 0))) := by show _ = _; rw [hw5]; exact M.heap_set_same (M.heap_set_same (M.heap_set_same (M.heap_set_same (M.heap_set_same (Q4.out)))))
            have K5 : Hid (w5.heap[T]? = some (.cells #[.string tk.text, .int .i64 tk.off, .int .i64 tk.line, .int .i64 tk.col] 36 (0, 0))) := (C5'.block T (Array.getElem?_eq_some_iff.1 K4.out).1 fun e => by exact absurd (HTQ.out e) id).trans K4.out
            have L5 : Hid (w5.heap[S]? = some (.cells #[.int .i64 (kk : Nat), .string ⟨#[]⟩, .int .i64 0, .int .i64 0, .int .i64 0, .string tk.text, .int .i64 tk.off, .int .i64 tk.line, .int .i64 tk.col, .bool false, .slice none 0 0, .slice none 0 0, .string ⟨#[]⟩, .int .i64 0, .int .i64 0, .int .i64 0] 38 (0, 0))) := (C5'.block S (Array.getElem?_eq_some_iff.1 L4.out).1 fun e => by have := HQS.out.1; omega).trans L4.out
            rw [← hw5]
            clear hw5 C5' d1 d2 d3 d4 d5 f1 f2 f3 f4 f5 q5
            have BR : Hid _ := rbrk_any w5 kk hk10
            rw [hbk] at BR
            clear hbk
            go_wp2_with fail
            refine Calls.mono BR.out ?_
            rintro e w6 ⟨rfl, hw6⟩
            subst w6
            clear BR
            have x0 : w5.cell? ⟨T, 0, none⟩ = some (.string tk.text) := M.cell_whole K5.out 0
            have x1 : w5.cell? ⟨T, 1, none⟩ = some (.int .i64 tk.off) := M.cell_whole K5.out 1
            have x2 : w5.cell? ⟨T, 2, none⟩ = some (.int .i64 tk.line) := M.cell_whole K5.out 2
            have x3 : w5.cell? ⟨T, 3, none⟩ = some (.int .i64 tk.col) := M.cell_whole K5.out 3
            have s12 : w5.cell? ⟨S, 12, none⟩ = some (.string ⟨#[]⟩) := M.cell_whole L5.out 12
            have g12 : w5.frozen? ⟨S, 12, none⟩ = false := by simp [World.frozen?, L5.out]
            have s13 : w5.cell? ⟨S, 13, none⟩ = some (.int .i64 0) := M.cell_whole L5.out 13
            have g13 : w5.frozen? ⟨S, 13, none⟩ = false := by simp [World.frozen?, L5.out]
            have s14 : w5.cell? ⟨S, 14, none⟩ = some (.int .i64 0) := M.cell_whole L5.out 14
            have g14 : w5.frozen? ⟨S, 14, none⟩ = false := by simp [World.frozen?, L5.out]
            have s15 : w5.cell? ⟨S, 15, none⟩ = some (.int .i64 0) := M.cell_whole L5.out 15
            have g15 : w5.frozen? ⟨S, 15, none⟩ = false := by simp [World.frozen?, L5.out]
            go_upto_region 19 with fail
            obtain ⟨w6, hw6⟩ : ∃ w6, w6 = ((((w5.setCell ⟨S, 12, none⟩ (.string tk.text)).setCell ⟨S, 13, none⟩ (.int .i64 tk.off)).setCell ⟨S, 14, none⟩ (.int .i64 tk.line)).setCell ⟨S, 15, none⟩ (.int .i64 tk.col)) := ⟨_, rfl⟩
            have C6' : M.Ch (fun b => b = S) w5 w6 := by rw [hw6]; exact (((M.ch_set w5 S 12 _).trans (M.ch_set _ S 13 _)).trans (M.ch_set _ S 14 _)).trans (M.ch_set _ S 15 _)
            have Q6 : Hid (w6.heap[Q]? = some (.cells (refC (.slice aL nf cL) zTok false false zItm) 40 (0, 0))) := (C6'.block Q (Array.getElem?_eq_some_iff.1 Q5.out).1 fun e => by have := HQS.out.1; omega).trans Q5.out
            have L6 : Hid (w6.heap[S]? = some (.cells #[.int .i64 (kk : Nat), .string ⟨#[]⟩, .int .i64 0, .int .i64 0, .int .i64 0, .string tk.text, .int .i64 tk.off, .int .i64 tk.line, .int .i64 tk.col, .bool false, .slice none 0 0, .slice none 0 0, .string tk.text, .int .i64 tk.off, .int .i64 tk.line, .int .i64 tk.col] 38 (0, 0))) := by show _ = _; rw [hw6]; exact M.heap_set_same (M.heap_set_same (M.heap_set_same (M.heap_set_same (L5.out))))
            have C6 : M.Ch (fun b => b = Q) w3 w6 := NRW.out _ (C5.out.trans (C6'.mono fun _ e => .inr e))
            have H6 : Hid (RfSt N Q H w6 (.slice aL nf cL) fin zTok false false zItm) := H3.out.cells (g' := 0) C6 Q6.out rfl rfl
            have HB6 : Hid (Below N w w6) := HB3.out.trans (C6.below HZ3.out fun b e => by rw [e]; exact H3.out.ge)
            have HZ6 : Hid (N ≤ w6.heap.size) := Nat.le_trans HZ3.out C6.size
            rw [← hw6]
            clear hw6 C6' C6 x0 x1 x2 x3 s12 s13 s14 s15 g12 g13 g14 g15 Q5 L5 K5 C5 H3 HB3 HZ3 K3 NRW
            have s0 : w6.cell? ⟨S, 0, none⟩ = some (.int .i64 (kk : Nat)) := M.cell_whole L6.out 0
            have s1 : w6.cell? ⟨S, 1, none⟩ = some (.string ⟨#[]⟩) := M.cell_whole L6.out 1
            have s2 : w6.cell? ⟨S, 2, none⟩ = some (.int .i64 0) := M.cell_whole L6.out 2
            have s3 : w6.cell? ⟨S, 3, none⟩ = some (.int .i64 0) := M.cell_whole L6.out 3
            have s4 : w6.cell? ⟨S, 4, none⟩ = some (.int .i64 0) := M.cell_whole L6.out 4
            have s5 : w6.cell? ⟨S, 5, none⟩ = some (.string tk.text) := M.cell_whole L6.out 5
            have s6 : w6.cell? ⟨S, 6, none⟩ = some (.int .i64 tk.off) := M.cell_whole L6.out 6
            have s7 : w6.cell? ⟨S, 7, none⟩ = some (.int .i64 tk.line) := M.cell_whole L6.out 7
            have s8 : w6.cell? ⟨S, 8, none⟩ = some (.int .i64 tk.col) := M.cell_whole L6.out 8
            have s9 : w6.cell? ⟨S, 9, none⟩ = some (.bool false) := M.cell_whole L6.out 9
            have s10 : w6.cell? ⟨S, 10, none⟩ = some (.slice none 0 0) := M.cell_whole L6.out 10
            have s11 : w6.cell? ⟨S, 11, none⟩ = some (.slice none 0 0) := M.cell_whole L6.out 11
            have s12 : w6.cell? ⟨S, 12, none⟩ = some (.string tk.text) := M.cell_whole L6.out 12
            have s13 : w6.cell? ⟨S, 13, none⟩ = some (.int .i64 tk.off) := M.cell_whole L6.out 13
            have s14 : w6.cell? ⟨S, 14, none⟩ = some (.int .i64 tk.line) := M.cell_whole L6.out 14
            have s15 : w6.cell? ⟨S, 15, none⟩ = some (.int .i64 tk.col) := M.cell_whole L6.out 15
            have r0 : w6.cell? ⟨Q, 0, none⟩ = some (.slice aL nf cL) := M.cell_whole Q6.out 0
            have ONE : Hid (∀ u ∈ (#[.int .i64 (kk : Nat), .string ⟨#[]⟩, .int .i64 0, .int .i64 0, .int .i64 0, .string tk.text, .int .i64 tk.off, .int .i64 tk.line, .int .i64 tk.col, .bool false, .slice none 0 0, .slice none 0 0, .string tk.text, .int .i64 tk.off, .int .i64 tk.line, .int .i64 tk.col] : Array Value).toList, u.oneCell' = true) := fun u hu => by
              simp at hu
              rcases hu with rfl | rfl | rfl | rfl | rfl | rfl | rfl | rfl | rfl | rfl | rfl | rfl | rfl | rfl | rfl | rfl <;> rfl
            have OW : Hid (w6.ownsRow N 38 16 (.slice aL nf cL) nf (rowS fin)) := by have h := H6.out.oL; rw [HF.out.2] at h; exact h
            have HQ6 : Hid (Q < w6.heap.size) := H6.out.lt
            have e9 : (w6.alloc (.cells #[.int .i64 (kk : Nat), .string ⟨#[]⟩, .int .i64 0, .int .i64 0, .int .i64 0, .string tk.text, .int .i64 tk.off, .int .i64 tk.line, .int .i64 tk.col, .bool false, .slice none 0 0, .slice none 0 0, .string tk.text, .int .i64 tk.off, .int .i64 tk.line, .int .i64 tk.col] 38)).cell? ⟨Q, 0, none⟩ = some (.slice aL nf cL) := (World.cell?_of_block (a := ⟨Q, 0, none⟩) (Below.heap_alloc _ _ Q HQ6.out)).trans r0
            go_region_law (refine step_append_lies _ (by rfl) _ _ _ (by rfl) N 38 iS _ 16 184 Tryd.underlying22 hiS iSz iSs iSb rfl (by omega) _ nf (rowS fin) (by rfl) (by exact (M.owns_alloc OW.out _)) ⟨w6.heap.size, 0, none⟩ 1 1 (#[.int .i64 (kk : Nat), .string ⟨#[]⟩, .int .i64 0, .int .i64 0, .int .i64 0, .string tk.text, .int .i64 tk.off, .int .i64 tk.line, .int .i64 tk.col, .bool false, .slice none 0 0, .slice none 0 0, .string tk.text, .int .i64 tk.off, .int .i64 tk.line, .int .i64 tk.col] : Array Value).toList (by rfl) (by rfl) (fun j' u hu => World.news_of_block (cs := #[.int .i64 (kk : Nat), .string ⟨#[]⟩, .int .i64 0, .int .i64 0, .int .i64 0, .string tk.text, .int .i64 tk.off, .int .i64 tk.line, .int .i64 tk.col, .bool false, .slice none 0 0, .slice none 0 0, .string tk.text, .int .i64 tk.off, .int .i64 tk.line, .int .i64 tk.col]) (t := 38) (fr := (0, 0)) (heap_alloc_new w6 _) j' u hu) (fun u hu => ONE.out u hu) (by omega) (by unfold maxLen; omega) (by omega) (by have := HZ6.out; simp; omega) _ rfl ?_; intro gg cap' w7 hown7 hgrow hat hlt7; have K7 : Hid (w7.heap[Q]? = some (.cells (refC (.slice aL nf cL) zTok false false zItm) 40 (0, 0))) := (hgrow.block Q (by have := HQ6.out; simp; omega) (fun e => H6.out.qL e.symm)).trans ((Below.heap_alloc _ _ Q HQ6.out).trans H6.out.box); have d0' : w7.cell? ⟨Q, 0, none⟩ = some (.slice aL nf cL) := M.cell_whole K7.out 0; have f0' : w7.frozen? ⟨Q, 0, none⟩ = false := (by simp [World.frozen?, K7.out]); have FIN : Hid (RfT N Q w (rbetweenF ⟨fs, lb, false, false, zItm.s⟩ tk) (.returned (.int .i64 0)) (w7.setCell ⟨Q, 0, none⟩ (.slice (some ⟨gg, 0, none⟩) (nf + 1) cap'))) := (by show RfT _ _ _ _ _ _; rw [E.out]; have h9 : Below w6.heap.size w6 (w6.alloc (.cells #[.int .i64 (kk : Nat), .string ⟨#[]⟩, .int .i64 0, .int .i64 0, .int .i64 0, .string tk.text, .int .i64 tk.off, .int .i64 tk.line, .int .i64 tk.col, .bool false, .slice none 0 0, .slice none 0 0, .string tk.text, .int .i64 tk.off, .int .i64 tk.line, .int .i64 tk.col] 38)).drew := below_drewN (below_alloc _ _) 1; have hle := Nat.le_trans HZ6.out h9.size; refine ⟨rfl, ⟨_, _, fin ++ [⟨rbrkS kk false lb tk, 0, .slice none 0 0, .slice none 0 0⟩], zItm, RfSt.whole (x := ⟨rbrkS kk false lb tk, 0, .slice none 0 0, .slice none 0 0⟩) (Hx := fun _ => False) (H6.out.under h9) hgrow (by rw [HF.out.2]; exact hown7) (fun b e => M.loc_of hat b e) ⟨M.RowIn.own (World.ownsRow_nil _ 0 36 4) (fun g e => by cases e), M.RowIn.own (World.ownsRow_nil _ 0 36 4) (fun g e => by cases e)⟩ (fun g e => e.elim), by rw [List.map_append, HF.out.1]; rfl, rfl, fun _ => rfl⟩, (HB6.out.trans (h9.mono HZ6.out)).trans (((M.Ch.of_grown hgrow).below hle fun b e => M.own_ge' OW.out b e).trans ((M.ch_set w7 Q 0 _).below (Nat.le_trans hle hgrow.size) fun b e => by rw [e]; exact H6.out.ge))⟩); clear hgrow hat hown7 hlt7 K7)
            all_goals clear e9 OW ONE s0 s1 s2 s3 s4 s5 s6 s7 s8 s9 s10 s11 s12 s13 s14 s15
            all_goals go_wp2
            all_goals go_ret
            all_goals exact FIN.out
          | false =>
            cases lk with
            | false =>
              have E : Hid (rbetweenF ⟨fs, lb, false, false, zItm.s⟩ tk = (0, ⟨fs, zTok, false, true, rnewS kk false lb tk⟩)) := by show _ = _; rw [E1.out, if_neg (by rw [hbk]; exact Bool.false_ne_true)]
              clear E1 HLK
              obtain ⟨w4, hw4⟩ : ∃ w4, w4 = w3.alloc (.cells #[.int .i64 (kk : Nat), .string ⟨#[]⟩, .int .i64 0, .int .i64 0, .int .i64 0, .string tk.text, .int .i64 tk.off, .int .i64 tk.line, .int .i64 tk.col, .bool false, .slice none 0 0, .slice none 0 0, .string ⟨#[]⟩, .int .i64 0, .int .i64 0, .int .i64 0] 38) := ⟨_, rfl⟩
              have b4 : Below w3.heap.size w3 w4 := by rw [hw4]; exact below_alloc _ _
              obtain ⟨S, hS⟩ : ∃ S, w3.heap.size = S := ⟨_, rfl⟩
              have hk4 : w4.heap[S]? = some (.cells #[.int .i64 (kk : Nat), .string ⟨#[]⟩, .int .i64 0, .int .i64 0, .int .i64 0, .string tk.text, .int .i64 tk.off, .int .i64 tk.line, .int .i64 tk.col, .bool false, .slice none 0 0, .slice none 0 0, .string ⟨#[]⟩, .int .i64 0, .int .i64 0, .int .i64 0] 38 (0, 0)) := by rw [← hS, hw4]; exact heap_alloc_new w3 _
              have HQS : Hid (Q < S ∧ T < S) := ⟨by rw [← hS]; exact H3.out.lt, by rw [← hS]; exact (Array.getElem?_eq_some_iff.1 K3.out).1⟩
              have C4 : Hid (M.Ch (fun b => b = Q ∨ b = S) w3 w4) := M.Ch.of_below b4
              have Q4 : Hid (w4.heap[Q]? = some (.cells (refC (.slice aL nf cL) lb false false zItm) 40 (0, 0))) := (b4.block Q H3.out.lt).trans H3.out.box
              have K4 : Hid (w4.heap[T]? = some (.cells #[.string tk.text, .int .i64 tk.off, .int .i64 tk.line, .int .i64 tk.col] 36 (0, 0))) := (b4.block T (Array.getElem?_eq_some_iff.1 K3.out).1).trans K3.out
              have L4 : Hid (w4.heap[S]? = some (.cells #[.int .i64 (kk : Nat), .string ⟨#[]⟩, .int .i64 0, .int .i64 0, .int .i64 0, .string tk.text, .int .i64 tk.off, .int .i64 tk.line, .int .i64 tk.col, .bool false, .slice none 0 0, .slice none 0 0, .string ⟨#[]⟩, .int .i64 0, .int .i64 0, .int .i64 0] 38 (0, 0))) := hk4
              have HW4 : Hid (w4 = w3.alloc (.cells #[.int .i64 (kk : Nat), .string ⟨#[]⟩, .int .i64 0, .int .i64 0, .int .i64 0, .string tk.text, .int .i64 tk.off, .int .i64 tk.line, .int .i64 tk.col, .bool false, .slice none 0 0, .slice none 0 0, .string ⟨#[]⟩, .int .i64 0, .int .i64 0, .int .i64 0] 38)) := hw4
              have HS : Hid (w3.heap.size = S) := hS
              have NRW : Hid (∀ W' : World, M.Ch (fun b => b = Q ∨ b = S) w3 W' → M.Ch (fun b => b = Q) w3 W') := fun W' hc => ⟨hc.os, hc.tape, hc.output, hc.size, fun g hg hn => hc.block g hg fun e => e.elim hn fun e => by rw [e, ← hS] at hg; omega⟩
              clear hw4 b4 hS hk4
              go_upto_region 13 with fail
              rw [← HW4.out, HS.out]
              clear HW4 x0 x1 x2 x3 HS
              have q5 : w4.cell? ⟨Q, 5, none⟩ = some (.bool false) := M.cell_whole Q4.out 5
              have d1 : w4.cell? ⟨Q, 1, none⟩ = some (.string lb.text) := M.cell_whole Q4.out 1
              have f1 : w4.frozen? ⟨Q, 1, none⟩ = false := by simp [World.frozen?, Q4.out]
              have d2 : w4.cell? ⟨Q, 2, none⟩ = some (.int .i64 lb.off) := M.cell_whole Q4.out 2
              have f2 : w4.frozen? ⟨Q, 2, none⟩ = false := by simp [World.frozen?, Q4.out]
              have d3 : w4.cell? ⟨Q, 3, none⟩ = some (.int .i64 lb.line) := M.cell_whole Q4.out 3
              have f3 : w4.frozen? ⟨Q, 3, none⟩ = false := by simp [World.frozen?, Q4.out]
              have d4 : w4.cell? ⟨Q, 4, none⟩ = some (.int .i64 lb.col) := M.cell_whole Q4.out 4
              have f4 : w4.frozen? ⟨Q, 4, none⟩ = false := by simp [World.frozen?, Q4.out]
              have d5 : w4.cell? ⟨Q, 5, none⟩ = some (.bool false) := M.cell_whole Q4.out 5
              have f5 : w4.frozen? ⟨Q, 5, none⟩ = false := by simp [World.frozen?, Q4.out]
              go_upto_region 17 with fail
              obtain ⟨w5, hw5⟩ : ∃ w5, w5 = (((((w4.setCell ⟨Q, 1, none⟩ (.string ⟨#[]⟩)).setCell ⟨Q, 2, none⟩ (.int .i64 0)).setCell ⟨Q, 3, none⟩ (.int .i64 0)).setCell ⟨Q, 4, none⟩ (.int .i64 0)).setCell ⟨Q, 5, none⟩ (.bool false)) := ⟨_, rfl⟩
              have C5' : M.Ch (fun b => b = Q) w4 w5 := by rw [hw5]; exact ((((M.ch_set w4 Q 1 _).trans (M.ch_set _ Q 2 _)).trans (M.ch_set _ Q 3 _)).trans (M.ch_set _ Q 4 _)).trans (M.ch_set _ Q 5 _)
              have C5 : Hid (M.Ch (fun b => b = Q ∨ b = S) w3 w5) := C4.out.trans (C5'.mono fun _ e => .inl e)
              have Q5 : Hid (w5.heap[Q]? = some (.cells (refC (.slice aL nf cL) zTok false false zItm) 40 (0, 0))) := by show _ = _; rw [hw5]; exact M.heap_set_same (M.heap_set_same (M.heap_set_same (M.heap_set_same (M.heap_set_same (Q4.out)))))
              have K5 : Hid (w5.heap[T]? = some (.cells #[.string tk.text, .int .i64 tk.off, .int .i64 tk.line, .int .i64 tk.col] 36 (0, 0))) := (C5'.block T (Array.getElem?_eq_some_iff.1 K4.out).1 fun e => by exact absurd (HTQ.out e) id).trans K4.out
              have L5 : Hid (w5.heap[S]? = some (.cells #[.int .i64 (kk : Nat), .string ⟨#[]⟩, .int .i64 0, .int .i64 0, .int .i64 0, .string tk.text, .int .i64 tk.off, .int .i64 tk.line, .int .i64 tk.col, .bool false, .slice none 0 0, .slice none 0 0, .string ⟨#[]⟩, .int .i64 0, .int .i64 0, .int .i64 0] 38 (0, 0))) := (C5'.block S (Array.getElem?_eq_some_iff.1 L4.out).1 fun e => by have := HQS.out.1; omega).trans L4.out
              rw [← hw5]
              clear hw5 C5' d1 d2 d3 d4 d5 f1 f2 f3 f4 f5 q5
              have BR : Hid _ := rbrk_any w5 kk hk10
              rw [hbk] at BR
              clear hbk
              go_wp2_with fail
              refine Calls.mono BR.out ?_
              rintro e w6 ⟨rfl, hw6⟩
              subst w6
              clear BR
              have CL : Hid (∀ W' : World, M.Ch (fun b => b = Q) w5 W' → W'.heap[Q]? = some (.cells (refC (.slice aL nf cL) zTok false true ⟨rnewS kk false lb tk, 0, .slice none 0 0, .slice none 0 0⟩) 40 (0, 0)) → RfT N Q w (rbetweenF ⟨fs, lb, false, false, zItm.s⟩ tk) (.returned (.int .i64 0)) W') := by
                intro W' cs hb
                rw [E.out]
                have C6 : M.Ch (fun b => b = Q) w3 W' := NRW.out _ (C5.out.trans (cs.mono fun _ e => .inl e))
                exact ⟨rfl, ⟨H, _, fin, _, H3.out.opens C6 rfl rfl hb, HF.out.1, rfl, fun e => by cases e⟩, HB3.out.trans (C6.below HZ3.out fun b e => by rw [e]; exact H3.out.ge)⟩
              have s0 : w5.cell? ⟨S, 0, none⟩ = some (.int .i64 (kk : Nat)) := M.cell_whole L5.out 0
              have s1 : w5.cell? ⟨S, 1, none⟩ = some (.string ⟨#[]⟩) := M.cell_whole L5.out 1
              have s2 : w5.cell? ⟨S, 2, none⟩ = some (.int .i64 0) := M.cell_whole L5.out 2
              have s3 : w5.cell? ⟨S, 3, none⟩ = some (.int .i64 0) := M.cell_whole L5.out 3
              have s4 : w5.cell? ⟨S, 4, none⟩ = some (.int .i64 0) := M.cell_whole L5.out 4
              have s5 : w5.cell? ⟨S, 5, none⟩ = some (.string tk.text) := M.cell_whole L5.out 5
              have s6 : w5.cell? ⟨S, 6, none⟩ = some (.int .i64 tk.off) := M.cell_whole L5.out 6
              have s7 : w5.cell? ⟨S, 7, none⟩ = some (.int .i64 tk.line) := M.cell_whole L5.out 7
              have s8 : w5.cell? ⟨S, 8, none⟩ = some (.int .i64 tk.col) := M.cell_whole L5.out 8
              have s9 : w5.cell? ⟨S, 9, none⟩ = some (.bool false) := M.cell_whole L5.out 9
              have s10 : w5.cell? ⟨S, 10, none⟩ = some (.slice none 0 0) := M.cell_whole L5.out 10
              have s11 : w5.cell? ⟨S, 11, none⟩ = some (.slice none 0 0) := M.cell_whole L5.out 11
              have s12 : w5.cell? ⟨S, 12, none⟩ = some (.string ⟨#[]⟩) := M.cell_whole L5.out 12
              have s13 : w5.cell? ⟨S, 13, none⟩ = some (.int .i64 0) := M.cell_whole L5.out 13
              have s14 : w5.cell? ⟨S, 14, none⟩ = some (.int .i64 0) := M.cell_whole L5.out 14
              have s15 : w5.cell? ⟨S, 15, none⟩ = some (.int .i64 0) := M.cell_whole L5.out 15
              clear C5 K5 NRW H3 HB3 HZ3 K3 HQS HTQ
              go_upto_region 21 with fail
              iterate 14 (first | go_values | go_skip | go_guarded | go_step | go_upon | go_back)
              refine wp_store_mid 38 _ _ rfl Q 7 #[.int .i64 (kk : Nat), .string ⟨#[]⟩, .int .i64 0, .int .i64 0, .int .i64 0, .string tk.text, .int .i64 tk.off, .int .i64 tk.line, .int .i64 tk.col, .bool false, .slice none 0 0, .slice none 0 0, .string ⟨#[]⟩, .int .i64 0, .int .i64 0, .int .i64 0] rfl rfl (there_at Q5.out (Nat.le_refl 23)) (by kernel_rfl) (by simp [Value.oneCell']) ?_
              obtain ⟨wz, hwz⟩ : ∃ wz, wz = w5.setCells Q 7 #[.int .i64 (kk : Nat), .string ⟨#[]⟩, .int .i64 0, .int .i64 0, .int .i64 0, .string tk.text, .int .i64 tk.off, .int .i64 tk.line, .int .i64 tk.col, .bool false, .slice none 0 0, .slice none 0 0, .string ⟨#[]⟩, .int .i64 0, .int .i64 0, .int .i64 0].toList := ⟨_, rfl⟩
              have CZ : Hid (M.Ch (fun b => b = Q) w5 wz) := by show M.Ch _ _ _; rw [hwz]; exact ch_setCells Q _ 7 w5
              have KZ : Hid (wz.heap[Q]? = some (.cells (refC (.slice aL nf cL) zTok false false ⟨rnewS kk false lb tk, 0, .slice none 0 0, .slice none 0 0⟩) 40 (0, 0))) := by show _ = _; rw [hwz]; exact setCells_whole Q 40 [.int .i64 (kk : Nat), .string ⟨#[]⟩, .int .i64 0, .int .i64 0, .int .i64 0, .string tk.text, .int .i64 tk.off, .int .i64 tk.line, .int .i64 tk.col, .bool false, .slice none 0 0, .slice none 0 0, .string ⟨#[]⟩, .int .i64 0, .int .i64 0, .int .i64 0] [.slice aL nf cL, .string ⟨#[]⟩, .int .i64 0, .int .i64 0, .int .i64 0, .bool false, .bool false] _ w5 Q5.out rfl
              rw [← hwz]
              clear hwz
              have d6 : wz.cell? ⟨Q, 6, none⟩ = some (.bool false) := M.cell_whole KZ.out 6
              have f6 : wz.frozen? ⟨Q, 6, none⟩ = false := by simp [World.frozen?, KZ.out]
              clear s0 s1 s2 s3 s4 s5 s6 s7 s8 s9 s10 s11 s12 s13 s14 s15 Q5 L5
              go_wp2
              go_ret
              exact CL.out _ (CZ.out.trans (M.ch_set wz Q 6 _)) (M.heap_set_same KZ.out)
            | true =>
              have E : Hid (rbetweenF ⟨fs, lb, true, false, zItm.s⟩ tk = (0, ⟨fs, zTok, false, true, rnewS kk true lb tk⟩)) := by show _ = _; rw [E1.out, if_neg (by rw [hbk]; exact Bool.false_ne_true)]
              clear E1 HLK
              obtain ⟨w4, hw4⟩ : ∃ w4, w4 = w3.alloc (.cells #[.int .i64 (kk : Nat), .string ⟨#[]⟩, .int .i64 0, .int .i64 0, .int .i64 0, .string tk.text, .int .i64 tk.off, .int .i64 tk.line, .int .i64 tk.col, .bool false, .slice none 0 0, .slice none 0 0, .string ⟨#[]⟩, .int .i64 0, .int .i64 0, .int .i64 0] 38) := ⟨_, rfl⟩
              have b4 : Below w3.heap.size w3 w4 := by rw [hw4]; exact below_alloc _ _
              obtain ⟨S, hS⟩ : ∃ S, w3.heap.size = S := ⟨_, rfl⟩
              have hk4 : w4.heap[S]? = some (.cells #[.int .i64 (kk : Nat), .string ⟨#[]⟩, .int .i64 0, .int .i64 0, .int .i64 0, .string tk.text, .int .i64 tk.off, .int .i64 tk.line, .int .i64 tk.col, .bool false, .slice none 0 0, .slice none 0 0, .string ⟨#[]⟩, .int .i64 0, .int .i64 0, .int .i64 0] 38 (0, 0)) := by rw [← hS, hw4]; exact heap_alloc_new w3 _
              have HQS : Hid (Q < S ∧ T < S) := ⟨by rw [← hS]; exact H3.out.lt, by rw [← hS]; exact (Array.getElem?_eq_some_iff.1 K3.out).1⟩
              have C4 : Hid (M.Ch (fun b => b = Q ∨ b = S) w3 w4) := M.Ch.of_below b4
              have Q4 : Hid (w4.heap[Q]? = some (.cells (refC (.slice aL nf cL) lb true false zItm) 40 (0, 0))) := (b4.block Q H3.out.lt).trans H3.out.box
              have K4 : Hid (w4.heap[T]? = some (.cells #[.string tk.text, .int .i64 tk.off, .int .i64 tk.line, .int .i64 tk.col] 36 (0, 0))) := (b4.block T (Array.getElem?_eq_some_iff.1 K3.out).1).trans K3.out
              have L4 : Hid (w4.heap[S]? = some (.cells #[.int .i64 (kk : Nat), .string ⟨#[]⟩, .int .i64 0, .int .i64 0, .int .i64 0, .string tk.text, .int .i64 tk.off, .int .i64 tk.line, .int .i64 tk.col, .bool false, .slice none 0 0, .slice none 0 0, .string ⟨#[]⟩, .int .i64 0, .int .i64 0, .int .i64 0] 38 (0, 0))) := hk4
              have HW4 : Hid (w4 = w3.alloc (.cells #[.int .i64 (kk : Nat), .string ⟨#[]⟩, .int .i64 0, .int .i64 0, .int .i64 0, .string tk.text, .int .i64 tk.off, .int .i64 tk.line, .int .i64 tk.col, .bool false, .slice none 0 0, .slice none 0 0, .string ⟨#[]⟩, .int .i64 0, .int .i64 0, .int .i64 0] 38)) := hw4
              have HS : Hid (w3.heap.size = S) := hS
              have NRW : Hid (∀ W' : World, M.Ch (fun b => b = Q ∨ b = S) w3 W' → M.Ch (fun b => b = Q) w3 W') := fun W' hc => ⟨hc.os, hc.tape, hc.output, hc.size, fun g hg hn => hc.block g hg fun e => e.elim hn fun e => by rw [e, ← hS] at hg; omega⟩
              clear hw4 b4 hS hk4
              go_upto_region 13 with fail
              rw [← HW4.out, HS.out]
              clear HW4 x0 x1 x2 x3 HS
              have q5 : w4.cell? ⟨Q, 5, none⟩ = some (.bool true) := M.cell_whole Q4.out 5
              have s1 : w4.cell? ⟨S, 1, none⟩ = some (.string ⟨#[]⟩) := M.cell_whole L4.out 1
              have g1 : w4.frozen? ⟨S, 1, none⟩ = false := by simp [World.frozen?, L4.out]
              have s2 : w4.cell? ⟨S, 2, none⟩ = some (.int .i64 0) := M.cell_whole L4.out 2
              have g2 : w4.frozen? ⟨S, 2, none⟩ = false := by simp [World.frozen?, L4.out]
              have s3 : w4.cell? ⟨S, 3, none⟩ = some (.int .i64 0) := M.cell_whole L4.out 3
              have g3 : w4.frozen? ⟨S, 3, none⟩ = false := by simp [World.frozen?, L4.out]
              have s4 : w4.cell? ⟨S, 4, none⟩ = some (.int .i64 0) := M.cell_whole L4.out 4
              have g4 : w4.frozen? ⟨S, 4, none⟩ = false := by simp [World.frozen?, L4.out]
              have p1 : w4.cell? ⟨Q, 1, none⟩ = some (.string lb.text) := M.cell_whole Q4.out 1
              have p2 : w4.cell? ⟨Q, 2, none⟩ = some (.int .i64 lb.off) := M.cell_whole Q4.out 2
              have p3 : w4.cell? ⟨Q, 3, none⟩ = some (.int .i64 lb.line) := M.cell_whole Q4.out 3
              have p4 : w4.cell? ⟨Q, 4, none⟩ = some (.int .i64 lb.col) := M.cell_whole Q4.out 4
              go_upto_region 15 with fail
              obtain ⟨w8, hw8⟩ : ∃ w8, w8 = ((((w4.setCell ⟨S, 1, none⟩ (.string lb.text)).setCell ⟨S, 2, none⟩ (.int .i64 lb.off)).setCell ⟨S, 3, none⟩ (.int .i64 lb.line)).setCell ⟨S, 4, none⟩ (.int .i64 lb.col)) := ⟨_, rfl⟩
              have C8' : M.Ch (fun b => b = S) w4 w8 := by rw [hw8]; exact (((M.ch_set w4 S 1 _).trans (M.ch_set _ S 2 _)).trans (M.ch_set _ S 3 _)).trans (M.ch_set _ S 4 _)
              have C8 : Hid (M.Ch (fun b => b = Q ∨ b = S) w3 w8) := C4.out.trans (C8'.mono fun _ e => .inr e)
              have Q8 : Hid (w8.heap[Q]? = some (.cells (refC (.slice aL nf cL) lb true false zItm) 40 (0, 0))) := (C8'.block Q (Array.getElem?_eq_some_iff.1 Q4.out).1 fun e => by have := HQS.out.1; omega).trans Q4.out
              have K8 : Hid (w8.heap[T]? = some (.cells #[.string tk.text, .int .i64 tk.off, .int .i64 tk.line, .int .i64 tk.col] 36 (0, 0))) := (C8'.block T (Array.getElem?_eq_some_iff.1 K4.out).1 fun e => by have := HQS.out.2; omega).trans K4.out
              have L8 : Hid (w8.heap[S]? = some (.cells #[.int .i64 (kk : Nat), .string lb.text, .int .i64 lb.off, .int .i64 lb.line, .int .i64 lb.col, .string tk.text, .int .i64 tk.off, .int .i64 tk.line, .int .i64 tk.col, .bool false, .slice none 0 0, .slice none 0 0, .string ⟨#[]⟩, .int .i64 0, .int .i64 0, .int .i64 0] 38 (0, 0))) := by show _ = _; rw [hw8]; exact M.heap_set_same (M.heap_set_same (M.heap_set_same (M.heap_set_same (L4.out))))
              rw [← hw8]
              clear hw8 C8' p1 p2 p3 p4 s1 s2 s3 s4 g1 g2 g3 g4 C4 Q4 K4 L4
              have d1 : w8.cell? ⟨Q, 1, none⟩ = some (.string lb.text) := M.cell_whole Q8.out 1
              have f1 : w8.frozen? ⟨Q, 1, none⟩ = false := by simp [World.frozen?, Q8.out]
              have d2 : w8.cell? ⟨Q, 2, none⟩ = some (.int .i64 lb.off) := M.cell_whole Q8.out 2
              have f2 : w8.frozen? ⟨Q, 2, none⟩ = false := by simp [World.frozen?, Q8.out]
              have d3 : w8.cell? ⟨Q, 3, none⟩ = some (.int .i64 lb.line) := M.cell_whole Q8.out 3
              have f3 : w8.frozen? ⟨Q, 3, none⟩ = false := by simp [World.frozen?, Q8.out]
              have d4 : w8.cell? ⟨Q, 4, none⟩ = some (.int .i64 lb.col) := M.cell_whole Q8.out 4
              have f4 : w8.frozen? ⟨Q, 4, none⟩ = false := by simp [World.frozen?, Q8.out]
              have d5 : w8.cell? ⟨Q, 5, none⟩ = some (.bool true) := M.cell_whole Q8.out 5
              have f5 : w8.frozen? ⟨Q, 5, none⟩ = false := by simp [World.frozen?, Q8.out]
              go_upto_region 17 with fail
              obtain ⟨w5, hw5⟩ : ∃ w5, w5 = (((((w8.setCell ⟨Q, 1, none⟩ (.string ⟨#[]⟩)).setCell ⟨Q, 2, none⟩ (.int .i64 0)).setCell ⟨Q, 3, none⟩ (.int .i64 0)).setCell ⟨Q, 4, none⟩ (.int .i64 0)).setCell ⟨Q, 5, none⟩ (.bool false)) := ⟨_, rfl⟩
              have C5' : M.Ch (fun b => b = Q) w8 w5 := by rw [hw5]; exact ((((M.ch_set w8 Q 1 _).trans (M.ch_set _ Q 2 _)).trans (M.ch_set _ Q 3 _)).trans (M.ch_set _ Q 4 _)).trans (M.ch_set _ Q 5 _)
              have C5 : Hid (M.Ch (fun b => b = Q ∨ b = S) w3 w5) := C8.out.trans (C5'.mono fun _ e => .inl e)
              have Q5 : Hid (w5.heap[Q]? = some (.cells (refC (.slice aL nf cL) zTok false false zItm) 40 (0, 0))) := by show _ = _; rw [hw5]; exact M.heap_set_same (M.heap_set_same (M.heap_set_same (M.heap_set_same (M.heap_set_same (Q8.out)))))
              have K5 : Hid (w5.heap[T]? = some (.cells #[.string tk.text, .int .i64 tk.off, .int .i64 tk.line, .int .i64 tk.col] 36 (0, 0))) := (C5'.block T (Array.getElem?_eq_some_iff.1 K8.out).1 fun e => by exact absurd (HTQ.out e) id).trans K8.out
              have L5 : Hid (w5.heap[S]? = some (.cells #[.int .i64 (kk : Nat), .string lb.text, .int .i64 lb.off, .int .i64 lb.line, .int .i64 lb.col, .string tk.text, .int .i64 tk.off, .int .i64 tk.line, .int .i64 tk.col, .bool false, .slice none 0 0, .slice none 0 0, .string ⟨#[]⟩, .int .i64 0, .int .i64 0, .int .i64 0] 38 (0, 0))) := (C5'.block S (Array.getElem?_eq_some_iff.1 L8.out).1 fun e => by have := HQS.out.1; omega).trans L8.out
              rw [← hw5]
              clear hw5 C5' d1 d2 d3 d4 d5 f1 f2 f3 f4 f5 q5
              have BR : Hid _ := rbrk_any w5 kk hk10
              rw [hbk] at BR
              clear hbk
              go_wp2_with fail
              refine Calls.mono BR.out ?_
              rintro e w6 ⟨rfl, hw6⟩
              subst w6
              clear BR
              have CL : Hid (∀ W' : World, M.Ch (fun b => b = Q) w5 W' → W'.heap[Q]? = some (.cells (refC (.slice aL nf cL) zTok false true ⟨rnewS kk true lb tk, 0, .slice none 0 0, .slice none 0 0⟩) 40 (0, 0)) → RfT N Q w (rbetweenF ⟨fs, lb, true, false, zItm.s⟩ tk) (.returned (.int .i64 0)) W') := by
                intro W' cs hb
                rw [E.out]
                have C6 : M.Ch (fun b => b = Q) w3 W' := NRW.out _ (C5.out.trans (cs.mono fun _ e => .inl e))
                exact ⟨rfl, ⟨H, _, fin, _, H3.out.opens C6 rfl rfl hb, HF.out.1, rfl, fun e => by cases e⟩, HB3.out.trans (C6.below HZ3.out fun b e => by rw [e]; exact H3.out.ge)⟩
              have s0 : w5.cell? ⟨S, 0, none⟩ = some (.int .i64 (kk : Nat)) := M.cell_whole L5.out 0
              have s1 : w5.cell? ⟨S, 1, none⟩ = some (.string lb.text) := M.cell_whole L5.out 1
              have s2 : w5.cell? ⟨S, 2, none⟩ = some (.int .i64 lb.off) := M.cell_whole L5.out 2
              have s3 : w5.cell? ⟨S, 3, none⟩ = some (.int .i64 lb.line) := M.cell_whole L5.out 3
              have s4 : w5.cell? ⟨S, 4, none⟩ = some (.int .i64 lb.col) := M.cell_whole L5.out 4
              have s5 : w5.cell? ⟨S, 5, none⟩ = some (.string tk.text) := M.cell_whole L5.out 5
              have s6 : w5.cell? ⟨S, 6, none⟩ = some (.int .i64 tk.off) := M.cell_whole L5.out 6
              have s7 : w5.cell? ⟨S, 7, none⟩ = some (.int .i64 tk.line) := M.cell_whole L5.out 7
              have s8 : w5.cell? ⟨S, 8, none⟩ = some (.int .i64 tk.col) := M.cell_whole L5.out 8
              have s9 : w5.cell? ⟨S, 9, none⟩ = some (.bool false) := M.cell_whole L5.out 9
              have s10 : w5.cell? ⟨S, 10, none⟩ = some (.slice none 0 0) := M.cell_whole L5.out 10
              have s11 : w5.cell? ⟨S, 11, none⟩ = some (.slice none 0 0) := M.cell_whole L5.out 11
              have s12 : w5.cell? ⟨S, 12, none⟩ = some (.string ⟨#[]⟩) := M.cell_whole L5.out 12
              have s13 : w5.cell? ⟨S, 13, none⟩ = some (.int .i64 0) := M.cell_whole L5.out 13
              have s14 : w5.cell? ⟨S, 14, none⟩ = some (.int .i64 0) := M.cell_whole L5.out 14
              have s15 : w5.cell? ⟨S, 15, none⟩ = some (.int .i64 0) := M.cell_whole L5.out 15
              clear C5 K5 NRW H3 HB3 HZ3 K3 HQS HTQ
              go_upto_region 21 with fail
              iterate 14 (first | go_values | go_skip | go_guarded | go_step | go_upon | go_back)
              refine wp_store_mid 38 _ _ rfl Q 7 #[.int .i64 (kk : Nat), .string lb.text, .int .i64 lb.off, .int .i64 lb.line, .int .i64 lb.col, .string tk.text, .int .i64 tk.off, .int .i64 tk.line, .int .i64 tk.col, .bool false, .slice none 0 0, .slice none 0 0, .string ⟨#[]⟩, .int .i64 0, .int .i64 0, .int .i64 0] rfl rfl (there_at Q5.out (Nat.le_refl 23)) (by kernel_rfl) (by simp [Value.oneCell']) ?_
              obtain ⟨wz, hwz⟩ : ∃ wz, wz = w5.setCells Q 7 #[.int .i64 (kk : Nat), .string lb.text, .int .i64 lb.off, .int .i64 lb.line, .int .i64 lb.col, .string tk.text, .int .i64 tk.off, .int .i64 tk.line, .int .i64 tk.col, .bool false, .slice none 0 0, .slice none 0 0, .string ⟨#[]⟩, .int .i64 0, .int .i64 0, .int .i64 0].toList := ⟨_, rfl⟩
              have CZ : Hid (M.Ch (fun b => b = Q) w5 wz) := by show M.Ch _ _ _; rw [hwz]; exact ch_setCells Q _ 7 w5
              have KZ : Hid (wz.heap[Q]? = some (.cells (refC (.slice aL nf cL) zTok false false ⟨rnewS kk true lb tk, 0, .slice none 0 0, .slice none 0 0⟩) 40 (0, 0))) := by show _ = _; rw [hwz]; exact setCells_whole Q 40 [.int .i64 (kk : Nat), .string lb.text, .int .i64 lb.off, .int .i64 lb.line, .int .i64 lb.col, .string tk.text, .int .i64 tk.off, .int .i64 tk.line, .int .i64 tk.col, .bool false, .slice none 0 0, .slice none 0 0, .string ⟨#[]⟩, .int .i64 0, .int .i64 0, .int .i64 0] [.slice aL nf cL, .string ⟨#[]⟩, .int .i64 0, .int .i64 0, .int .i64 0, .bool false, .bool false] _ w5 Q5.out rfl
              rw [← hwz]
              clear hwz
              have d6 : wz.cell? ⟨Q, 6, none⟩ = some (.bool false) := M.cell_whole KZ.out 6
              have f6 : wz.frozen? ⟨Q, 6, none⟩ = false := by simp [World.frozen?, KZ.out]
              clear s0 s1 s2 s3 s4 s5 s6 s7 s8 s9 s10 s11 s12 s13 s14 s15 Q5 L5
              go_wp2
              go_ret
              exact CL.out _ (CZ.out.trans (M.ch_set wz Q 6 _)) (M.heap_set_same KZ.out)
end Go.Proofs.YtipfhfeaalbmcabDoor
