/- The document's reader: the word that ends a statement. -/
import Derived.Test.YtipfhfeaalbmcabDoorRfX
namespace Go.Proofs.YtipfhfeaalbmcabDoor
open Go.RowKit

set_option maxRecDepth 100000 in
set_option maxHeartbeats 16000000 in
theorem rwithin_end7 (w : World) (N Q : Nat) (H : Nat → Prop) (vL : Value) (fin : List Itm) (lb : Tok) (wts : Bool) (p : Itm) (tk : Tok) (h : RfSt N Q H w vL fin lb wts true p) (k : Nat) (hk : p.s.kind = k) (hk0 : 0 < k) (hk10 : k < 10) (hN : N ≤ w.heap.size) (hnf : fin.length ≤ 1048576) (_ : p.s.words.length ≤ 1048576) (_ : p.s.proof.length ≤ 1048576) (ht : tk.text.size ≤ 1048576) (hky : keyB tk.text = true) (htd : tk.text = dotS) (hfew : ¬ (p.s.words.length : Int) < lstI k) (hnp7 : ¬ (p.s.kind = 7 ∧ p.s.proving = false)) (hk7 : k = 7) :
    Calls Tryd.prog 9 #[.pointer (some ⟨Q, 0, none⟩), tokV tk] w (RfW N Q H w vL fin lb wts (rwithinF p.s tk)) := by
  obtain ⟨ip, hip, ipz, ips, ipb⟩ := info_parts infoT
  obtain ⟨iS, hiS, iSz, iSs, iSb⟩ := info_parts infoSM
  obtain ⟨aw, cw, ew⟩ : ∃ a c, p.vw = .slice a p.s.words.length c := by obtain ⟨a, c, e, _⟩ := own_shape h.ow; exact ⟨a, c, e⟩
  obtain ⟨ap, cp, ep⟩ : ∃ a c, p.vp = .slice a p.s.proof.length c := by obtain ⟨a, c, e, _⟩ := own_shape h.op; exact ⟨a, c, e⟩
  obtain ⟨nw, hlw⟩ : ∃ nw, p.s.words.length = nw := ⟨_, rfl⟩
  obtain ⟨np, hlp⟩ : ∃ np, p.s.proof.length = np := ⟨_, rfl⟩
  rw [hlw] at ew
  rw [hlp] at ep
  obtain ⟨w1, hw1⟩ : ∃ w1, w1 = w.alloc (.cells #[.string tk.text, .int .i64 tk.off, .int .i64 tk.line, .int .i64 tk.col] 36) := ⟨_, rfl⟩
  have b1 : Below w.heap.size w w1 := by rw [hw1]; exact below_alloc _ _
  have hs1 : w1.heap.size = w.heap.size + 1 := by rw [hw1]; simp
  have hk1 : w1.heap[w.heap.size]? = some (.cells #[.string tk.text, .int .i64 tk.off, .int .i64 tk.line, .int .i64 tk.col] 36 (0, 0)) := by rw [hw1]; exact heap_alloc_new w _
  have h1 := h.under b1
  obtain ⟨pr, hpr⟩ : ∃ pr, p.s.proving = pr := ⟨_, rfl⟩
  obtain ⟨w2, hw2⟩ : ∃ w2, w2 = w1.alloc (.cells #[.int .i64 (k : Nat), .string p.s.label.text, .int .i64 p.s.label.off, .int .i64 p.s.label.line, .int .i64 p.s.label.col, .string p.s.key.text, .int .i64 p.s.key.off, .int .i64 p.s.key.line, .int .i64 p.s.key.col, .bool pr, .slice aw nw cw, .slice ap np cp, .string p.s.fin.text, .int .i64 p.s.fin.off, .int .i64 p.s.fin.line, .int .i64 p.s.fin.col] 38) := ⟨_, rfl⟩
  have b2 : Below w1.heap.size w1 w2 := by rw [hw2]; exact below_alloc _ _
  have hk2 : w2.heap[w1.heap.size]? = some (.cells #[.int .i64 (k : Nat), .string p.s.label.text, .int .i64 p.s.label.off, .int .i64 p.s.label.line, .int .i64 p.s.label.col, .string p.s.key.text, .int .i64 p.s.key.off, .int .i64 p.s.key.line, .int .i64 p.s.key.col, .bool pr, .slice aw nw cw, .slice ap np cp, .string p.s.fin.text, .int .i64 p.s.fin.off, .int .i64 p.s.fin.line, .int .i64 p.s.fin.col] 38 (0, 0)) := by rw [hw2]; exact heap_alloc_new w1 _
  have H2 : Hid (RfSt N Q H w2 vL fin lb wts true p) := h1.under b2
  have B2 : Hid (Below w.heap.size w w2) := b1.trans (b2.mono b1.size)
  obtain ⟨D, hD⟩ : ∃ D, w.heap.size = D := ⟨_, rfl⟩
  have K2 : Hid (w2.heap[D]? = some (.cells #[.string tk.text, .int .i64 tk.off, .int .i64 tk.line, .int .i64 tk.col] 36 (0, 0)) ∧ w2.heap[D + 1]? = some (.cells #[.int .i64 (k : Nat), .string p.s.label.text, .int .i64 p.s.label.off, .int .i64 p.s.label.line, .int .i64 p.s.label.col, .string p.s.key.text, .int .i64 p.s.key.off, .int .i64 p.s.key.line, .int .i64 p.s.key.col, .bool pr, .slice aw nw cw, .slice ap np cp, .string p.s.fin.text, .int .i64 p.s.fin.off, .int .i64 p.s.fin.line, .int .i64 p.s.fin.col] 38 (0, 0))) := by
    rw [hD] at hk1 hs1
    rw [hs1] at hk2
    exact ⟨(b2.block D (by omega)).trans hk1, hk2⟩
  have HE : Hid (p.vw = .slice aw nw cw ∧ p.vp = .slice ap np cp ∧ p.s.words.length = nw ∧ p.s.proof.length = np ∧ p.s.kind = k ∧ p.s.proving = pr) := ⟨ew, ep, hlw, hlp, hk, hpr⟩
  have c1 : ∀ i v, (refC vL lb wts true p)[i]? = some v → w1.cell? ⟨Q, i, none⟩ = some v := fun i v hv => (M.cell_whole h1.box i).trans hv
  have q0 : w1.cell? ⟨Q, 7, none⟩ = some (.int .i64 (k : Nat)) := by rw [← hk]; exact c1 7 _ rfl
  have q1 : w1.cell? ⟨Q, 8, none⟩ = some (.string p.s.label.text) := c1 8 _ rfl
  have q2 : w1.cell? ⟨Q, 9, none⟩ = some (.int .i64 p.s.label.off) := c1 9 _ rfl
  have q3 : w1.cell? ⟨Q, 10, none⟩ = some (.int .i64 p.s.label.line) := c1 10 _ rfl
  have q4 : w1.cell? ⟨Q, 11, none⟩ = some (.int .i64 p.s.label.col) := c1 11 _ rfl
  have q5 : w1.cell? ⟨Q, 12, none⟩ = some (.string p.s.key.text) := c1 12 _ rfl
  have q6 : w1.cell? ⟨Q, 13, none⟩ = some (.int .i64 p.s.key.off) := c1 13 _ rfl
  have q7 : w1.cell? ⟨Q, 14, none⟩ = some (.int .i64 p.s.key.line) := c1 14 _ rfl
  have q8 : w1.cell? ⟨Q, 15, none⟩ = some (.int .i64 p.s.key.col) := c1 15 _ rfl
  have q9 : w1.cell? ⟨Q, 16, none⟩ = some (.bool pr) := by rw [← hpr]; exact c1 16 _ rfl
  have q10 : w1.cell? ⟨Q, 17, none⟩ = some (.slice aw nw cw) := by rw [← ew]; exact c1 17 _ rfl
  have q11 : w1.cell? ⟨Q, 18, none⟩ = some (.slice ap np cp) := by rw [← ep]; exact c1 18 _ rfl
  have q12 : w1.cell? ⟨Q, 19, none⟩ = some (.string p.s.fin.text) := c1 19 _ rfl
  have q13 : w1.cell? ⟨Q, 20, none⟩ = some (.int .i64 p.s.fin.off) := c1 20 _ rfl
  have q14 : w1.cell? ⟨Q, 21, none⟩ = some (.int .i64 p.s.fin.line) := c1 21 _ rfl
  have q15 : w1.cell? ⟨Q, 22, none⟩ = some (.int .i64 p.s.fin.col) := c1 22 _ rfl
  have HW1 : Hid (w1 = w.alloc (.cells #[.string tk.text, .int .i64 tk.off, .int .i64 tk.line, .int .i64 tk.col] 36)) := hw1
  have HW2 : Hid (w2 = w1.alloc (.cells #[.int .i64 (k : Nat), .string p.s.label.text, .int .i64 p.s.label.off, .int .i64 p.s.label.line, .int .i64 p.s.label.col, .string p.s.key.text, .int .i64 p.s.key.off, .int .i64 p.s.key.line, .int .i64 p.s.key.col, .bool pr, .slice aw nw cw, .slice ap np cp, .string p.s.fin.text, .int .i64 p.s.fin.off, .int .i64 p.s.fin.line, .int .i64 p.s.fin.col] 38)) := hw2
  have HD : Hid (w.heap.size = D ∧ w1.heap.size = D + 1) := ⟨hD, by omega⟩
  have HNs : Hid (N ≤ w.heap.size) := hN
  have x0 : w2.cell? ⟨D, 0, none⟩ = some (.string tk.text) := M.cell_whole K2.out.1 0
  have KY : Hid _ := rkey_any tk.text w2 (by omega)
  have y0 : w2.cell? ⟨D + 1, 0, none⟩ = some (.int .i64 (k : Nat)) := M.cell_whole K2.out.2 0
  have y9 : w2.cell? ⟨D + 1, 9, none⟩ = some (.bool pr) := M.cell_whole K2.out.2 9
  have y10 : w2.cell? ⟨D + 1, 10, none⟩ = some (.slice aw nw cw) := M.cell_whole K2.out.2 10
  have x1 : w2.cell? ⟨D, 1, none⟩ = some (.int .i64 tk.off) := M.cell_whole K2.out.1 1
  have x2 : w2.cell? ⟨D, 2, none⟩ = some (.int .i64 tk.line) := M.cell_whole K2.out.1 2
  have x3 : w2.cell? ⟨D, 3, none⟩ = some (.int .i64 tk.col) := M.cell_whole K2.out.1 3
  have HQ : Hid (Q < w2.heap.size) := H2.out.lt
  have HZ : Hid (N ≤ w2.heap.size) := Nat.le_trans hN B2.out.size
  have HBN : Hid (Below N w w2) := B2.out.mono hN
  unfold tokV
  clear hw1 hw2 b1 b2 hs1 hk1 hk2 hD c1 h h1 ew ep hlw hlp hk hpr hN
  have HK7 : Hid _ := hk7
  clear hk7
  rw [hky] at KY
  have LS : Hid _ := rleast_any w2.drew k hk10 hk0
  obtain ⟨L, hL⟩ : ∃ L, lstI k = L := ⟨_, rfl⟩
  obtain ⟨aL, cL, eL, _⟩ := own_shape H2.out.oL
  subst eL
  rw [hL] at LS
  have EQ : Hid (rwithinF p.s tk = if tk.text = eqS ∧ k = 7 ∧ pr = false then (if (nw : Int) < L then (62, p.s, false) else (0, { p.s with proving := true }, false)) else if tk.text ≠ dotS then (60, p.s, false) else if (nw : Int) < L ∨ (k = 7 ∧ pr = false) then (62, p.s, false) else (0, { p.s with fin := tk }, true)) := rwithin_keyF hky HE.out.2.2.2.2.1 HE.out.2.2.2.2.2 HE.out.2.2.1 hL
  have kk : ((k : Int) == 7) = decide (k = 7) := by rw [Bool.eq_iff_iff]; simp; omega
  have hlt : ¬ (nw : Int) < L := by rw [← hL, ← HE.out.2.2.1]; exact hfew
  have h7p : ¬ (k = 7 ∧ pr = false) := fun e => hnp7 ⟨by rw [HE.out.2.2.2.2.1, e.1]; rfl, by rw [HE.out.2.2.2.2.2]; exact e.2⟩
  have hte : ¬ tk.text = eqS := by rw [htd]; decide
  have E : Hid (rwithinF p.s tk = (0, { p.s with fin := tk }, true)) := by show _ = _; rw [EQ.out, if_neg (fun e => hte e.1), if_neg (fun e => e htd), if_neg (fun e => e.elim hlt h7p)]
  have te : (tk.text.toList == [36, 61]) = false := lst_ne2 hte
  have td : (tk.text.toList == [36, 46]) = true := by rw [htd]; unfold dotS; rw [ByteArray.toList_eq]; rfl
  have td' : (tk.text.toList != [36, 46]) = false := by simp only [bne, td]; rfl
  have h7c : ((k : Int) == 7) = false ∨ (((k : Int) == 7) = true ∧ pr = true) := by
    rw [kk]
    by_cases h : k = 7
    · right; exact ⟨by simp [h], by cases pr; exact absurd ⟨h, rfl⟩ h7p; rfl⟩
    · left; simp [h]
  clear hky hL EQ kk hte htd hfew hnp7 h7p
  go_enter Tryd.func9, Tryd.ntmps9
  go_upto_region 1 with fail
  rw [← HW1.out, HD.out.1]
  clear HW1
  go_upto_region 2 with fail
  rw [← HW2.out, HD.out.2]
  clear HW2 q0 q1 q2 q3 q4 q5 q6 q7 q8 q9 q10 q11 q12 q13 q14 q15
  go_wp2_with fail
  refine Calls.mono KY.out ?_
  rintro e w3 ⟨rfl, hw3⟩
  subst w3
  clear KY
  go_upto_region 10 with fail
  go_cut [6] (fun v6 wx => v6 = .bool (decide ((nw : Int) < L)) ∧ wx = w2.drew)
  case first =>
    go_region_law (go_simp; go_at_call 26; refine Calls.mono LS.out ?_; rintro e w3 ⟨rfl, hw3⟩; subst w3)
    all_goals (first | (go_wp2_with fail; go_meet) | go_meet)
    all_goals exact ⟨rfl, rfl⟩
  case rest =>
    obtain ⟨rfl, rfl⟩ := hcut
    clear LS
    have H3 : Hid (RfSt N Q H w2.drew (.slice aL fin.length cL) fin lb wts true p) := H2.out.under (below_drewN (Below.refl _ _) 1)
    have K3 : Hid (w2.drew.heap[D]? = some (.cells #[.string tk.text, .int .i64 tk.off, .int .i64 tk.line, .int .i64 tk.col] 36 (0, 0)) ∧ w2.drew.heap[D + 1]? = some (.cells #[.int .i64 (k : Nat), .string p.s.label.text, .int .i64 p.s.label.off, .int .i64 p.s.label.line, .int .i64 p.s.label.col, .string p.s.key.text, .int .i64 p.s.key.off, .int .i64 p.s.key.line, .int .i64 p.s.key.col, .bool pr, .slice aw nw cw, .slice ap np cp, .string p.s.fin.text, .int .i64 p.s.fin.off, .int .i64 p.s.fin.line, .int .i64 p.s.fin.col] 38 (0, 0))) := K2.out
    have HB3 : Hid (Below N w w2.drew) := below_drewN HBN.out 1
    have HZ3 : Hid (N ≤ w2.drew.heap.size) := HZ.out
    clear x0 x1 x2 x3 y0 y9 y10 H2 K2 HBN HZ HQ
    generalize w2.drew = w4 at *
    have x0 : w4.cell? ⟨D, 0, none⟩ = some (.string tk.text) := M.cell_whole K3.out.1 0
    have x1 : w4.cell? ⟨D, 1, none⟩ = some (.int .i64 tk.off) := M.cell_whole K3.out.1 1
    have x2 : w4.cell? ⟨D, 2, none⟩ = some (.int .i64 tk.line) := M.cell_whole K3.out.1 2
    have x3 : w4.cell? ⟨D, 3, none⟩ = some (.int .i64 tk.col) := M.cell_whole K3.out.1 3
    have y0 : w4.cell? ⟨D + 1, 0, none⟩ = some (.int .i64 (k : Nat)) := M.cell_whole K3.out.2 0
    have y9 : w4.cell? ⟨D + 1, 9, none⟩ = some (.bool pr) := M.cell_whole K3.out.2 9
    obtain ⟨k7, rfl⟩ : ((k : Int) == 7) = true ∧ pr = true := h7c.elim (fun e => absurd (show ((k : Int) == 7) = true by rw [beq_iff_eq]; have := HK7.out; omega) (by rw [e]; exact Bool.false_ne_true)) id
    have d19 : w4.cell? ⟨Q, 19, none⟩ = some (.string p.s.fin.text) := M.cell_whole H3.out.box 19
    have f19 : w4.frozen? ⟨Q, 19, none⟩ = false := by simp [World.frozen?, H3.out.box]
    have d20 : w4.cell? ⟨Q, 20, none⟩ = some (.int .i64 p.s.fin.off) := M.cell_whole H3.out.box 20
    have f20 : w4.frozen? ⟨Q, 20, none⟩ = false := by simp [World.frozen?, H3.out.box]
    have d21 : w4.cell? ⟨Q, 21, none⟩ = some (.int .i64 p.s.fin.line) := M.cell_whole H3.out.box 21
    have f21 : w4.frozen? ⟨Q, 21, none⟩ = false := by simp [World.frozen?, H3.out.box]
    have d22 : w4.cell? ⟨Q, 22, none⟩ = some (.int .i64 p.s.fin.col) := M.cell_whole H3.out.box 22
    have f22 : w4.frozen? ⟨Q, 22, none⟩ = false := by simp [World.frozen?, H3.out.box]
    go_upto_region 21 with fail
    obtain ⟨w5, hw5⟩ : ∃ w5, w5 = ((((w4.setCell ⟨Q, 19, none⟩ (.string tk.text)).setCell ⟨Q, 20, none⟩ (.int .i64 tk.off)).setCell ⟨Q, 21, none⟩ (.int .i64 tk.line)).setCell ⟨Q, 22, none⟩ (.int .i64 tk.col)) := ⟨_, rfl⟩
    have C5 : M.Ch (fun b => b = Q) w4 w5 := by rw [hw5]; exact (((M.ch_set w4 Q 19 _).trans (M.ch_set _ Q 20 _)).trans (M.ch_set _ Q 21 _)).trans (M.ch_set _ Q 22 _)
    have H5 : Hid (RfSt N Q H w5 (.slice aL fin.length cL) fin lb wts true (⟨{ p.s with fin := tk }, p.g, p.vw, p.vp⟩ : Itm)) := H3.out.cells C5 (by rw [hw5]; exact M.heap_set_same (M.heap_set_same (M.heap_set_same (M.heap_set_same H3.out.box)))) rfl rfl
    have HB5 : Hid (Below N w w5) := HB3.out.trans (C5.below HZ3.out fun b e => by rw [e]; exact H3.out.ge)
    have HZ5 : Hid (N ≤ w5.heap.size) := Nat.le_trans HZ3.out C5.size
    rw [← hw5]
    clear hw5 C5 x0 x1 x2 x3 y0 y9 d19 d20 d21 d22 f19 f20 f21 f22 H3 K3 HB3 HZ3
    have r0 : w5.cell? ⟨Q, 0, none⟩ = some (.slice aL fin.length cL) := M.cell_whole H5.out.box 0
    have r7 : w5.cell? ⟨Q, 7, none⟩ = some (.int .i64 p.s.kind) := M.cell_whole H5.out.box 7
    have r8 : w5.cell? ⟨Q, 8, none⟩ = some (.string p.s.label.text) := M.cell_whole H5.out.box 8
    have r9 : w5.cell? ⟨Q, 9, none⟩ = some (.int .i64 p.s.label.off) := M.cell_whole H5.out.box 9
    have r10 : w5.cell? ⟨Q, 10, none⟩ = some (.int .i64 p.s.label.line) := M.cell_whole H5.out.box 10
    have r11 : w5.cell? ⟨Q, 11, none⟩ = some (.int .i64 p.s.label.col) := M.cell_whole H5.out.box 11
    have r12 : w5.cell? ⟨Q, 12, none⟩ = some (.string p.s.key.text) := M.cell_whole H5.out.box 12
    have r13 : w5.cell? ⟨Q, 13, none⟩ = some (.int .i64 p.s.key.off) := M.cell_whole H5.out.box 13
    have r14 : w5.cell? ⟨Q, 14, none⟩ = some (.int .i64 p.s.key.line) := M.cell_whole H5.out.box 14
    have r15 : w5.cell? ⟨Q, 15, none⟩ = some (.int .i64 p.s.key.col) := M.cell_whole H5.out.box 15
    have r16 : w5.cell? ⟨Q, 16, none⟩ = some (.bool p.s.proving) := M.cell_whole H5.out.box 16
    have r17 : w5.cell? ⟨Q, 17, none⟩ = some (p.vw) := M.cell_whole H5.out.box 17
    have r18 : w5.cell? ⟨Q, 18, none⟩ = some (p.vp) := M.cell_whole H5.out.box 18
    have r19 : w5.cell? ⟨Q, 19, none⟩ = some (.string tk.text) := M.cell_whole H5.out.box 19
    have r20 : w5.cell? ⟨Q, 20, none⟩ = some (.int .i64 tk.off) := M.cell_whole H5.out.box 20
    have r21 : w5.cell? ⟨Q, 21, none⟩ = some (.int .i64 tk.line) := M.cell_whole H5.out.box 21
    have r22 : w5.cell? ⟨Q, 22, none⟩ = some (.int .i64 tk.col) := M.cell_whole H5.out.box 22
    have ONE : Hid (∀ u ∈ (#[.int .i64 p.s.kind, .string p.s.label.text, .int .i64 p.s.label.off, .int .i64 p.s.label.line, .int .i64 p.s.label.col, .string p.s.key.text, .int .i64 p.s.key.off, .int .i64 p.s.key.line, .int .i64 p.s.key.col, .bool p.s.proving, p.vw, p.vp, .string tk.text, .int .i64 tk.off, .int .i64 tk.line, .int .i64 tk.col] : Array Value).toList, u.oneCell' = true) := fun u hu => by
      rw [HE.out.1, HE.out.2.1] at hu
      simp at hu
      rcases hu with rfl | rfl | rfl | rfl | rfl | rfl | rfl | rfl | rfl | rfl | rfl | rfl | rfl | rfl | rfl | rfl <;> rfl
    have OW : Hid (w5.ownsRow N 38 16 (.slice aL fin.length cL) fin.length (rowS fin)) := H5.out.oL
    have HQ5 : Hid (Q < w5.heap.size) := H5.out.lt
    have e9 : (w5.alloc (.cells #[.int .i64 p.s.kind, .string p.s.label.text, .int .i64 p.s.label.off, .int .i64 p.s.label.line, .int .i64 p.s.label.col, .string p.s.key.text, .int .i64 p.s.key.off, .int .i64 p.s.key.line, .int .i64 p.s.key.col, .bool p.s.proving, p.vw, p.vp, .string tk.text, .int .i64 tk.off, .int .i64 tk.line, .int .i64 tk.col] 38)).cell? ⟨Q, 0, none⟩ = some (.slice aL fin.length cL) := (World.cell?_of_block (a := ⟨Q, 0, none⟩) (Below.heap_alloc _ _ Q HQ5.out)).trans r0
    go_cut [101] (fun _ wx => EndX N Q H w (.slice aL fin.length cL) fin lb wts (rwithinF p.s tk) (⟨{ p.s with fin := tk }, p.g, p.vw, p.vp⟩ : Itm) wx)
    case first =>
      go_region_law (refine step_append_lies _ (by rfl) _ _ _ (by rfl) N 38 iS _ 16 184 Tryd.underlying22 hiS iSz iSs iSb rfl (by omega) _ fin.length (rowS fin) (by rfl) (by exact (M.owns_alloc OW.out _)) ⟨w5.heap.size, 0, none⟩ 1 1 (#[.int .i64 p.s.kind, .string p.s.label.text, .int .i64 p.s.label.off, .int .i64 p.s.label.line, .int .i64 p.s.label.col, .string p.s.key.text, .int .i64 p.s.key.off, .int .i64 p.s.key.line, .int .i64 p.s.key.col, .bool p.s.proving, p.vw, p.vp, .string tk.text, .int .i64 tk.off, .int .i64 tk.line, .int .i64 tk.col] : Array Value).toList (by rfl) (by rfl) (fun j' u hu => World.news_of_block (cs := #[.int .i64 p.s.kind, .string p.s.label.text, .int .i64 p.s.label.off, .int .i64 p.s.label.line, .int .i64 p.s.label.col, .string p.s.key.text, .int .i64 p.s.key.off, .int .i64 p.s.key.line, .int .i64 p.s.key.col, .bool p.s.proving, p.vw, p.vp, .string tk.text, .int .i64 tk.off, .int .i64 tk.line, .int .i64 tk.col]) (t := 38) (fr := (0, 0)) (heap_alloc_new w5 _) j' u hu) (fun u hu => ONE.out u hu) (by omega) (by unfold maxLen; omega) (by omega) (by have := HZ5.out; simp; omega) _ rfl ?_; intro gg cap' w6 hown6 hgrow hat hlt6; have K6 : Hid (w6.heap[Q]? = some (.cells (refC (.slice aL fin.length cL) lb wts true (⟨{ p.s with fin := tk }, p.g, p.vw, p.vp⟩ : Itm)) 40 (0, 0))) := (hgrow.block Q (by have := HQ5.out; simp; omega) (fun e => H5.out.qL e.symm)).trans ((Below.heap_alloc _ _ Q HQ5.out).trans H5.out.box); have d0' : w6.cell? ⟨Q, 0, none⟩ = some (.slice aL fin.length cL) := M.cell_whole K6.out 0; have f0' : w6.frozen? ⟨Q, 0, none⟩ = false := (by simp [World.frozen?, K6.out]); have CL0 : Hid (∀ W'' : World, M.Ch (fun b => b = Q) w6 W'' → W''.heap[Q]? = some (.cells (refC (.slice (some ⟨gg, 0, none⟩) (fin.length + 1) cap') lb wts false zItm) 40 (0, 0)) → RfW N Q H w (.slice aL fin.length cL) fin lb wts (rwithinF p.s tk) (.returned (.int .i64 0)) W'') := (by intro W'' hc hb; rw [E.out]; have h9 : Below w5.heap.size w5 (w5.alloc (.cells #[.int .i64 p.s.kind, .string p.s.label.text, .int .i64 p.s.label.off, .int .i64 p.s.label.line, .int .i64 p.s.label.col, .string p.s.key.text, .int .i64 p.s.key.off, .int .i64 p.s.key.line, .int .i64 p.s.key.col, .bool p.s.proving, p.vw, p.vp, .string tk.text, .int .i64 tk.off, .int .i64 tk.line, .int .i64 tk.col] 38)).drew := below_drewN (below_alloc _ _) 1; exact ⟨rfl, (HB5.out.trans (h9.mono HZ5.out)).trans (((M.Ch.of_grown hgrow).below (Nat.le_trans HZ5.out h9.size) fun b e => M.own_ge' OW.out b e).trans (hc.below (Nat.le_trans HZ5.out (Nat.le_trans h9.size hgrow.size)) fun b e => by rw [e]; exact H5.out.ge)), .inr ⟨rfl, _, _, (⟨{ p.s with fin := tk }, p.g, p.vw, p.vp⟩ : Itm), rfl, RfSt.close (H5.out.under h9) hgrow hown6 (fun b e => M.loc_of hat b e) hc hb⟩⟩); have FIN : Hid (EndX N Q H w (.slice aL fin.length cL) fin lb wts (rwithinF p.s tk) (⟨{ p.s with fin := tk }, p.g, p.vw, p.vp⟩ : Itm) (w6.setCell ⟨Q, 0, none⟩ (.slice (some ⟨gg, 0, none⟩) (fin.length + 1) cap'))) := ⟨.slice (some ⟨gg, 0, none⟩) (fin.length + 1) cap', M.heap_set_same K6.out, fun W'' hc hb => CL0.out W'' ((M.ch_set _ _ _ _).trans hc) hb⟩; clear hgrow hat hown6 hlt6 CL0 K6)
      all_goals rename_i hJ hK
      all_goals refine hK _ _ (Met.intro (hJ _ _ ?_))
      all_goals (repeat apply Exists.intro)
      all_goals exact ⟨FIN.out, rfl⟩
    case rest =>
      obtain ⟨vN, H7, CL⟩ := hcut
      have H7 : Hid _ := H7
      have CL : Hid _ := CL
      clear e9 OW ONE r0 r7 r8 r9 r10 r11 r12 r13 r14 r15 r16 r17 r18 r19 r20 r21 r22
      go_upto_region 22 with fail
      iterate 14 (first | go_values | go_skip | go_guarded | go_step | go_upon | go_back)
      refine wp_store_mid 38 _ _ rfl Q 7 #[.int .i64 0, .string ⟨#[]⟩, .int .i64 0, .int .i64 0, .int .i64 0, .string ⟨#[]⟩, .int .i64 0, .int .i64 0, .int .i64 0, .bool false, .slice none 0 0, .slice none 0 0, .string ⟨#[]⟩, .int .i64 0, .int .i64 0, .int .i64 0] rfl rfl (there_at H7.out (Nat.le_refl 23)) (by kernel_rfl) (by simp [Value.oneCell']) ?_
      obtain ⟨wz, hwz⟩ : ∃ wz, wz = wc.setCells Q 7 #[.int .i64 0, .string ⟨#[]⟩, .int .i64 0, .int .i64 0, .int .i64 0, .string ⟨#[]⟩, .int .i64 0, .int .i64 0, .int .i64 0, .bool false, .slice none 0 0, .slice none 0 0, .string ⟨#[]⟩, .int .i64 0, .int .i64 0, .int .i64 0].toList := ⟨_, rfl⟩
      have CZ : Hid (M.Ch (fun b => b = Q) wc wz) := by show M.Ch _ _ _; rw [hwz]; exact ch_setCells Q _ 7 wc
      have KZ : Hid (wz.heap[Q]? = some (.cells (refC vN lb wts true zItm) 40 (0, 0))) := by show _ = _; rw [hwz]; exact setCells_whole Q 40 [.int .i64 0, .string ⟨#[]⟩, .int .i64 0, .int .i64 0, .int .i64 0, .string ⟨#[]⟩, .int .i64 0, .int .i64 0, .int .i64 0, .bool false, .slice none 0 0, .slice none 0 0, .string ⟨#[]⟩, .int .i64 0, .int .i64 0, .int .i64 0] [vN, .string lb.text, .int .i64 lb.off, .int .i64 lb.line, .int .i64 lb.col, .bool wts, .bool true] _ wc H7.out rfl
      rw [← hwz]
      clear hwz
      have d6 : wz.cell? ⟨Q, 6, none⟩ = some (.bool true) := M.cell_whole KZ.out 6
      have f6 : wz.frozen? ⟨Q, 6, none⟩ = false := by simp [World.frozen?, KZ.out]
      go_wp2
      go_ret
      exact CL.out _ (CZ.out.trans (M.ch_set wz Q 6 _)) (M.heap_set_same KZ.out)

end Go.Proofs.YtipfhfeaalbmcabDoor
