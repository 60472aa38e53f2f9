/- The document's reader: a word within a statement. -/
import Derived.Test.YtipfhfeaalbmcabDoorRfSt
namespace Go.Proofs.YtipfhfeaalbmcabDoor
open Go.RowKit

/-- What a word does within a statement, by the document. -/
def rwithinF (s : Stm) (t : Tok) : Int × Stm × Bool :=
  if keyB t.text = false then
    if s.proving = true then (0, { s with proof := s.proof ++ [t] }, false)
    else if fullB s.kind.toNat s.words.length = true then (62, s, false) else (0, { s with words := s.words ++ [t] }, false)
  else if t.text = eqS ∧ s.kind = 7 ∧ s.proving = false then
    if (s.words.length : Int) < lstI s.kind.toNat then (62, s, false) else (0, { s with proving := true }, false)
  else if t.text ≠ dotS then (60, s, false)
  else if (s.words.length : Int) < lstI s.kind.toNat ∨ (s.kind = 7 ∧ s.proving = false) then (62, s, false)
  else (0, { s with fin := t }, true)
def RfW (N Q : Nat) (H : Nat → Prop) (w : World) (vL : Value) (fin : List Itm) (lb : Tok) (wts : Bool) (r : Int × Stm × Bool) (e : Ending) (w' : World) : Prop :=
  e = .returned (.int .i64 r.1) ∧ Below N w w' ∧ ((r.2.2 = false ∧ ∃ p', p'.s = r.2.1 ∧ RfSt N Q H w' vL fin lb wts true p') ∨ (r.2.2 = true ∧ ∃ H' vL' x, x.s = r.2.1 ∧ RfSt N Q H' w' vL' (fin ++ [x]) lb wts false zItm))

set_option maxRecDepth 100000 in
set_option maxHeartbeats 16000000 in
theorem rwithin_word (w : World) (N Q : Nat) (H : Nat → Prop) (vL : Value) (fin : List Itm) (lb : Tok) (wts : Bool) (p : Itm) (tk : Tok) (h : RfSt N Q H w vL fin lb wts true p) (k : Nat) (hk : p.s.kind = k) (hk0 : 0 < k) (hk10 : k < 10) (hN : N ≤ w.heap.size) (_ : fin.length ≤ 1048576) (hnw : p.s.words.length ≤ 1048576) (hnp : p.s.proof.length ≤ 1048576) (ht : tk.text.size ≤ 1048576) (hky : keyB tk.text = false) :
    Calls Tryd.prog 9 #[.pointer (some ⟨Q, 0, none⟩), tokV tk] w (RfW N Q H w vL fin lb wts (rwithinF p.s tk)) := by
  obtain ⟨ip, hip, ipz, ips, ipb⟩ := info_parts infoT
  obtain ⟨iS, hiS, iSz, iSs, iSb⟩ := info_parts infoSM
  obtain ⟨aw, cw, ew⟩ : ∃ a c, p.vw = .slice a p.s.words.length c := by obtain ⟨a, c, e, _⟩ := own_shape h.ow; exact ⟨a, c, e⟩
  obtain ⟨ap, cp, ep⟩ : ∃ a c, p.vp = .slice a p.s.proof.length c := by obtain ⟨a, c, e, _⟩ := own_shape h.op; exact ⟨a, c, e⟩
  obtain ⟨nw, hlw⟩ : ∃ nw, p.s.words.length = nw := ⟨_, rfl⟩
  obtain ⟨np, hlp⟩ : ∃ np, p.s.proof.length = np := ⟨_, rfl⟩
  rw [hlw] at ew hnw
  rw [hlp] at ep hnp
  obtain ⟨w1, hw1⟩ : ∃ w1, w1 = w.alloc (.cells #[.string tk.text, .int .i64 tk.off, .int .i64 tk.line, .int .i64 tk.col] 36) := ⟨_, rfl⟩
  have b1 : Below w.heap.size w w1 := by rw [hw1]; exact below_alloc _ _
  have hs1 : w1.heap.size = w.heap.size + 1 := by rw [hw1]; simp
  have hk1 : w1.heap[w.heap.size]? = some (.cells #[.string tk.text, .int .i64 tk.off, .int .i64 tk.line, .int .i64 tk.col] 36 (0, 0)) := by rw [hw1]; exact heap_alloc_new w _
  have h1 := h.under b1
  obtain ⟨pr, hpr⟩ : ∃ pr, p.s.proving = pr := ⟨_, rfl⟩
  obtain ⟨w2, hw2⟩ : ∃ w2, w2 = w1.alloc (.cells #[.int .i64 (k : Nat), .string p.s.label.text, .int .i64 p.s.label.off, .int .i64 p.s.label.line, .int .i64 p.s.label.col, .string p.s.key.text, .int .i64 p.s.key.off, .int .i64 p.s.key.line, .int .i64 p.s.key.col, .bool pr, .slice aw nw cw, .slice ap np cp, .string p.s.fin.text, .int .i64 p.s.fin.off, .int .i64 p.s.fin.line, .int .i64 p.s.fin.col] 38) := ⟨_, rfl⟩
  have b2 : Below w1.heap.size w1 w2 := by rw [hw2]; exact below_alloc _ _
  have hk2 : w2.heap[w1.heap.size]? = some (.cells #[.int .i64 (k : Nat), .string p.s.label.text, .int .i64 p.s.label.off, .int .i64 p.s.label.line, .int .i64 p.s.label.col, .string p.s.key.text, .int .i64 p.s.key.off, .int .i64 p.s.key.line, .int .i64 p.s.key.col, .bool pr, .slice aw nw cw, .slice ap np cp, .string p.s.fin.text, .int .i64 p.s.fin.off, .int .i64 p.s.fin.line, .int .i64 p.s.fin.col] 38 (0, 0)) := by rw [hw2]; exact heap_alloc_new w1 _
  have H2 : Hid (RfSt N Q H w2 vL fin lb wts true p) := h1.under b2
  have B2 : Hid (Below w.heap.size w w2) := b1.trans (b2.mono b1.size)
  obtain ⟨D, hD⟩ : ∃ D, w.heap.size = D := ⟨_, rfl⟩
  have K2 : Hid (w2.heap[D]? = some (.cells #[.string tk.text, .int .i64 tk.off, .int .i64 tk.line, .int .i64 tk.col] 36 (0, 0)) ∧ w2.heap[D + 1]? = some (.cells #[.int .i64 (k : Nat), .string p.s.label.text, .int .i64 p.s.label.off, .int .i64 p.s.label.line, .int .i64 p.s.label.col, .string p.s.key.text, .int .i64 p.s.key.off, .int .i64 p.s.key.line, .int .i64 p.s.key.col, .bool pr, .slice aw nw cw, .slice ap np cp, .string p.s.fin.text, .int .i64 p.s.fin.off, .int .i64 p.s.fin.line, .int .i64 p.s.fin.col] 38 (0, 0))) := by
    rw [hD] at hk1 hs1
    rw [hs1] at hk2
    exact ⟨(b2.block D (by omega)).trans hk1, hk2⟩
  have HE : Hid (p.vw = .slice aw nw cw ∧ p.vp = .slice ap np cp ∧ p.s.words.length = nw ∧ p.s.proof.length = np ∧ p.s.kind = k ∧ p.s.proving = pr) := ⟨ew, ep, hlw, hlp, hk, hpr⟩
  have c1 : ∀ i v, (refC vL lb wts true p)[i]? = some v → w1.cell? ⟨Q, i, none⟩ = some v := fun i v hv => (M.cell_whole h1.box i).trans hv
  have q0 : w1.cell? ⟨Q, 7, none⟩ = some (.int .i64 (k : Nat)) := by rw [← hk]; exact c1 7 _ rfl
  have q1 : w1.cell? ⟨Q, 8, none⟩ = some (.string p.s.label.text) := c1 8 _ rfl
  have q2 : w1.cell? ⟨Q, 9, none⟩ = some (.int .i64 p.s.label.off) := c1 9 _ rfl
  have q3 : w1.cell? ⟨Q, 10, none⟩ = some (.int .i64 p.s.label.line) := c1 10 _ rfl
  have q4 : w1.cell? ⟨Q, 11, none⟩ = some (.int .i64 p.s.label.col) := c1 11 _ rfl
  have q5 : w1.cell? ⟨Q, 12, none⟩ = some (.string p.s.key.text) := c1 12 _ rfl
  have q6 : w1.cell? ⟨Q, 13, none⟩ = some (.int .i64 p.s.key.off) := c1 13 _ rfl
  have q7 : w1.cell? ⟨Q, 14, none⟩ = some (.int .i64 p.s.key.line) := c1 14 _ rfl
  have q8 : w1.cell? ⟨Q, 15, none⟩ = some (.int .i64 p.s.key.col) := c1 15 _ rfl
  have q9 : w1.cell? ⟨Q, 16, none⟩ = some (.bool pr) := by rw [← hpr]; exact c1 16 _ rfl
  have q10 : w1.cell? ⟨Q, 17, none⟩ = some (.slice aw nw cw) := by rw [← ew]; exact c1 17 _ rfl
  have q11 : w1.cell? ⟨Q, 18, none⟩ = some (.slice ap np cp) := by rw [← ep]; exact c1 18 _ rfl
  have q12 : w1.cell? ⟨Q, 19, none⟩ = some (.string p.s.fin.text) := c1 19 _ rfl
  have q13 : w1.cell? ⟨Q, 20, none⟩ = some (.int .i64 p.s.fin.off) := c1 20 _ rfl
  have q14 : w1.cell? ⟨Q, 21, none⟩ = some (.int .i64 p.s.fin.line) := c1 21 _ rfl
  have q15 : w1.cell? ⟨Q, 22, none⟩ = some (.int .i64 p.s.fin.col) := c1 22 _ rfl
  have HW1 : Hid (w1 = w.alloc (.cells #[.string tk.text, .int .i64 tk.off, .int .i64 tk.line, .int .i64 tk.col] 36)) := hw1
  have HW2 : Hid (w2 = w1.alloc (.cells #[.int .i64 (k : Nat), .string p.s.label.text, .int .i64 p.s.label.off, .int .i64 p.s.label.line, .int .i64 p.s.label.col, .string p.s.key.text, .int .i64 p.s.key.off, .int .i64 p.s.key.line, .int .i64 p.s.key.col, .bool pr, .slice aw nw cw, .slice ap np cp, .string p.s.fin.text, .int .i64 p.s.fin.off, .int .i64 p.s.fin.line, .int .i64 p.s.fin.col] 38)) := hw2
  have HD : Hid (w.heap.size = D ∧ w1.heap.size = D + 1) := ⟨hD, by omega⟩
  have HNs : Hid (N ≤ w.heap.size) := hN
  have x0 : w2.cell? ⟨D, 0, none⟩ = some (.string tk.text) := M.cell_whole K2.out.1 0
  have KY : Hid _ := rkey_any tk.text w2 (by omega)
  have y0 : w2.cell? ⟨D + 1, 0, none⟩ = some (.int .i64 (k : Nat)) := M.cell_whole K2.out.2 0
  have y9 : w2.cell? ⟨D + 1, 9, none⟩ = some (.bool pr) := M.cell_whole K2.out.2 9
  have y10 : w2.cell? ⟨D + 1, 10, none⟩ = some (.slice aw nw cw) := M.cell_whole K2.out.2 10
  have x1 : w2.cell? ⟨D, 1, none⟩ = some (.int .i64 tk.off) := M.cell_whole K2.out.1 1
  have x2 : w2.cell? ⟨D, 2, none⟩ = some (.int .i64 tk.line) := M.cell_whole K2.out.1 2
  have x3 : w2.cell? ⟨D, 3, none⟩ = some (.int .i64 tk.col) := M.cell_whole K2.out.1 3
  have HQ : Hid (Q < w2.heap.size) := H2.out.lt
  have HZ : Hid (N ≤ w2.heap.size) := Nat.le_trans hN B2.out.size
  have HBN : Hid (Below N w w2) := B2.out.mono hN
  unfold tokV
  clear hw1 hw2 b1 b2 hs1 hk1 hk2 hD c1 h h1 ew ep hlw hlp hk hpr hN
  rw [hky] at KY
  cases pr with
  | true =>
    have E : Hid (rwithinF p.s tk = (0, { p.s with proof := p.s.proof ++ [tk] }, false)) := by show _ = _; unfold rwithinF; rw [if_pos hky, if_pos HE.out.2.2.2.2.2]
    clear hky
    go_enter Tryd.func9, Tryd.ntmps9
    go_upto_region 1 with fail
    rw [← HW1.out, HD.out.1]
    clear HW1
    go_upto_region 2 with fail
    rw [← HW2.out, HD.out.2]
    clear HW2 q0 q1 q2 q3 q4 q5 q6 q7 q8 q9 q10 q11 q12 q13 q14 q15
    go_wp2_with fail
    refine Calls.mono KY.out ?_
    rintro e w3 ⟨rfl, hw3⟩
    subst w3
    clear KY
    have dO : w2.cell? ⟨Q, 18, none⟩ = some (.slice ap np cp) := by rw [← HE.out.2.1]; exact M.cell_whole H2.out.box 18
    have OWN : Hid (w2.ownsRow N 36 4 (.slice ap np cp) np (rowT p.s.proof)) := by have h := H2.out.op; rw [HE.out.2.1, HE.out.2.2.2.1] at h; exact h
    have HV : Hid ((Value.slice ap np cp).ownBlock ≠ some Q) := by have h := H2.out.qp; rw [HE.out.2.1] at h; exact h
    go_upto_region 4 with fail
    have e9 : (w2.alloc (.cells #[.string tk.text, .int .i64 tk.off, .int .i64 tk.line, .int .i64 tk.col] 36)).cell? ⟨Q, 18, none⟩ = some (.slice ap np cp) := (World.cell?_of_block (a := ⟨Q, 18, none⟩) (Below.heap_alloc _ _ Q HQ.out)).trans dO
    go_region_law (refine step_append_lies _ (by rfl) _ _ _ (by rfl) N 36 ip _ 4 40 Tryd.underlying29 hip ipz ips ipb rfl (by omega) _ np (rowT p.s.proof) (by rfl) (by exact (M.owns_alloc OWN.out _)) ⟨w2.heap.size, 0, none⟩ 1 1 (tokCells tk) (by rfl) (by rfl) (World.news_of_block (cs := #[.string tk.text, .int .i64 tk.off, .int .i64 tk.line, .int .i64 tk.col]) (t := 36) (fr := (0, 0)) (heap_alloc_new w2 _)) (by simp [tokCells, Value.oneCell']) (by omega) (by unfold maxLen; omega) (by omega) (by have := HZ.out; simp; omega) _ rfl ?_; intro gg cap' w3 hown3 hgrow hat hlt3; have K3 : Hid (w3.heap[Q]? = some (.cells (refC vL lb wts true p) 40 (0, 0))) := (hgrow.block Q (by have := HQ.out; simp; omega) (fun e => HV.out e.symm)).trans ((Below.heap_alloc _ _ Q HQ.out).trans H2.out.box); have d9' : w3.cell? ⟨Q, 18, none⟩ = some (.slice ap np cp) := (by rw [← HE.out.2.1]; exact M.cell_whole K3.out 18); have f9' : w3.frozen? ⟨Q, 18, none⟩ = false := (by simp [World.frozen?, K3.out]); have PO : Hid (AppPost w2 (w3.setCell ⟨Q, 18, none⟩ (.slice (some ⟨gg, 0, none⟩) (np + 1) cap')) N Q 18 (refC vL lb wts true p) 40 (.slice ap np cp) p.s.proof tk) := (by have hl := HE.out.2.2.2.1; have hV := HV.out; clear HE dO OWN HV e9 d9' f9' y10; subst hl; exact AppPost.of H2.out.box (show Below w2.heap.size w2 (w2.alloc (.cells #[.string tk.text, .int .i64 tk.off, .int .i64 tk.line, .int .i64 tk.col] 36)).drew from below_drewN (below_alloc _ _) 1) hgrow hat hV hown3 rfl); clear hgrow hat hown3 hlt3)
    all_goals obtain ⟨p', e1, e2, e3⟩ := RfSt.more (tk := tk) H2.out (show AppPost w2 (w3.setCell ⟨Q, 18, none⟩ (.slice (some ⟨gg, 0, none⟩) (np + 1) cap')) N Q 18 (refC vL lb wts true p) 40 p.vp p.s.proof tk by rw [HE.out.2.1]; exact PO.out)
    all_goals have FI : Hid (RfW N Q H w vL fin lb wts (rwithinF p.s tk) (.returned (.int .i64 0)) (w3.setCell ⟨Q, 18, none⟩ (.slice (some ⟨gg, 0, none⟩) (np + 1) cap'))) := (by show RfW _ _ _ _ _ _ _ _ _ _ _; rw [E.out]; exact ⟨rfl, HBN.out.trans (e3.below HZ.out fun b e => e.elim (fun e => by rw [e]; exact H2.out.ge) fun e => M.own_ge' H2.out.op b e), .inl ⟨rfl, p', e1, e2⟩⟩)
    all_goals clear e1 e2 e3 PO K3 d9' f9'
    all_goals go_wp2
    all_goals go_ret
    all_goals exact FI.out
  | false =>
    have FU : Hid _ := rfull_any w2 k nw hk10 hk0
    cases hfu : fullB k nw with
    | true =>
      have E : Hid (rwithinF p.s tk = (62, p.s, false)) := by show _ = _; unfold rwithinF; rw [if_pos hky, if_neg (by rw [HE.out.2.2.2.2.2]; exact Bool.false_ne_true), if_pos (show fullB p.s.kind.toNat p.s.words.length = true by rw [HE.out.2.2.1, HE.out.2.2.2.2.1, Int.toNat_natCast]; exact hfu)]
      rw [hfu] at FU
      clear hky hfu
      go_enter Tryd.func9, Tryd.ntmps9
      go_upto_region 1 with fail
      rw [← HW1.out, HD.out.1]
      clear HW1
      go_upto_region 2 with fail
      rw [← HW2.out, HD.out.2]
      clear HW2 q0 q1 q2 q3 q4 q5 q6 q7 q8 q9 q10 q11 q12 q13 q14 q15
      go_wp2_with fail
      refine Calls.mono KY.out ?_
      rintro e w3 ⟨rfl, hw3⟩
      subst w3
      clear KY
      go_wp2_with fail
      refine Calls.mono FU.out ?_
      rintro e w3 ⟨rfl, hw3⟩
      subst w3
      clear FU
      go_wp2
      go_ret
      show RfW _ _ _ _ _ _ _ _ _ _ _
      rw [E.out]
      exact ⟨rfl, HBN.out, .inl ⟨rfl, p, rfl, H2.out⟩⟩
    | false =>
      have E : Hid (rwithinF p.s tk = (0, { p.s with words := p.s.words ++ [tk] }, false)) := by show _ = _; unfold rwithinF; rw [if_pos hky, if_neg (by rw [HE.out.2.2.2.2.2]; exact Bool.false_ne_true), if_neg (show ¬ fullB p.s.kind.toNat p.s.words.length = true by rw [HE.out.2.2.1, HE.out.2.2.2.2.1, Int.toNat_natCast, hfu]; exact Bool.false_ne_true)]
      rw [hfu] at FU
      clear hky hfu
      go_enter Tryd.func9, Tryd.ntmps9
      go_upto_region 1 with fail
      rw [← HW1.out, HD.out.1]
      clear HW1
      go_upto_region 2 with fail
      rw [← HW2.out, HD.out.2]
      clear HW2 q0 q1 q2 q3 q4 q5 q6 q7 q8 q9 q10 q11 q12 q13 q14 q15
      go_wp2_with fail
      refine Calls.mono KY.out ?_
      rintro e w3 ⟨rfl, hw3⟩
      subst w3
      clear KY
      go_wp2_with fail
      refine Calls.mono FU.out ?_
      rintro e w3 ⟨rfl, hw3⟩
      subst w3
      clear FU
      have dO : w2.cell? ⟨Q, 17, none⟩ = some (.slice aw nw cw) := by rw [← HE.out.1]; exact M.cell_whole H2.out.box 17
      have OWN : Hid (w2.ownsRow N 36 4 (.slice aw nw cw) nw (rowT p.s.words)) := by have h := H2.out.ow; rw [HE.out.1, HE.out.2.2.1] at h; exact h
      have HV : Hid ((Value.slice aw nw cw).ownBlock ≠ some Q) := by have h := H2.out.qw; rw [HE.out.1] at h; exact h
      go_upto_region 8 with fail
      have e9 : (w2.alloc (.cells #[.string tk.text, .int .i64 tk.off, .int .i64 tk.line, .int .i64 tk.col] 36)).cell? ⟨Q, 17, none⟩ = some (.slice aw nw cw) := (World.cell?_of_block (a := ⟨Q, 17, none⟩) (Below.heap_alloc _ _ Q HQ.out)).trans dO
      go_region_law (refine step_append_lies _ (by rfl) _ _ _ (by rfl) N 36 ip _ 4 40 Tryd.underlying29 hip ipz ips ipb rfl (by omega) _ nw (rowT p.s.words) (by rfl) (by exact (M.owns_alloc OWN.out _)) ⟨w2.heap.size, 0, none⟩ 1 1 (tokCells tk) (by rfl) (by rfl) (World.news_of_block (cs := #[.string tk.text, .int .i64 tk.off, .int .i64 tk.line, .int .i64 tk.col]) (t := 36) (fr := (0, 0)) (heap_alloc_new w2 _)) (by simp [tokCells, Value.oneCell']) (by omega) (by unfold maxLen; omega) (by omega) (by have := HZ.out; simp; omega) _ rfl ?_; intro gg cap' w3 hown3 hgrow hat hlt3; have K3 : Hid (w3.heap[Q]? = some (.cells (refC vL lb wts true p) 40 (0, 0))) := (hgrow.block Q (by have := HQ.out; simp; omega) (fun e => HV.out e.symm)).trans ((Below.heap_alloc _ _ Q HQ.out).trans H2.out.box); have d9' : w3.cell? ⟨Q, 17, none⟩ = some (.slice aw nw cw) := (by rw [← HE.out.1]; exact M.cell_whole K3.out 17); have f9' : w3.frozen? ⟨Q, 17, none⟩ = false := (by simp [World.frozen?, K3.out]); have PO : Hid (AppPost w2 (w3.setCell ⟨Q, 17, none⟩ (.slice (some ⟨gg, 0, none⟩) (nw + 1) cap')) N Q 17 (refC vL lb wts true p) 40 (.slice aw nw cw) p.s.words tk) := (by have hl := HE.out.2.2.1; have hV := HV.out; clear HE dO OWN HV e9 d9' f9' y10; subst hl; exact AppPost.of H2.out.box (show Below w2.heap.size w2 (w2.alloc (.cells #[.string tk.text, .int .i64 tk.off, .int .i64 tk.line, .int .i64 tk.col] 36)).drew from below_drewN (below_alloc _ _) 1) hgrow hat hV hown3 rfl); clear hgrow hat hown3 hlt3)
      all_goals obtain ⟨p', e1, e2, e3⟩ := RfSt.word (tk := tk) H2.out (show AppPost w2 (w3.setCell ⟨Q, 17, none⟩ (.slice (some ⟨gg, 0, none⟩) (nw + 1) cap')) N Q 17 (refC vL lb wts true p) 40 p.vw p.s.words tk by rw [HE.out.1]; exact PO.out)
      all_goals have FI : Hid (RfW N Q H w vL fin lb wts (rwithinF p.s tk) (.returned (.int .i64 0)) (w3.setCell ⟨Q, 17, none⟩ (.slice (some ⟨gg, 0, none⟩) (nw + 1) cap'))) := (by show RfW _ _ _ _ _ _ _ _ _ _ _; rw [E.out]; exact ⟨rfl, HBN.out.trans (e3.below HZ.out fun b e => e.elim (fun e => by rw [e]; exact H2.out.ge) fun e => M.own_ge' H2.out.ow b e), .inl ⟨rfl, p', e1, e2⟩⟩)
      all_goals clear e1 e2 e3 PO K3 d9' f9'
      all_goals go_wp2
      all_goals go_ret
      all_goals exact FI.out
end Go.Proofs.YtipfhfeaalbmcabDoor
