/- The document's reader: a keyword within a statement. -/
import Derived.Test.YtipfhfeaalbmcabDoorRfW
import Derived.Deep.DeepCutAuto
namespace Go.Proofs.YtipfhfeaalbmcabDoor
open Go.RowKit

theorem there_at {W : World} {b o n : Nat} {t : TypeId} {cs : Array Value} (h : W.heap[b]? = some (.cells cs t (0, 0))) (hn : o + n ≤ cs.size) : W.there b o n := fun j hj => by
  refine ⟨?_, ?_⟩
  · rw [M.cell_whole h, Array.getElem?_eq_getElem (show o + j < cs.size by omega)]; rfl
  · simp [World.frozen?, h]
theorem ch_setCells (b : Nat) : ∀ (new : List Value) (o : Nat) (W : World), M.Ch (fun g => g = b) W (W.setCells b o new)
  | [], _, _ => M.Ch.refl _ _
  | v :: new, o, W => by rw [setCells_cons]; exact (M.ch_set W b o v).trans (ch_setCells b new (o + 1) _)
/-- The statement lies behind the others, and its place in the reader is not cleared yet. -/
def EndX (N Q : Nat) (H : Nat → Prop) (w : World) (vL : Value) (fin : List Itm) (lb : Tok) (wts : Bool) (r : Int × Stm × Bool) (p5 : Itm) (wx : World) : Prop :=
  ∃ v' : Value, wx.heap[Q]? = some (.cells (refC v' lb wts true p5) 40 (0, 0)) ∧ ∀ W'' : World, M.Ch (fun b => b = Q) wx W'' → W''.heap[Q]? = some (.cells (refC v' lb wts false zItm) 40 (0, 0)) → RfW N Q H w vL fin lb wts r (.returned (.int .i64 0)) W''
theorem rwithin_keyF {s : Stm} {t : Tok} {k nw : Nat} {pr : Bool} {L : Int} (hky : keyB t.text = true) (hk : s.kind = k) (hp : s.proving = pr) (hn : s.words.length = nw) (hL : lstI k = L) : rwithinF s t = if t.text = eqS ∧ k = 7 ∧ pr = false then (if (nw : Int) < L then (62, s, false) else (0, { s with proving := true }, false)) else if t.text ≠ dotS then (60, s, false) else if (nw : Int) < L ∨ (k = 7 ∧ pr = false) then (62, s, false) else (0, { s with fin := t }, true) := by
  have e7 : (s.kind = 7) = (k = 7) := propext (by rw [hk]; omega)
  have e1 : s.kind.toNat = k := by rw [hk, Int.toNat_natCast]
  unfold rwithinF
  rw [if_neg (by rw [hky]; exact fun e => by cases e)]
  simp only [e7, e1, hp, hn, hL]

set_option maxRecDepth 100000 in
set_option maxHeartbeats 16000000 in
theorem rwithin_key (w : World) (N Q : Nat) (H : Nat → Prop) (vL : Value) (fin : List Itm) (lb : Tok) (wts : Bool) (p : Itm) (tk : Tok) (h : RfSt N Q H w vL fin lb wts true p) (k : Nat) (hk : p.s.kind = k) (hk0 : 0 < k) (hk10 : k < 10) (hN : N ≤ w.heap.size) (_ : fin.length ≤ 1048576) (_ : p.s.words.length ≤ 1048576) (_ : p.s.proof.length ≤ 1048576) (ht : tk.text.size ≤ 1048576) (hky : keyB tk.text = true) (hne : ¬ (rwithinF p.s tk).2.2 = true) :
    Calls Tryd.prog 9 #[.pointer (some ⟨Q, 0, none⟩), tokV tk] w (RfW N Q H w vL fin lb wts (rwithinF p.s tk)) := by
  obtain ⟨ip, hip, ipz, ips, ipb⟩ := info_parts infoT
  obtain ⟨iS, hiS, iSz, iSs, iSb⟩ := info_parts infoSM
  obtain ⟨aw, cw, ew⟩ : ∃ a c, p.vw = .slice a p.s.words.length c := by obtain ⟨a, c, e, _⟩ := own_shape h.ow; exact ⟨a, c, e⟩
  obtain ⟨ap, cp, ep⟩ : ∃ a c, p.vp = .slice a p.s.proof.length c := by obtain ⟨a, c, e, _⟩ := own_shape h.op; exact ⟨a, c, e⟩
  obtain ⟨nw, hlw⟩ : ∃ nw, p.s.words.length = nw := ⟨_, rfl⟩
  obtain ⟨np, hlp⟩ : ∃ np, p.s.proof.length = np := ⟨_, rfl⟩
  rw [hlw] at ew
  rw [hlp] at ep
  obtain ⟨w1, hw1⟩ : ∃ w1, w1 = w.alloc (.cells #[.string tk.text, .int .i64 tk.off, .int .i64 tk.line, .int .i64 tk.col] 36) := ⟨_, rfl⟩
  have b1 : Below w.heap.size w w1 := by rw [hw1]; exact below_alloc _ _
  have hs1 : w1.heap.size = w.heap.size + 1 := by rw [hw1]; simp
  have hk1 : w1.heap[w.heap.size]? = some (.cells #[.string tk.text, .int .i64 tk.off, .int .i64 tk.line, .int .i64 tk.col] 36 (0, 0)) := by rw [hw1]; exact heap_alloc_new w _
  have h1 := h.under b1
  obtain ⟨pr, hpr⟩ : ∃ pr, p.s.proving = pr := ⟨_, rfl⟩
  obtain ⟨w2, hw2⟩ : ∃ w2, w2 = w1.alloc (.cells #[.int .i64 (k : Nat), .string p.s.label.text, .int .i64 p.s.label.off, .int .i64 p.s.label.line, .int .i64 p.s.label.col, .string p.s.key.text, .int .i64 p.s.key.off, .int .i64 p.s.key.line, .int .i64 p.s.key.col, .bool pr, .slice aw nw cw, .slice ap np cp, .string p.s.fin.text, .int .i64 p.s.fin.off, .int .i64 p.s.fin.line, .int .i64 p.s.fin.col] 38) := ⟨_, rfl⟩
  have b2 : Below w1.heap.size w1 w2 := by rw [hw2]; exact below_alloc _ _
  have hk2 : w2.heap[w1.heap.size]? = some (.cells #[.int .i64 (k : Nat), .string p.s.label.text, .int .i64 p.s.label.off, .int .i64 p.s.label.line, .int .i64 p.s.label.col, .string p.s.key.text, .int .i64 p.s.key.off, .int .i64 p.s.key.line, .int .i64 p.s.key.col, .bool pr, .slice aw nw cw, .slice ap np cp, .string p.s.fin.text, .int .i64 p.s.fin.off, .int .i64 p.s.fin.line, .int .i64 p.s.fin.col] 38 (0, 0)) := by rw [hw2]; exact heap_alloc_new w1 _
  have H2 : Hid (RfSt N Q H w2 vL fin lb wts true p) := h1.under b2
  have B2 : Hid (Below w.heap.size w w2) := b1.trans (b2.mono b1.size)
  obtain ⟨D, hD⟩ : ∃ D, w.heap.size = D := ⟨_, rfl⟩
  have K2 : Hid (w2.heap[D]? = some (.cells #[.string tk.text, .int .i64 tk.off, .int .i64 tk.line, .int .i64 tk.col] 36 (0, 0)) ∧ w2.heap[D + 1]? = some (.cells #[.int .i64 (k : Nat), .string p.s.label.text, .int .i64 p.s.label.off, .int .i64 p.s.label.line, .int .i64 p.s.label.col, .string p.s.key.text, .int .i64 p.s.key.off, .int .i64 p.s.key.line, .int .i64 p.s.key.col, .bool pr, .slice aw nw cw, .slice ap np cp, .string p.s.fin.text, .int .i64 p.s.fin.off, .int .i64 p.s.fin.line, .int .i64 p.s.fin.col] 38 (0, 0))) := by
    rw [hD] at hk1 hs1
    rw [hs1] at hk2
    exact ⟨(b2.block D (by omega)).trans hk1, hk2⟩
  have HE : Hid (p.vw = .slice aw nw cw ∧ p.vp = .slice ap np cp ∧ p.s.words.length = nw ∧ p.s.proof.length = np ∧ p.s.kind = k ∧ p.s.proving = pr) := ⟨ew, ep, hlw, hlp, hk, hpr⟩
  have c1 : ∀ i v, (refC vL lb wts true p)[i]? = some v → w1.cell? ⟨Q, i, none⟩ = some v := fun i v hv => (M.cell_whole h1.box i).trans hv
  have q0 : w1.cell? ⟨Q, 7, none⟩ = some (.int .i64 (k : Nat)) := by rw [← hk]; exact c1 7 _ rfl
  have q1 : w1.cell? ⟨Q, 8, none⟩ = some (.string p.s.label.text) := c1 8 _ rfl
  have q2 : w1.cell? ⟨Q, 9, none⟩ = some (.int .i64 p.s.label.off) := c1 9 _ rfl
  have q3 : w1.cell? ⟨Q, 10, none⟩ = some (.int .i64 p.s.label.line) := c1 10 _ rfl
  have q4 : w1.cell? ⟨Q, 11, none⟩ = some (.int .i64 p.s.label.col) := c1 11 _ rfl
  have q5 : w1.cell? ⟨Q, 12, none⟩ = some (.string p.s.key.text) := c1 12 _ rfl
  have q6 : w1.cell? ⟨Q, 13, none⟩ = some (.int .i64 p.s.key.off) := c1 13 _ rfl
  have q7 : w1.cell? ⟨Q, 14, none⟩ = some (.int .i64 p.s.key.line) := c1 14 _ rfl
  have q8 : w1.cell? ⟨Q, 15, none⟩ = some (.int .i64 p.s.key.col) := c1 15 _ rfl
  have q9 : w1.cell? ⟨Q, 16, none⟩ = some (.bool pr) := by rw [← hpr]; exact c1 16 _ rfl
  have q10 : w1.cell? ⟨Q, 17, none⟩ = some (.slice aw nw cw) := by rw [← ew]; exact c1 17 _ rfl
  have q11 : w1.cell? ⟨Q, 18, none⟩ = some (.slice ap np cp) := by rw [← ep]; exact c1 18 _ rfl
  have q12 : w1.cell? ⟨Q, 19, none⟩ = some (.string p.s.fin.text) := c1 19 _ rfl
  have q13 : w1.cell? ⟨Q, 20, none⟩ = some (.int .i64 p.s.fin.off) := c1 20 _ rfl
  have q14 : w1.cell? ⟨Q, 21, none⟩ = some (.int .i64 p.s.fin.line) := c1 21 _ rfl
  have q15 : w1.cell? ⟨Q, 22, none⟩ = some (.int .i64 p.s.fin.col) := c1 22 _ rfl
  have HW1 : Hid (w1 = w.alloc (.cells #[.string tk.text, .int .i64 tk.off, .int .i64 tk.line, .int .i64 tk.col] 36)) := hw1
  have HW2 : Hid (w2 = w1.alloc (.cells #[.int .i64 (k : Nat), .string p.s.label.text, .int .i64 p.s.label.off, .int .i64 p.s.label.line, .int .i64 p.s.label.col, .string p.s.key.text, .int .i64 p.s.key.off, .int .i64 p.s.key.line, .int .i64 p.s.key.col, .bool pr, .slice aw nw cw, .slice ap np cp, .string p.s.fin.text, .int .i64 p.s.fin.off, .int .i64 p.s.fin.line, .int .i64 p.s.fin.col] 38)) := hw2
  have HD : Hid (w.heap.size = D ∧ w1.heap.size = D + 1) := ⟨hD, by omega⟩
  have HNs : Hid (N ≤ w.heap.size) := hN
  have x0 : w2.cell? ⟨D, 0, none⟩ = some (.string tk.text) := M.cell_whole K2.out.1 0
  have KY : Hid _ := rkey_any tk.text w2 (by omega)
  have y0 : w2.cell? ⟨D + 1, 0, none⟩ = some (.int .i64 (k : Nat)) := M.cell_whole K2.out.2 0
  have y9 : w2.cell? ⟨D + 1, 9, none⟩ = some (.bool pr) := M.cell_whole K2.out.2 9
  have y10 : w2.cell? ⟨D + 1, 10, none⟩ = some (.slice aw nw cw) := M.cell_whole K2.out.2 10
  have x1 : w2.cell? ⟨D, 1, none⟩ = some (.int .i64 tk.off) := M.cell_whole K2.out.1 1
  have x2 : w2.cell? ⟨D, 2, none⟩ = some (.int .i64 tk.line) := M.cell_whole K2.out.1 2
  have x3 : w2.cell? ⟨D, 3, none⟩ = some (.int .i64 tk.col) := M.cell_whole K2.out.1 3
  have HQ : Hid (Q < w2.heap.size) := H2.out.lt
  have HZ : Hid (N ≤ w2.heap.size) := Nat.le_trans hN B2.out.size
  have HBN : Hid (Below N w w2) := B2.out.mono hN
  unfold tokV
  clear hw1 hw2 b1 b2 hs1 hk1 hk2 hD c1 h h1 ew ep hlw hlp hk hpr hN
  have HNE : Hid (¬ (rwithinF p.s tk).2.2 = true) := hne
  clear hne
  rw [hky] at KY
  have LS : Hid _ := rleast_any w2.drew k hk10 hk0
  obtain ⟨L, hL⟩ : ∃ L, lstI k = L := ⟨_, rfl⟩
  obtain ⟨aL, cL, eL, _⟩ := own_shape H2.out.oL
  subst eL
  rw [hL] at LS
  have EQ : Hid (rwithinF p.s tk = if tk.text = eqS ∧ k = 7 ∧ pr = false then (if (nw : Int) < L then (62, p.s, false) else (0, { p.s with proving := true }, false)) else if tk.text ≠ dotS then (60, p.s, false) else if (nw : Int) < L ∨ (k = 7 ∧ pr = false) then (62, p.s, false) else (0, { p.s with fin := tk }, true)) := rwithin_keyF hky HE.out.2.2.2.2.1 HE.out.2.2.2.2.2 HE.out.2.2.1 hL
  have kk : ((k : Int) == 7) = decide (k = 7) := by rw [Bool.eq_iff_iff]; simp; omega
  clear hky hL
  go_enter Tryd.func9, Tryd.ntmps9
  go_upto_region 1 with fail
  rw [← HW1.out, HD.out.1]
  clear HW1
  go_upto_region 2 with fail
  rw [← HW2.out, HD.out.2]
  clear HW2 q0 q1 q2 q3 q4 q5 q6 q7 q8 q9 q10 q11 q12 q13 q14 q15
  go_wp2_with fail
  refine Calls.mono KY.out ?_
  rintro e w3 ⟨rfl, hw3⟩
  subst w3
  clear KY
  go_upto_region 10 with fail
  go_cut [6] (fun v6 wx => v6 = .bool (decide ((nw : Int) < L)) ∧ wx = w2.drew)
  case first =>
    go_region_law (go_simp; go_at_call 26; refine Calls.mono LS.out ?_; rintro e w3 ⟨rfl, hw3⟩; subst w3)
    all_goals (first | (go_wp2_with fail; go_meet) | go_meet)
    all_goals exact ⟨rfl, rfl⟩
  case rest =>
    obtain ⟨rfl, rfl⟩ := hcut
    clear LS
    have H3 : Hid (RfSt N Q H w2.drew (.slice aL fin.length cL) fin lb wts true p) := H2.out.under (below_drewN (Below.refl _ _) 1)
    have K3 : Hid (w2.drew.heap[D]? = some (.cells #[.string tk.text, .int .i64 tk.off, .int .i64 tk.line, .int .i64 tk.col] 36 (0, 0)) ∧ w2.drew.heap[D + 1]? = some (.cells #[.int .i64 (k : Nat), .string p.s.label.text, .int .i64 p.s.label.off, .int .i64 p.s.label.line, .int .i64 p.s.label.col, .string p.s.key.text, .int .i64 p.s.key.off, .int .i64 p.s.key.line, .int .i64 p.s.key.col, .bool pr, .slice aw nw cw, .slice ap np cp, .string p.s.fin.text, .int .i64 p.s.fin.off, .int .i64 p.s.fin.line, .int .i64 p.s.fin.col] 38 (0, 0))) := K2.out
    have HB3 : Hid (Below N w w2.drew) := below_drewN HBN.out 1
    have HZ3 : Hid (N ≤ w2.drew.heap.size) := HZ.out
    clear x0 x1 x2 x3 y0 y9 y10 H2 K2 HBN HZ HQ
    generalize w2.drew = w4 at *
    have x0 : w4.cell? ⟨D, 0, none⟩ = some (.string tk.text) := M.cell_whole K3.out.1 0
    have x1 : w4.cell? ⟨D, 1, none⟩ = some (.int .i64 tk.off) := M.cell_whole K3.out.1 1
    have x2 : w4.cell? ⟨D, 2, none⟩ = some (.int .i64 tk.line) := M.cell_whole K3.out.1 2
    have x3 : w4.cell? ⟨D, 3, none⟩ = some (.int .i64 tk.col) := M.cell_whole K3.out.1 3
    have y0 : w4.cell? ⟨D + 1, 0, none⟩ = some (.int .i64 (k : Nat)) := M.cell_whole K3.out.2 0
    have y9 : w4.cell? ⟨D + 1, 9, none⟩ = some (.bool pr) := M.cell_whole K3.out.2 9
    by_cases hte : tk.text = eqS
    · have hnd : tk.text ≠ dotS := by rw [hte]; decide
      rw [hte] at x0
      unfold eqS at x0
      by_cases h7 : k = 7
      · have k7 : ((k : Int) == 7) = true := by rw [kk]; simp [h7]
        cases pr with
        | false =>
          have E0 : Hid (rwithinF p.s tk = (if (nw : Int) < L then (62, p.s, false) else (0, { p.s with proving := true }, false))) := by show _ = _; rw [EQ.out, if_pos ⟨hte, h7, rfl⟩]
          by_cases hlt : (nw : Int) < L
          · have E : Hid (rwithinF p.s tk = (62, p.s, false)) := by show _ = _; rw [E0.out, if_pos hlt]
            clear kk hte hnd h7 E0 EQ
            go_wp2
            go_ret
            show RfW _ _ _ _ _ _ _ _ _ _ _
            rw [E.out]
            exact ⟨rfl, HB3.out, .inl ⟨rfl, p, rfl, H3.out⟩⟩
          · have E : Hid (rwithinF p.s tk = (0, { p.s with proving := true }, false)) := by show _ = _; rw [E0.out, if_neg hlt]
            clear kk hte hnd h7 E0 EQ
            have f16 : w4.frozen? ⟨Q, 16, none⟩ = false := by simp [World.frozen?, H3.out.box]
            have d16 : w4.cell? ⟨Q, 16, none⟩ = some (.bool p.s.proving) := M.cell_whole H3.out.box 16
            go_wp2
            go_ret
            show RfW _ _ _ _ _ _ _ _ _ _ _
            rw [E.out]
            have cs := M.ch_set w4 Q 16 (.bool true)
            exact ⟨rfl, HB3.out.trans (cs.below HZ3.out fun b e => by rw [e]; exact H3.out.ge), .inl ⟨rfl, ⟨{ p.s with proving := true }, p.g, p.vw, p.vp⟩, rfl, H3.out.cells cs (M.heap_set_same H3.out.box) rfl rfl⟩⟩
        | true =>
          have E : Hid (rwithinF p.s tk = (60, p.s, false)) := by show _ = _; rw [EQ.out, if_neg (by rintro ⟨_, _, e⟩; cases e), if_pos hnd]
          clear kk hte hnd h7 EQ
          go_wp2
          go_ret
          show RfW _ _ _ _ _ _ _ _ _ _ _
          rw [E.out]
          exact ⟨rfl, HB3.out, .inl ⟨rfl, p, rfl, H3.out⟩⟩
      · have k7 : ((k : Int) == 7) = false := by rw [kk]; simp [h7]
        have E : Hid (rwithinF p.s tk = (60, p.s, false)) := by show _ = _; rw [EQ.out, if_neg (by rintro ⟨_, e, _⟩; exact h7 e), if_pos hnd]
        clear kk hte hnd h7 EQ
        go_wp2
        go_ret
        show RfW _ _ _ _ _ _ _ _ _ _ _
        rw [E.out]
        exact ⟨rfl, HB3.out, .inl ⟨rfl, p, rfl, H3.out⟩⟩
    · have te : (tk.text.toList == [36, 61]) = false := lst_ne2 hte
      by_cases htd : tk.text = dotS
      · have td : (tk.text.toList == [36, 46]) = true := by rw [htd]; unfold dotS; rw [ByteArray.toList_eq]; rfl
        have td' : (tk.text.toList != [36, 46]) = false := by simp only [bne, td]; rfl
        have E0 : Hid (rwithinF p.s tk = if (nw : Int) < L ∨ (k = 7 ∧ pr = false) then (62, p.s, false) else (0, { p.s with fin := tk }, true)) := by show _ = _; rw [EQ.out, if_neg (fun e => hte e.1), if_neg (fun e => e htd)]
        by_cases hlt : (nw : Int) < L
        · have E : Hid (rwithinF p.s tk = (62, p.s, false)) := by show _ = _; rw [E0.out, if_pos (.inl hlt)]
          clear kk hte htd E0 EQ
          go_wp2
          go_ret
          show RfW _ _ _ _ _ _ _ _ _ _ _
          rw [E.out]
          exact ⟨rfl, HB3.out, .inl ⟨rfl, p, rfl, H3.out⟩⟩
        · by_cases h7 : k = 7
          · have k7 : ((k : Int) == 7) = true := by rw [kk]; simp [h7]
            cases pr with
            | false =>
              have E : Hid (rwithinF p.s tk = (62, p.s, false)) := by show _ = _; rw [E0.out, if_pos (.inr ⟨h7, rfl⟩)]
              clear kk hte htd h7 E0 EQ
              go_wp2
              go_ret
              show RfW _ _ _ _ _ _ _ _ _ _ _
              rw [E.out]
              exact ⟨rfl, HB3.out, .inl ⟨rfl, p, rfl, H3.out⟩⟩
            | true =>
              have E : Hid (rwithinF p.s tk = (0, { p.s with fin := tk }, true)) := by show _ = _; rw [E0.out, if_neg (fun e => e.elim hlt fun e => by cases e.2)]
              clear kk hte htd h7 E0 EQ
              exact absurd (show (rwithinF p.s tk).2.2 = true by rw [E.out]) HNE.out
          · have k7 : ((k : Int) == 7) = false := by rw [kk]; simp [h7]
            have E : Hid (rwithinF p.s tk = (0, { p.s with fin := tk }, true)) := by show _ = _; rw [E0.out, if_neg (fun e => e.elim hlt fun e => h7 e.1)]
            clear kk hte htd h7 E0 EQ
            exact absurd (show (rwithinF p.s tk).2.2 = true by rw [E.out]) HNE.out
      · have td : (tk.text.toList == [36, 46]) = false := lst_ne2 htd
        have td' : (tk.text.toList != [36, 46]) = true := by simp only [bne, td]; rfl
        have E : Hid (rwithinF p.s tk = (60, p.s, false)) := by show _ = _; rw [EQ.out, if_neg (fun e => hte e.1), if_pos htd]
        clear kk hte htd EQ
        go_wp2
        go_ret
        show RfW _ _ _ _ _ _ _ _ _ _ _
        rw [E.out]
        exact ⟨rfl, HB3.out, .inl ⟨rfl, p, rfl, H3.out⟩⟩

end Go.Proofs.YtipfhfeaalbmcabDoor
