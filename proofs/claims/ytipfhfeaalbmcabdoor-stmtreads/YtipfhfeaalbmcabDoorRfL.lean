/- What the document's reader tells. -/
import Derived.Test.YtipfhfeaalbmcabDoorRfB
import Derived.Test.YtipfhfeaalbmcabDoorPrint
namespace Go.Proofs.YtipfhfeaalbmcabDoor
open Go.RowKit

theorem rowS_at : ∀ (l : List Itm) (i j : Nat) (x : Itm), l[i]? = some x → j < 16 → (rowS l)[i * 16 + j]? = (itmS x)[j]?
  | [], i, j, x, h, _ => by simp at h
  | y :: r, 0, j, x, h, hj => by
    simp at h; subst h
    have e : rowS (y :: r) = (itmS y).toList ++ rowS r := rfl
    rw [e, Nat.zero_mul, Nat.zero_add, List.getElem?_append_left (by simp [itmS, stmA]; omega), Array.getElem?_toList]
  | y :: r, i + 1, j, x, h, hj => by
    have e : rowS (y :: r) = (itmS y).toList ++ rowS r := rfl
    have h2 : r[i]? = some x := by simpa using h
    rw [e, List.getElem?_append_right (by simp [itmS, stmA]; omega)]
    have e2 : (i + 1) * 16 + j - (itmS y).toList.length = i * 16 + j := by simp [itmS, stmA]; omega
    rw [e2]
    exact rowS_at r i j x h2 hj
theorem toks_rowin {W : World} {Pr : Nat → Prop} {v : Value} {n : Nat} {ts : List Tok} (h : M.RowIn W Pr v n (rowT ts)) : ∃ a c, v = .slice a n c ∧ n ≤ c ∧ ToksAt W a ts := by
  obtain ⟨a, c, rfl, hc, hcell⟩ := h
  refine ⟨a, c, rfl, hc, fun i t ht => ?_⟩
  have k0 := rowT_at ts i 0 t ht (by omega)
  have k1 := rowT_at ts i 1 t ht (by omega)
  have k2 := rowT_at ts i 2 t ht (by omega)
  have k3 := rowT_at ts i 3 t ht (by omega)
  obtain ⟨g, rfl, _, _, h0⟩ := hcell _ _ k0
  obtain ⟨_, e, _, _, h1⟩ := hcell _ _ k1
  cases e
  obtain ⟨_, e, _, _, h2⟩ := hcell _ _ k2
  cases e
  obtain ⟨_, e, _, _, h3⟩ := hcell _ _ k3
  cases e
  refine ⟨g, 0, rfl, ?_, ?_, ?_, ?_⟩ <;> rw [Nat.zero_add] <;> assumption
theorem stmts_own {W : World} {N : Nat} {H : Nat → Prop} {v : Value} {its : List Itm} (h : W.ownsRow N 38 16 v its.length (rowS its)) (hi : ∀ x ∈ its, ItR W H x) : ∃ a c, v = .slice a its.length c ∧ StmtsAt W a (its.map (·.s)) := by
  obtain ⟨a, c, e, hc, hcell⟩ := M.own_cell h
  refine ⟨a, c, e, fun i s hs => ?_⟩
  rw [List.getElem?_map] at hs
  obtain ⟨x, hx, rfl⟩ := Option.map_eq_some_iff.1 hs
  have hm := hi x (List.mem_of_getElem? hx)
  obtain ⟨aw, cw, ew, hcw, hw⟩ := toks_rowin hm.w
  obtain ⟨ap, cp, ep, hcp, hp⟩ := toks_rowin hm.p
  obtain ⟨g, rfl, _⟩ := hcell (i * 16 + 0) _ ((rowS_at its i 0 x hx (by omega)).trans rfl)
  refine ⟨g, 0, aw, cw, ap, cp, rfl, fun j u hu => ?_, hw, hp, hcw, hcp⟩
  rw [← ew, ← ep] at hu
  have hu' : (itmS x)[j]? = some u := hu
  have hj : j < 16 := (Array.getElem?_eq_some_iff.1 hu').1
  obtain ⟨_, e', hc'⟩ := hcell (i * 16 + j) u ((rowS_at its i j x hx hj).trans hu')
  cases e'
  rw [Nat.zero_add]
  exact hc'
/-- The statements are told: they lie in a list. -/
def RtPost (N X : Nat) (w : World) (l : List Stm) (e : Ending) (w' : World) : Prop := ∃ a c, e = .returned (.slice a l.length c) ∧ StmtsAt w' a l ∧ _root_.Go.Proofs.YtipfhfeaalbmcabDoor.M.Ch (fun b => N ≤ b ∧ b < X) w w'
theorem told_len {fin : List Itm} {p : Itm} {D : DS} (h1 : fin.map (·.s) = D.fin) (h2 : p.s = D.p) (ho : D.opn = true) : (fin ++ [p]).map (·.s) = toldD D := by
  unfold toldD
  rw [if_pos ho, List.map_append, h1, ← h2]
  rfl

set_option maxRecDepth 100000 in
set_option maxHeartbeats 16000000 in
theorem rtold_any (w W0 : World) (N Q : Nat) (D : DS) (h : RfD N Q W0 D) (hb0 : Below W0.heap.size W0 w) (hN0 : N ≤ W0.heap.size) (hnf : D.fin.length ≤ 1048576) : Calls Tryd.prog 11 #[.pointer (some ⟨Q, 0, none⟩)] w (RtPost N W0.heap.size w (toldD D)) := by
  have hN : N ≤ w.heap.size := Nat.le_trans hN0 hb0.size
  obtain ⟨iS, hiS, iSz, iSs, iSb⟩ := info_parts infoSM
  obtain ⟨H, vL, fin, p, h0, hfs, hps, _⟩ := h
  have h := h0.under hb0
  have OL : Hid (∀ b, vL.ownBlock = some b → N ≤ b ∧ b < W0.heap.size) := fun b e => ⟨M.own_ge' h0.oL b e, M.own_lt h0.oL b e⟩
  obtain ⟨X, hX⟩ : ∃ X, W0.heap.size = X := ⟨_, rfl⟩
  rw [hX] at OL ⊢
  clear hX h0 hb0 hN0
  obtain ⟨nf, hnfl⟩ : ∃ nf, fin.length = nf := ⟨_, rfl⟩
  have hnf' : nf ≤ 1048576 := by rw [← hfs, List.length_map, hnfl] at hnf; exact hnf
  clear hnf
  obtain ⟨aL, cL, eL, _⟩ := own_shape h.oL
  rw [hnfl] at eL
  subst eL
  have OW : Hid (w.ownsRow N 38 16 (.slice aL nf cL) nf (rowS fin)) := by have h := h.oL; rw [hnfl] at h; exact h
  have c1 : ∀ i v, (refC (.slice aL nf cL) D.lb D.wts D.opn p)[i]? = some v → w.cell? ⟨Q, i, none⟩ = some v := fun i v hv => (M.cell_whole h.box i).trans hv
  cases ho : D.opn with
  | false =>
    have r0 : w.cell? ⟨Q, 0, none⟩ = some (.slice aL nf cL) := c1 0 _ rfl
    have r6 : w.cell? ⟨Q, 6, none⟩ = some (.bool false) := by rw [← ho]; exact c1 6 _ rfl
    have FIN : Hid (RtPost N X w (toldD D) (.returned (.slice aL nf cL)) w) := by
      obtain ⟨a, c, e, hst⟩ := stmts_own h.oL h.its
      cases e
      have e1 : toldD D = fin.map (·.s) := by unfold toldD; rw [ho, if_neg Bool.false_ne_true, hfs]
      exact ⟨aL, cL, by rw [e1, List.length_map, hnfl], by rw [e1]; exact hst, M.Ch.refl _ _⟩
    clear h hfs hps hnfl c1 ho OW OL
    go_enter Tryd.func11, Tryd.ntmps11
    go_wp2
    go_ret
    exact FIN.out
  | true =>
    obtain ⟨aw, cw, ew⟩ : ∃ a c, p.vw = .slice a p.s.words.length c := by obtain ⟨a, c, e, _⟩ := own_shape h.ow; exact ⟨a, c, e⟩
    obtain ⟨ap, cp, ep⟩ : ∃ a c, p.vp = .slice a p.s.proof.length c := by obtain ⟨a, c, e, _⟩ := own_shape h.op; exact ⟨a, c, e⟩
    obtain ⟨nw, hlw⟩ : ∃ nw, p.s.words.length = nw := ⟨_, rfl⟩
    obtain ⟨np, hlp⟩ : ∃ np, p.s.proof.length = np := ⟨_, rfl⟩
    rw [hlw] at ew
    rw [hlp] at ep
    have r0 : w.cell? ⟨Q, 0, none⟩ = some (.slice aL nf cL) := c1 0 _ rfl
    have r6 : w.cell? ⟨Q, 6, none⟩ = some (.bool true) := by rw [← ho]; exact c1 6 _ rfl
    have r7 : w.cell? ⟨Q, 7, none⟩ = some (.int .i64 p.s.kind) := c1 7 _ rfl
    have r8 : w.cell? ⟨Q, 8, none⟩ = some (.string p.s.label.text) := c1 8 _ rfl
    have r9 : w.cell? ⟨Q, 9, none⟩ = some (.int .i64 p.s.label.off) := c1 9 _ rfl
    have r10 : w.cell? ⟨Q, 10, none⟩ = some (.int .i64 p.s.label.line) := c1 10 _ rfl
    have r11 : w.cell? ⟨Q, 11, none⟩ = some (.int .i64 p.s.label.col) := c1 11 _ rfl
    have r12 : w.cell? ⟨Q, 12, none⟩ = some (.string p.s.key.text) := c1 12 _ rfl
    have r13 : w.cell? ⟨Q, 13, none⟩ = some (.int .i64 p.s.key.off) := c1 13 _ rfl
    have r14 : w.cell? ⟨Q, 14, none⟩ = some (.int .i64 p.s.key.line) := c1 14 _ rfl
    have r15 : w.cell? ⟨Q, 15, none⟩ = some (.int .i64 p.s.key.col) := c1 15 _ rfl
    have r16 : w.cell? ⟨Q, 16, none⟩ = some (.bool p.s.proving) := c1 16 _ rfl
    have r17 : w.cell? ⟨Q, 17, none⟩ = some (.slice aw nw cw) := by rw [← ew]; exact c1 17 _ rfl
    have r18 : w.cell? ⟨Q, 18, none⟩ = some (.slice ap np cp) := by rw [← ep]; exact c1 18 _ rfl
    have r19 : w.cell? ⟨Q, 19, none⟩ = some (.string p.s.fin.text) := c1 19 _ rfl
    have r20 : w.cell? ⟨Q, 20, none⟩ = some (.int .i64 p.s.fin.off) := c1 20 _ rfl
    have r21 : w.cell? ⟨Q, 21, none⟩ = some (.int .i64 p.s.fin.line) := c1 21 _ rfl
    have r22 : w.cell? ⟨Q, 22, none⟩ = some (.int .i64 p.s.fin.col) := c1 22 _ rfl
    have ONE : Hid (∀ u ∈ (#[.int .i64 p.s.kind, .string p.s.label.text, .int .i64 p.s.label.off, .int .i64 p.s.label.line, .int .i64 p.s.label.col, .string p.s.key.text, .int .i64 p.s.key.off, .int .i64 p.s.key.line, .int .i64 p.s.key.col, .bool p.s.proving, .slice aw nw cw, .slice ap np cp, .string p.s.fin.text, .int .i64 p.s.fin.off, .int .i64 p.s.fin.line, .int .i64 p.s.fin.col] : Array Value).toList, u.oneCell' = true) := fun u hu => by
      simp at hu
      rcases hu with rfl | rfl | rfl | rfl | rfl | rfl | rfl | rfl | rfl | rfl | rfl | rfl | rfl | rfl | rfl | rfl <;> rfl
    have FI : Hid (∀ (gg cap' : Nat) (w7 : World), w7.ownsRow N 38 16 (.slice (some ⟨gg, 0, none⟩) (nf + 1) cap') (nf + 1) (rowS fin ++ (#[.int .i64 p.s.kind, .string p.s.label.text, .int .i64 p.s.label.off, .int .i64 p.s.label.line, .int .i64 p.s.label.col, .string p.s.key.text, .int .i64 p.s.key.off, .int .i64 p.s.key.line, .int .i64 p.s.key.col, .bool p.s.proving, .slice aw nw cw, .slice ap np cp, .string p.s.fin.text, .int .i64 p.s.fin.off, .int .i64 p.s.fin.line, .int .i64 p.s.fin.col] : Array Value).toList) → (w.alloc (.cells #[.int .i64 p.s.kind, .string p.s.label.text, .int .i64 p.s.label.off, .int .i64 p.s.label.line, .int .i64 p.s.label.col, .string p.s.key.text, .int .i64 p.s.key.off, .int .i64 p.s.key.line, .int .i64 p.s.key.col, .bool p.s.proving, .slice aw nw cw, .slice ap np cp, .string p.s.fin.text, .int .i64 p.s.fin.off, .int .i64 p.s.fin.line, .int .i64 p.s.fin.col] 38)).drew.grownBy w7 (Value.slice aL nf cL).ownBlock → RtPost N X w (toldD D) (.returned (.slice (some ⟨gg, 0, none⟩) (nf + 1) cap')) w7) := by
      intro gg cap' w7 hown hgrow
      have h9 : Below w.heap.size w (w.alloc (.cells #[.int .i64 p.s.kind, .string p.s.label.text, .int .i64 p.s.label.off, .int .i64 p.s.label.line, .int .i64 p.s.label.col, .string p.s.key.text, .int .i64 p.s.key.off, .int .i64 p.s.key.line, .int .i64 p.s.key.col, .bool p.s.proving, .slice aw nw cw, .slice ap np cp, .string p.s.fin.text, .int .i64 p.s.fin.off, .int .i64 p.s.fin.line, .int .i64 p.s.fin.col] 38)).drew := below_drewN (below_alloc _ _) 1
      have h2 := h.under h9
      have cg := M.Ch.of_grown hgrow
      have e1 : rowS (fin ++ [p]) = rowS fin ++ (#[.int .i64 p.s.kind, .string p.s.label.text, .int .i64 p.s.label.off, .int .i64 p.s.label.line, .int .i64 p.s.label.col, .string p.s.key.text, .int .i64 p.s.key.off, .int .i64 p.s.key.line, .int .i64 p.s.key.col, .bool p.s.proving, .slice aw nw cw, .slice ap np cp, .string p.s.fin.text, .int .i64 p.s.fin.off, .int .i64 p.s.fin.line, .int .i64 p.s.fin.col] : Array Value).toList := by
        unfold rowS
        rw [List.flatMap_append, List.flatMap_singleton]
        unfold itmS stmA
        rw [ew, ep]
      have e2 : (fin ++ [p]).length = nf + 1 := by rw [List.length_append, hnfl]; rfl
      have hi : ∀ x ∈ fin ++ [p], ItR w7 (fun _ => True) x := fun x hx => by
        rcases List.mem_append.1 hx with hx | hx
        · exact (h2.its x hx).ch cg (fun g hg e => (h2.held g hg).2.2.2.1 e) fun _ _ => trivial
        · rw [List.mem_singleton.1 hx]
          exact ⟨(M.RowIn.own h2.ow (Pr := fun g => p.vw.ownBlock = some g) fun g e => e).ch cg (fun g hg e => h2.Lw g e hg) fun _ _ => trivial, (M.RowIn.own h2.op (Pr := fun g => p.vp.ownBlock = some g) fun g e => e).ch cg (fun g hg e => h2.Lp g e hg) fun _ _ => trivial⟩
      obtain ⟨a, c, e, hst⟩ := stmts_own (its := fin ++ [p]) (by rw [e1, e2]; exact hown) hi
      rw [e2] at e
      cases e
      have e3 := told_len hfs hps ho
      refine ⟨_, _, by rw [← e3, List.length_map, e2], by rw [← e3]; exact hst, (M.Ch.of_below h9).trans (cg.mono fun b e => OL.out b e)⟩
    have HNs : Hid (N ≤ w.heap.size) := hN
    clear h hfs hps hnfl c1 ho ew ep hlw hlp hN OL
    have e9 : (w.alloc (.cells #[.int .i64 p.s.kind, .string p.s.label.text, .int .i64 p.s.label.off, .int .i64 p.s.label.line, .int .i64 p.s.label.col, .string p.s.key.text, .int .i64 p.s.key.off, .int .i64 p.s.key.line, .int .i64 p.s.key.col, .bool p.s.proving, .slice aw nw cw, .slice ap np cp, .string p.s.fin.text, .int .i64 p.s.fin.off, .int .i64 p.s.fin.line, .int .i64 p.s.fin.col] 38)).cell? ⟨Q, 0, none⟩ = some (.slice aL nf cL) := (World.cell?_of_block (a := ⟨Q, 0, none⟩) (Below.heap_alloc _ _ Q (World.block_lt_of_cell? _ _ r0))).trans r0
    go_enter Tryd.func11, Tryd.ntmps11
    go_upto_region 2 with fail
    go_region_law (refine step_append_lies _ (by rfl) _ _ _ (by rfl) N 38 iS _ 16 184 Tryd.underlying22 hiS iSz iSs iSb rfl (by omega) _ nf (rowS fin) (by rfl) (by exact (M.owns_alloc OW.out _)) ⟨w.heap.size, 0, none⟩ 1 1 (#[.int .i64 p.s.kind, .string p.s.label.text, .int .i64 p.s.label.off, .int .i64 p.s.label.line, .int .i64 p.s.label.col, .string p.s.key.text, .int .i64 p.s.key.off, .int .i64 p.s.key.line, .int .i64 p.s.key.col, .bool p.s.proving, .slice aw nw cw, .slice ap np cp, .string p.s.fin.text, .int .i64 p.s.fin.off, .int .i64 p.s.fin.line, .int .i64 p.s.fin.col] : Array Value).toList (by rfl) (by rfl) (fun j' u hu => World.news_of_block (cs := #[.int .i64 p.s.kind, .string p.s.label.text, .int .i64 p.s.label.off, .int .i64 p.s.label.line, .int .i64 p.s.label.col, .string p.s.key.text, .int .i64 p.s.key.off, .int .i64 p.s.key.line, .int .i64 p.s.key.col, .bool p.s.proving, .slice aw nw cw, .slice ap np cp, .string p.s.fin.text, .int .i64 p.s.fin.off, .int .i64 p.s.fin.line, .int .i64 p.s.fin.col]) (t := 38) (fr := (0, 0)) (heap_alloc_new w _) j' u hu) (fun u hu => ONE.out u hu) (by omega) (by unfold maxLen; omega) (by omega) (by have := HNs.out; simp; omega) _ rfl ?_; intro gg cap' w7 hown7 hgrow hat hlt7; have FIN : Hid (RtPost N X w (toldD D) (.returned (.slice (some ⟨gg, 0, none⟩) (nf + 1) cap')) w7) := FI.out gg cap' w7 hown7 hgrow; clear hgrow hat hown7 hlt7)
    all_goals clear e9 OW ONE FI
    all_goals go_wp2
    all_goals go_ret
    all_goals exact FIN.out
end Go.Proofs.YtipfhfeaalbmcabDoor
