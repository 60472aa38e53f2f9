/- The law's own untouched. -/
import Derived.Test.YtipfhfeaalbmcaaDoorLent
import Derived.Test.YtipfhfeaalbmcaaDoorSame
namespace Go.Proofs.YtipfhfeaalbmcaaDoor
open Go.RowKit

theorem rowIn_toks {W : World} {H : Nat → Prop} {g n c : Nat} {ts : List Tok} (h : M.RowIn W H (.slice (some ⟨g, 0, none⟩) n c) n (rowT ts)) : ToksAt W (some ⟨g, 0, none⟩) ts := fun i t ht => by
  obtain ⟨a', c', e, hc, hcell⟩ := h
  cases e
  have k : ∀ j, j < 4 → ∀ u, (tokCells t)[j]? = some u → W.cell? ⟨g, 0 + i * 4 + j, none⟩ = some u := fun j hj u hu => by
    obtain ⟨g', e, _, _, h0⟩ := hcell (i * 4 + j) u (by rw [rowT_at ts i j t ht hj]; exact hu)
    cases e
    rw [Nat.zero_add]
    exact h0
  exact ⟨g, 0, rfl, k 0 (by omega) _ rfl, k 1 (by omega) _ rfl, k 2 (by omega) _ rfl, k 3 (by omega) _ rfl⟩
theorem flat16_at (its : List It) (j : Nat) (x : It) (h : its[j]? = some x) : ∀ i u, (itC x)[i]? = some u → (its.flatMap itC)[j * 16 + i]? = some u := by
  induction its generalizing j with
  | nil => cases h
  | cons y its ih =>
    intro i u hu
    have hy : (itC y).length = 16 := rfl
    cases j with
    | zero =>
      cases h
      have hi : i < 16 := (List.getElem?_eq_some_iff.1 hu).1
      rw [List.flatMap_cons, Nat.zero_mul, Nat.zero_add, List.getElem?_append_left (by omega)]
      exact hu
    | succ j =>
      rw [List.flatMap_cons, List.getElem?_append_right (by omega), hy, show (j + 1) * 16 + i - 16 = j * 16 + i by omega]
      exact ih j h i u hu
/-- What was lent, as Print is handed it. -/
theorem LSt.stmts {T : Nat} {H : Nat → Prop} {W : World} {vL vW vP : Value} {its : List It} (h : LSt T H W vL vW vP its its its) : ∃ aL cL, vL = .slice aL its.length cL ∧ StmtsAt W aL (its.map (·.s)) := by
  obtain ⟨aL, cL, rfl, _, hcell⟩ := M.own_cell h.oL
  refine ⟨aL, cL, rfl, fun i s hi => ?_⟩
  rw [List.getElem?_map] at hi
  obtain ⟨x, hx, rfl⟩ := Option.map_eq_some_iff.1 hi
  have ok := h.its x (List.mem_of_getElem? hx)
  obtain ⟨_, _, ew, hw1, _⟩ := id ok.w
  obtain ⟨_, _, ep, hp1, _⟩ := id ok.p
  cases ew
  cases ep
  obtain ⟨b, eb, _⟩ := hcell (i * 16 + 0) _ (flat16_at its i x hx 0 _ rfl)
  refine ⟨b, 0, some ⟨x.gw, 0, none⟩, x.cw, some ⟨x.gp, 0, none⟩, x.cp, eb, fun j u hu => ?_, ?_, ?_, by omega, by omega⟩
  · obtain ⟨b', eb', h0⟩ := hcell (i * 16 + j) u (flat16_at its i x hx j u (by unfold itC; rw [Array.getElem?_toList]; exact hu))
    rw [eb] at eb'
    cases eb'
    rw [Nat.zero_add]
    exact h0
  · exact fun q t ht => rowIn_toks ok.w q t (by rw [List.getElem?_append_left (List.getElem?_eq_some_iff.1 ht).1]; exact ht)
  · exact fun q t ht => rowIn_toks ok.p q t (by rw [List.getElem?_append_left (List.getElem?_eq_some_iff.1 ht).1]; exact ht)
theorem room_cells {W : World} {g n : Nat} {ts : List Tok} (h : ToksAt W (some ⟨g, 0, none⟩) (ts ++ [roomT, roomT])) (hl : ts.length = n) (q : Nat) (hq : q < 2) : W.cell? ⟨g, (n + q) * 4, none⟩ = some (.string roomS) ∧ W.cell? ⟨g, (n + q) * 4 + 1, none⟩ = some (.int .i64 0) ∧ W.cell? ⟨g, (n + q) * 4 + 2, none⟩ = some (.int .i64 0) ∧ W.cell? ⟨g, (n + q) * 4 + 3, none⟩ = some (.int .i64 0) := by
  obtain ⟨b, o, e, h0, h1, h2, h3⟩ := h (n + q) roomT (by
    rw [List.getElem?_append_right (by omega), hl, Nat.add_sub_cancel_left]
    match q, hq with
    | 0, _ => rfl
    | 1, _ => rfl)
  cases e
  rw [Nat.zero_add] at h0 h1 h2 h3
  exact ⟨h0, h1, h2, h3⟩

set_option maxRecDepth 100000 in
set_option maxHeartbeats 16000000 in
theorem untouched_any (w : World) (vL vW vP : Value) (T : Nat) (H : Nat → Prop) (its : List It) (a : Option Addr) (n c : Nat) (l : List Stm) (hl : l.length = n) (hn : n ≤ 1048576) (hsm : ∀ s ∈ l, StmSm s) (hS : StmtsAt w a l) (hR : RoomAt w) (hL : LSt T H w vL vW vP its its its) (hi : its.map (·.s) = l) :
    Calls Tryd.prog 14 #[.agg #[vL, vW, vP], .slice a n c] w fun e w' => e = .returned (.bool true) ∧ Below w.heap.size w w' := by
  have him : its.length = n := by have h := congrArg List.length hi; rw [List.length_map] at h; omega
  obtain ⟨aL, cL, hvL, hSL⟩ := hL.stmts
  obtain ⟨aW, cW, hvW, hcW, hcellW⟩ := M.own_cell hL.oW
  obtain ⟨aP, cP, hvP, hcP, hcellP⟩ := M.own_cell hL.oP
  obtain ⟨m, hm⟩ : ∃ m, its.length = m := ⟨_, rfl⟩
  rw [hm] at hvL hvW hvP him
  subst him
  rw [hi] at hSL
  have LS : Hid (∀ i x, its[i]? = some x → ItOk w H x) := fun i x hx => hL.its x (List.mem_of_getElem? hx)
  subst hvL hvW hvP
  obtain ⟨w1, hw1⟩ : ∃ w1, w1 = w.alloc (.cells #[.slice aL m cL, .slice aW m cW, .slice aP m cP] 42) := ⟨_, rfl⟩
  have b1 : Below w.heap.size w w1 := by rw [hw1]; exact below_alloc _ _
  have hk1 : w1.heap[w.heap.size]? = some (.cells #[.slice aL m cL, .slice aW m cW, .slice aP m cP] 42 (0, 0)) := by rw [hw1]; exact heap_alloc_new w _
  obtain ⟨B, hB⟩ : ∃ B, w.heap.size = B := ⟨_, rfl⟩
  rw [hB] at hk1
  have HW1 : Hid (w.alloc (.cells #[.slice aL m cL, .slice aW m cW, .slice aP m cP] 42) = w1) := hw1.symm
  have HBe : Hid (w.heap.size = B) := hB
  have B1 : Hid (Below w.heap.size w w1) := b1
  have XX : Hid (∀ wx, Below w1.heap.size w1 wx → wx.heap[B]? = some (.cells #[.slice aL m cL, .slice aW m cW, .slice aP m cP] 42 (0, 0)) ∧ Below w.heap.size w wx) := fun wx hx => ⟨(hx.block B (Array.getElem?_eq_some_iff.1 hk1).1).trans hk1, b1.trans (hx.mono b1.size)⟩
  have SAME : Hid (∀ wx, Below w1.heap.size w1 wx → Calls Tryd.prog 15 #[.slice aL m cL, .slice a m c, .bool true] wx fun e w' => e = .returned (.bool true) ∧ Below wx.heap.size wx w') := fun wx hx => same_eq wx aL a m cL c l hl hn hsm (hSL.under (XX.out wx hx).2) (hS.under (XX.out wx hx).2)
  have HL : Hid (l.length = m) := hl
  have HI : Hid (its.map (·.s) = l) := hi
  have HM : Hid (its.length = m) := hm
  have SM : Hid _ := hsm
  have HS : Hid (StmtsAt w a l) := hS
  have RM : Hid (RoomAt w) := hR
  have CW : Hid _ := hcellW
  have CP : Hid _ := hcellP
  clear hw1 b1 hk1 hB hl hi hm hsm hS hR hcellW hcellP hL hSL
  go_enter Tryd.func14, Tryd.ntmps14
  go_wp2_with fail
  rw [HW1.out, HBe.out]
  clear HW1 HBe
  go_loopw [5] (fun i wx => ∃ j : Nat, j ≤ m ∧ i = .int .i64 j ∧ Hid (Below w1.heap.size w1 wx)) (fun i _ => m - (intOf i).toNat)
  case atStart => exact ⟨0, Nat.zero_le _, rfl, Below.refl _ _⟩
  case round =>
    obtain ⟨j, hj, rfl, hB⟩ := hrel
    by_cases hlt : j < m
    · have n1 : (j : Int) < (m : Int) := by omega
      obtain ⟨x, hx⟩ : ∃ x, its[j]? = some x := ⟨its[j]'(by rw [HM.out]; exact hlt), List.getElem?_eq_getElem _⟩
      have hs : l[j]? = some x.s := by rw [← HI.out, List.getElem?_map, hx]; rfl
      obtain ⟨b, off, aw, cw, ap, cp, hax, hc, hT, hPf, _, _⟩ := HS.out j x.s hs
      have ok := LS.out j x hx
      obtain ⟨bW, ebW, kW⟩ := CW.out j (itW x) (by rw [List.getElem?_map, hx]; rfl)
      obtain ⟨bP, ebP, kP⟩ := CP.out j (itP x) (by rw [List.getElem?_map, hx]; rfl)
      have sm := SM.out x.s (List.mem_of_getElem? hs)
      obtain ⟨⟨k, lb, ky, pr, ws, ps, fn⟩, gw, kw, gp, kp⟩ := x
      obtain ⟨_, _, ew, hkw, _⟩ := id ok.w
      obtain ⟨_, _, ep, hkp, _⟩ := id ok.p
      cases ew
      cases ep
      have tw := rowIn_toks ok.w
      have tp := rowIn_toks ok.p
      unfold itW at kW
      unfold itP at kP
      dsimp only at *
      obtain ⟨nw, hnw⟩ : ∃ nw, ws.length = nw := ⟨_, rfl⟩
      obtain ⟨np, hnp⟩ : ∃ np, ps.length = np := ⟨_, rfl⟩
      unfold stmC at hc
      dsimp only at hc
      rw [hnw, hnp] at hc
      rw [hnw] at kW hkw
      rw [hnp] at kP hkp
      have hnwb : nw ≤ 1048576 := by rw [← hnw]; exact sm.nw
      have hnpb : np ≤ 1048576 := by rw [← hnp]; exact sm.np
      have n2 : (nw : Int) ≤ (kw : Int) := by omega
      have n3 : (np : Int) ≤ (kp : Int) := by omega
      have n4 : (nw : Int) < (nw : Int) + 2 := by omega
      have n5 : (nw : Int) + 1 < (nw : Int) + 2 := by omega
      have n6 : (np : Int) < (np : Int) + 2 := by omega
      have n7 : (np : Int) + 1 < (np : Int) + 2 := by omega
      have t1 : ((nw : Int) + 1).toNat = nw + 1 := by omega
      have t2 : ((np : Int) + 1).toNat = np + 1 := by omega
      have e1 : IntKind.i64.wrap ((nw : Int) + 1) = (nw : Int) + 1 := by rw [IntKind.wrap_i64]; omega
      have e2 : IntKind.i64.wrap ((np : Int) + 1) = (np : Int) + 1 := by rw [IntKind.wrap_i64]; omega
      have e3 : (0 : Int) ≤ (nw : Int) + 1 := by omega
      have e4 : (0 : Int) ≤ (np : Int) + 1 := by omega
      have CELL : Hid (∀ wx, Below w1.heap.size w1 wx → ∀ p v, w.cell? p = some v → wx.cell? p = some v) := fun wx hx p v hv => ((XX.out wx hx).2.cell (p := p) (World.block_lt_of_cell? _ _ hv)).trans hv
      obtain ⟨r0, r1, r2, r3⟩ := RM.out
      have CF1 : Hid (∀ wx, Below w1.heap.size w1 wx → wx.cell? ⟨B, 1, none⟩ = some (.slice (some ⟨bW, 0, none⟩) m cW) ∧ wx.cell? ⟨bW, j, none⟩ = some (.slice (some ⟨gw, 0, none⟩) (nw + 2) kw) ∧ wx.cell? ⟨b, off + j * 16 + 10, none⟩ = some (.slice aw nw cw) ∧ wx.cell? ⟨gw, nw * 4, none⟩ = some (.string roomS) ∧ wx.cell? ⟨gw, nw * 4 + 1, none⟩ = some (.int .i64 0) ∧ wx.cell? ⟨gw, nw * 4 + 2, none⟩ = some (.int .i64 0) ∧ wx.cell? ⟨gw, nw * 4 + 3, none⟩ = some (.int .i64 0) ∧ wx.cell? ⟨gw, (nw + 1) * 4, none⟩ = some (.string roomS) ∧ wx.cell? ⟨gw, (nw + 1) * 4 + 1, none⟩ = some (.int .i64 0) ∧ wx.cell? ⟨gw, (nw + 1) * 4 + 2, none⟩ = some (.int .i64 0) ∧ wx.cell? ⟨gw, (nw + 1) * 4 + 3, none⟩ = some (.int .i64 0) ∧ wx.cell? ⟨0, 0, none⟩ = some (.string roomS) ∧ wx.cell? ⟨0, 1, none⟩ = some (.int .i64 0) ∧ wx.cell? ⟨0, 2, none⟩ = some (.int .i64 0) ∧ wx.cell? ⟨0, 3, none⟩ = some (.int .i64 0)) := fun wx hx => by
        obtain ⟨p0, p1, p2, p3⟩ := room_cells tw hnw 0 (by omega)
        obtain ⟨q0, q1, q2, q3⟩ := room_cells tw hnw 1 (by omega)
        rw [Nat.add_zero] at p0 p1 p2 p3
        have C := CELL.out wx hx
        exact ⟨by rw [← ebW]; exact M.cell_whole (XX.out wx hx).1 1, C _ _ (by exact kW), C _ _ (hc 10 _ rfl), C _ _ p0, C _ _ p1, C _ _ p2, C _ _ p3, C _ _ q0, C _ _ q1, C _ _ q2, C _ _ q3, C _ _ r0, C _ _ r1, C _ _ r2, C _ _ r3⟩
      have CF2 : Hid (∀ wx, Below w1.heap.size w1 wx → wx.cell? ⟨B, 2, none⟩ = some (.slice (some ⟨bP, 0, none⟩) m cP) ∧ wx.cell? ⟨bP, j, none⟩ = some (.slice (some ⟨gp, 0, none⟩) (np + 2) kp) ∧ wx.cell? ⟨b, off + j * 16 + 11, none⟩ = some (.slice ap np cp) ∧ wx.cell? ⟨gp, np * 4, none⟩ = some (.string roomS) ∧ wx.cell? ⟨gp, np * 4 + 1, none⟩ = some (.int .i64 0) ∧ wx.cell? ⟨gp, np * 4 + 2, none⟩ = some (.int .i64 0) ∧ wx.cell? ⟨gp, np * 4 + 3, none⟩ = some (.int .i64 0) ∧ wx.cell? ⟨gp, (np + 1) * 4, none⟩ = some (.string roomS) ∧ wx.cell? ⟨gp, (np + 1) * 4 + 1, none⟩ = some (.int .i64 0) ∧ wx.cell? ⟨gp, (np + 1) * 4 + 2, none⟩ = some (.int .i64 0) ∧ wx.cell? ⟨gp, (np + 1) * 4 + 3, none⟩ = some (.int .i64 0) ∧ wx.cell? ⟨0, 0, none⟩ = some (.string roomS) ∧ wx.cell? ⟨0, 1, none⟩ = some (.int .i64 0) ∧ wx.cell? ⟨0, 2, none⟩ = some (.int .i64 0) ∧ wx.cell? ⟨0, 3, none⟩ = some (.int .i64 0)) := fun wx hx => by
        obtain ⟨p0, p1, p2, p3⟩ := room_cells tp hnp 0 (by omega)
        obtain ⟨q0, q1, q2, q3⟩ := room_cells tp hnp 1 (by omega)
        rw [Nat.add_zero] at p0 p1 p2 p3
        have C := CELL.out wx hx
        exact ⟨by rw [← ebP]; exact M.cell_whole (XX.out wx hx).1 2, C _ _ (by exact kP), C _ _ (hc 11 _ rfl), C _ _ p0, C _ _ p1, C _ _ p2, C _ _ p3, C _ _ q0, C _ _ q1, C _ _ q2, C _ _ q3, C _ _ r0, C _ _ r1, C _ _ r2, C _ _ r3⟩
      have TK1 : Hid (∀ wx, Below w1.heap.size w1 wx → Calls Tryd.prog 35 #[.slice (some ⟨gw, 0, none⟩) nw kw, .slice aw nw cw, .bool true] wx fun e w' => e = .returned (.bool true) ∧ Below wx.heap.size wx w') := fun wx hx => tokens_eq wx _ aw nw kw cw ws hnw (by omega) (fun q t ht => (tw.under (XX.out wx hx).2) q t (by rw [List.getElem?_append_left (List.getElem?_eq_some_iff.1 ht).1]; exact ht)) (hT.under (XX.out wx hx).2)
      have TK2 : Hid (∀ wx, Below w1.heap.size w1 wx → Calls Tryd.prog 35 #[.slice (some ⟨gp, 0, none⟩) np kp, .slice ap np cp, .bool true] wx fun e w' => e = .returned (.bool true) ∧ Below wx.heap.size wx w') := fun wx hx => tokens_eq wx _ ap np kp cp ps hnp (by omega) (fun q t ht => (tp.under (XX.out wx hx).2) q t (by rw [List.getElem?_append_left (List.getElem?_eq_some_iff.1 ht).1]; exact ht)) (hPf.under (XX.out wx hx).2)
      have y10 : wr.cell? ⟨b, off + j * 16 + 10, none⟩ = some (.slice aw nw cw) := CELL.out wr hB.out _ _ (hc 10 _ rfl)
      have y11 : wr.cell? ⟨b, off + j * 16 + 11, none⟩ = some (.slice ap np cp) := CELL.out wr hB.out _ _ (hc 11 _ rfl)
      subst hax
      clear hs hx sm hc hT hPf ok tw tp kW kP hkw hkp ebW ebP r0 r1 r2 r3 hnw hnp CELL
      go_upto_region 6 with fail
      go_cut [64] (fun v64 wx => v64 = .bool false ∧ Hid (Below w1.heap.size w1 wx))
      case first => as_aux_lemma =>
        have HBd : Hid (Below w1.heap.size w1 wr.drew) := below_drewN hB.out 1
        refine wp_region_held_drew (S := fun w' => w'.cell? ⟨B, 1, none⟩ = some (.slice (some ⟨bW, 0, none⟩) m cW) ∧ w'.cell? ⟨bW, j, none⟩ = some (.slice (some ⟨gw, 0, none⟩) (nw + 2) kw) ∧ w'.cell? ⟨b, off + j * 16 + 10, none⟩ = some (.slice aw nw cw) ∧ w'.cell? ⟨gw, nw * 4, none⟩ = some (.string roomS) ∧ w'.cell? ⟨gw, nw * 4 + 1, none⟩ = some (.int .i64 0) ∧ w'.cell? ⟨gw, nw * 4 + 2, none⟩ = some (.int .i64 0) ∧ w'.cell? ⟨gw, nw * 4 + 3, none⟩ = some (.int .i64 0) ∧ w'.cell? ⟨gw, (nw + 1) * 4, none⟩ = some (.string roomS) ∧ w'.cell? ⟨gw, (nw + 1) * 4 + 1, none⟩ = some (.int .i64 0) ∧ w'.cell? ⟨gw, (nw + 1) * 4 + 2, none⟩ = some (.int .i64 0) ∧ w'.cell? ⟨gw, (nw + 1) * 4 + 3, none⟩ = some (.int .i64 0) ∧ w'.cell? ⟨0, 0, none⟩ = some (.string roomS) ∧ w'.cell? ⟨0, 1, none⟩ = some (.int .i64 0) ∧ w'.cell? ⟨0, 2, none⟩ = some (.int .i64 0) ∧ w'.cell? ⟨0, 3, none⟩ = some (.int .i64 0)) (by kernel_rfl) ?_ (fun hHeld => ?_)
        · exact CF1.out _ HBd.out
        refine wpAnyH_take (i := 0) (oi := { dst := some 26, op := Op.fieldAddr 42 (Operand.tmp 2) 1, type := 0, pos := "law.go:94", after := #[], guard := none }) (v := ?_) rfl (by kernel_rfl) (by kernel_rfl) (by kernel_rfl) (fun _ _ _ h => h) (Or.inl ⟨by rfl, ?_⟩) hHeld ?_
        rotate_left
        · (intro w hSw; (try dsimp only at hSw); go_simp; try with_reducible rfl)
        try simp only [Act.put, List.setIfInBounds_toArray, List.set_cons_zero, List.set_cons_succ]
        refine wpAnyH_take (i := 1) (oi := { dst := some 27, op := Op.load 40 (Operand.tmp 26), type := 40, pos := "law.go:94", after := #[{ on := 0, ground := Ground.data }], guard := none }) (v := ?_) rfl (by kernel_rfl) (by kernel_rfl) (by kernel_rfl) (fun _ _ _ h => h) (Or.inl ⟨by rfl, ?_⟩) hHeld ?_
        rotate_left
        · (intro w hSw; (try dsimp only at hSw); go_simp; try with_reducible rfl)
        try simp only [Act.put, List.setIfInBounds_toArray, List.set_cons_zero, List.set_cons_succ]
        refine wpAnyH_take (i := 2) (oi := { dst := some 28, op := Op.move (Operand.tmp 5), type := 3, pos := "law.go:94", after := #[], guard := none }) (v := ?_) rfl (by kernel_rfl) (by kernel_rfl) (by kernel_rfl) (fun _ _ _ h => h) (Or.inl ⟨by rfl, ?_⟩) hHeld ?_
        rotate_left
        · (intro w hSw; (try dsimp only at hSw); go_simp; try with_reducible rfl)
        try simp only [Act.put, List.setIfInBounds_toArray, List.set_cons_zero, List.set_cons_succ]
        refine wpAnyH_take (i := 3) (oi := { dst := some 29, op := Op.indexAddr 40 (Operand.tmp 27) (Operand.tmp 28), type := 0, pos := "law.go:94", after := #[{ on := 1, ground := Ground.data }, { on := 2, ground := Ground.data }], guard := none }) (v := ?_) rfl (by kernel_rfl) (by kernel_rfl) (by kernel_rfl) (fun _ _ _ h => h) (Or.inl ⟨by rfl, ?_⟩) hHeld ?_
        rotate_left
        · (intro w hSw; (try dsimp only at hSw); go_simp; try with_reducible rfl)
        try simp only [Act.put, List.setIfInBounds_toArray, List.set_cons_zero, List.set_cons_succ]
        refine wpAnyH_take (i := 4) (oi := { dst := some 30, op := Op.load 31 (Operand.tmp 29), type := 31, pos := "law.go:94", after := #[{ on := 3, ground := Ground.data }], guard := none }) (v := ?_) rfl (by kernel_rfl) (by kernel_rfl) (by kernel_rfl) (fun _ _ _ h => h) (Or.inl ⟨by rfl, ?_⟩) hHeld ?_
        rotate_left
        · (intro w hSw; (try dsimp only at hSw); go_simp; try with_reducible rfl)
        try simp only [Act.put, List.setIfInBounds_toArray, List.set_cons_zero, List.set_cons_succ]
        refine wpAnyH_take (i := 5) (oi := { dst := some 31, op := Op.move (Operand.tmp 6), type := 3, pos := "law.go:94", after := #[], guard := none }) (v := ?_) rfl (by kernel_rfl) (by kernel_rfl) (by kernel_rfl) (fun _ _ _ h => h) (Or.inl ⟨by rfl, ?_⟩) hHeld ?_
        rotate_left
        · (intro w hSw; (try dsimp only at hSw); go_simp; try with_reducible rfl)
        try simp only [Act.put, List.setIfInBounds_toArray, List.set_cons_zero, List.set_cons_succ]
        refine wpAnyH_take (i := 6) (oi := { dst := some 32, op := Op.slice 31 (Operand.tmp 30) none (some (Operand.tmp 31)) none, type := 31, pos := "law.go:94", after := #[{ on := 4, ground := Ground.data }, { on := 5, ground := Ground.data }], guard := none }) (v := ?_) rfl (by kernel_rfl) (by kernel_rfl) (by kernel_rfl) (fun _ _ _ h => h) (Or.inl ⟨by rfl, ?_⟩) hHeld ?_
        rotate_left
        · (intro w hSw; (try dsimp only at hSw); go_simp; try with_reducible rfl)
        try simp only [Act.put, List.setIfInBounds_toArray, List.set_cons_zero, List.set_cons_succ]
        refine wpAnyH_take (i := 7) (oi := { dst := some 33, op := Op.move (Operand.tmp 1), type := 22, pos := "law.go:94", after := #[], guard := none }) (v := ?_) rfl (by kernel_rfl) (by kernel_rfl) (by kernel_rfl) (fun _ _ _ h => h) (Or.inl ⟨by rfl, ?_⟩) hHeld ?_
        rotate_left
        · (intro w hSw; (try dsimp only at hSw); go_simp; try with_reducible rfl)
        try simp only [Act.put, List.setIfInBounds_toArray, List.set_cons_zero, List.set_cons_succ]
        refine wpAnyH_take (i := 8) (oi := { dst := some 34, op := Op.move (Operand.tmp 5), type := 3, pos := "law.go:94", after := #[], guard := none }) (v := ?_) rfl (by kernel_rfl) (by kernel_rfl) (by kernel_rfl) (fun _ _ _ h => h) (Or.inl ⟨by rfl, ?_⟩) hHeld ?_
        rotate_left
        · (intro w hSw; (try dsimp only at hSw); go_simp; try with_reducible rfl)
        try simp only [Act.put, List.setIfInBounds_toArray, List.set_cons_zero, List.set_cons_succ]
        refine wpAnyH_take (i := 9) (oi := { dst := some 35, op := Op.indexAddr 22 (Operand.tmp 33) (Operand.tmp 34), type := 0, pos := "law.go:94", after := #[{ on := 7, ground := Ground.data }, { on := 8, ground := Ground.data }], guard := none }) (v := ?_) rfl (by kernel_rfl) (by kernel_rfl) (by kernel_rfl) (fun _ _ _ h => h) (Or.inl ⟨by rfl, ?_⟩) hHeld ?_
        rotate_left
        · (intro w hSw; (try dsimp only at hSw); go_simp; try with_reducible rfl)
        try simp only [Act.put, List.setIfInBounds_toArray, List.set_cons_zero, List.set_cons_succ]
        refine wpAnyH_take (i := 10) (oi := { dst := some 36, op := Op.fieldAddr 36 (Operand.tmp 35) 4, type := 0, pos := "law.go:94", after := #[{ on := 9, ground := Ground.data }], guard := none }) (v := ?_) rfl (by kernel_rfl) (by kernel_rfl) (by kernel_rfl) (fun _ _ _ h => h) (Or.inl ⟨by rfl, ?_⟩) hHeld ?_
        rotate_left
        · (intro w hSw; (try dsimp only at hSw); go_simp; try with_reducible rfl)
        try simp only [Act.put, List.setIfInBounds_toArray, List.set_cons_zero, List.set_cons_succ]
        refine wpAnyH_take (i := 11) (oi := { dst := some 37, op := Op.load 31 (Operand.tmp 36), type := 31, pos := "law.go:94", after := #[{ on := 10, ground := Ground.data }], guard := none }) (v := ?_) rfl (by kernel_rfl) (by kernel_rfl) (by kernel_rfl) (fun _ _ _ h => h) (Or.inl ⟨by rfl, ?_⟩) hHeld ?_
        rotate_left
        · (intro w hSw; (try dsimp only at hSw); go_simp; try with_reducible rfl)
        try simp only [Act.put, List.setIfInBounds_toArray, List.set_cons_zero, List.set_cons_succ]
        refine wpAnyH_ready (rs := [12]) (by kernel_rfl) (by simp) ?_
        refine AllReadyH.cons (o := { dst := some 38, op := Op.call { callee := Callee.value (Operand.func 35), args := #[Operand.tmp 32, Operand.tmp 37, Operand.const (Value.bool true)], argTypes := #[31, 31, 4] }, type := 4, pos := "law.go:94", after := #[{ on := 6, ground := Ground.data }, { on := 11, ground := Ground.data }], guard := none }) rfl (fun K hK => ?_) AllReadyH.nil
        go_simp
        go_at_call 35
        refine Calls.mono (TK1.out _ HBd.out) ?_
        rintro e wt ⟨rfl, hbt⟩
        have HBt : Hid (Below w1.heap.size w1 wt) := HBd.out.trans (hbt.mono HBd.out.size)
        clear hbt
        try go_wp2_with fail
        refine hK.out _ _ ?_ (fun hHeld_12 => ?_)
        · exact CF1.out _ HBt.out
        clear hK K
        try simp only [Act.put, List.setIfInBounds_toArray, List.set_cons_zero, List.set_cons_succ]
        refine wpAnyH_take (i := 13) (oi := { dst := some 39, op := Op.unOp UnOp.not 4 (Operand.tmp 38), type := 4, pos := "law.go:94", after := #[{ on := 12, ground := Ground.data }], guard := none }) (v := ?_) rfl (by kernel_rfl) (by kernel_rfl) (by kernel_rfl) (fun _ _ _ h => h) (Or.inl ⟨by rfl, ?_⟩) hHeld_12 ?_
        rotate_left
        · (intro w hSw; (try dsimp only at hSw); go_simp; try with_reducible rfl)
        try simp only [Act.put, List.setIfInBounds_toArray, List.set_cons_zero, List.set_cons_succ]
        refine wpAnyH_take (i := 14) (oi := { dst := some 40, op := Op.move (Operand.tmp 39), type := 4, pos := "law.go:94", after := #[{ on := 13, ground := Ground.data }, { on := 12, ground := Ground.chain }], guard := none }) (v := ?_) rfl (by kernel_rfl) (by kernel_rfl) (by kernel_rfl) (fun _ _ _ h => h) (Or.inl ⟨by rfl, ?_⟩) hHeld_12 ?_
        rotate_left
        · (intro w hSw; (try dsimp only at hSw); go_simp; try with_reducible rfl)
        try simp only [Act.put, List.setIfInBounds_toArray, List.set_cons_zero, List.set_cons_succ]
        refine wpAnyH_take (i := 15) (oi := { dst := some 41, op := Op.fieldAddr 42 (Operand.tmp 2) 1, type := 0, pos := "law.go:94", after := #[{ on := 14, ground := Ground.guard }], guard := some (14, false) }) (v := ?_) rfl (by kernel_rfl) (by kernel_rfl) (by kernel_rfl) (fun _ _ _ h => h) (Or.inl ⟨by rfl, ?_⟩) hHeld_12 ?_
        rotate_left
        · (intro w hSw; (try dsimp only at hSw); go_simp; try with_reducible rfl)
        try simp only [Act.put, List.setIfInBounds_toArray, List.set_cons_zero, List.set_cons_succ]
        refine wpAnyH_take (i := 16) (oi := { dst := some 42, op := Op.load 40 (Operand.tmp 41), type := 40, pos := "law.go:94", after := #[{ on := 15, ground := Ground.data }, { on := 14, ground := Ground.guard }], guard := some (14, false) }) (v := ?_) rfl (by kernel_rfl) (by kernel_rfl) (by kernel_rfl) (fun _ _ _ h => h) (Or.inl ⟨by rfl, ?_⟩) hHeld_12 ?_
        rotate_left
        · (intro w hSw; (try dsimp only at hSw); go_simp; try with_reducible rfl)
        try simp only [Act.put, List.setIfInBounds_toArray, List.set_cons_zero, List.set_cons_succ]
        refine wpAnyH_take (i := 17) (oi := { dst := some 43, op := Op.move (Operand.tmp 5), type := 3, pos := "law.go:94", after := #[{ on := 14, ground := Ground.guard }], guard := some (14, false) }) (v := ?_) rfl (by kernel_rfl) (by kernel_rfl) (by kernel_rfl) (fun _ _ _ h => h) (Or.inl ⟨by rfl, ?_⟩) hHeld_12 ?_
        rotate_left
        · (intro w hSw; (try dsimp only at hSw); go_simp; try with_reducible rfl)
        try simp only [Act.put, List.setIfInBounds_toArray, List.set_cons_zero, List.set_cons_succ]
        refine wpAnyH_take (i := 18) (oi := { dst := some 44, op := Op.indexAddr 40 (Operand.tmp 42) (Operand.tmp 43), type := 0, pos := "law.go:94", after := #[{ on := 16, ground := Ground.data }, { on := 17, ground := Ground.data }, { on := 14, ground := Ground.guard }], guard := some (14, false) }) (v := ?_) rfl (by kernel_rfl) (by kernel_rfl) (by kernel_rfl) (fun _ _ _ h => h) (Or.inl ⟨by rfl, ?_⟩) hHeld_12 ?_
        rotate_left
        · (intro w hSw; (try dsimp only at hSw); go_simp; try with_reducible rfl)
        try simp only [Act.put, List.setIfInBounds_toArray, List.set_cons_zero, List.set_cons_succ]
        refine wpAnyH_take (i := 19) (oi := { dst := some 45, op := Op.load 31 (Operand.tmp 44), type := 31, pos := "law.go:94", after := #[{ on := 18, ground := Ground.data }, { on := 14, ground := Ground.guard }], guard := some (14, false) }) (v := ?_) rfl (by kernel_rfl) (by kernel_rfl) (by kernel_rfl) (fun _ _ _ h => h) (Or.inl ⟨by rfl, ?_⟩) hHeld_12 ?_
        rotate_left
        · (intro w hSw; (try dsimp only at hSw); go_simp; try with_reducible rfl)
        try simp only [Act.put, List.setIfInBounds_toArray, List.set_cons_zero, List.set_cons_succ]
        refine wpAnyH_take (i := 20) (oi := { dst := some 46, op := Op.move (Operand.tmp 6), type := 3, pos := "law.go:94", after := #[{ on := 14, ground := Ground.guard }], guard := some (14, false) }) (v := ?_) rfl (by kernel_rfl) (by kernel_rfl) (by kernel_rfl) (fun _ _ _ h => h) (Or.inl ⟨by rfl, ?_⟩) hHeld_12 ?_
        rotate_left
        · (intro w hSw; (try dsimp only at hSw); go_simp; try with_reducible rfl)
        try simp only [Act.put, List.setIfInBounds_toArray, List.set_cons_zero, List.set_cons_succ]
        refine wpAnyH_take (i := 21) (oi := { dst := some 47, op := Op.indexAddr 31 (Operand.tmp 45) (Operand.tmp 46), type := 0, pos := "law.go:94", after := #[{ on := 19, ground := Ground.data }, { on := 20, ground := Ground.data }, { on := 14, ground := Ground.guard }], guard := some (14, false) }) (v := ?_) rfl (by kernel_rfl) (by kernel_rfl) (by kernel_rfl) (fun _ _ _ h => h) (Or.inl ⟨by rfl, ?_⟩) hHeld_12 ?_
        rotate_left
        · (intro w hSw; (try dsimp only at hSw); go_simp; try with_reducible rfl)
        try simp only [Act.put, List.setIfInBounds_toArray, List.set_cons_zero, List.set_cons_succ]
        refine wpAnyH_take (i := 22) (oi := { dst := some 48, op := Op.load 34 (Operand.tmp 47), type := 34, pos := "law.go:94", after := #[{ on := 21, ground := Ground.data }, { on := 14, ground := Ground.guard }], guard := some (14, false) }) (v := ?_) rfl (by kernel_rfl) (by kernel_rfl) (by kernel_rfl) (fun _ _ _ h => h) (Or.inl ⟨by rfl, ?_⟩) hHeld_12 ?_
        rotate_left
        · (intro w hSw; (try dsimp only at hSw); go_simp; try with_reducible rfl)
        try simp only [Act.put, List.setIfInBounds_toArray, List.set_cons_zero, List.set_cons_succ]
        refine wpAnyH_take (i := 23) (oi := { dst := some 49, op := Op.load 34 (Operand.global 0), type := 34, pos := "law.go:94", after := #[{ on := 14, ground := Ground.guard }], guard := some (14, false) }) (v := ?_) rfl (by kernel_rfl) (by kernel_rfl) (by kernel_rfl) (fun _ _ _ h => h) (Or.inl ⟨by rfl, ?_⟩) hHeld_12 ?_
        rotate_left
        · (intro w hSw; (try dsimp only at hSw); go_simp; try with_reducible rfl)
        try simp only [Act.put, List.setIfInBounds_toArray, List.set_cons_zero, List.set_cons_succ]
        refine wpAnyH_take (i := 24) (oi := { dst := some 50, op := Op.binOp BinOp.neq 34 (Operand.tmp 48) (Operand.tmp 49) 34, type := 4, pos := "law.go:94", after := #[{ on := 22, ground := Ground.data }, { on := 23, ground := Ground.data }, { on := 14, ground := Ground.guard }], guard := some (14, false) }) (v := ?_) rfl (by kernel_rfl) (by kernel_rfl) (by kernel_rfl) (fun _ _ _ h => h) (Or.inl ⟨by rfl, ?_⟩) hHeld_12 ?_
        rotate_left
        · (intro w hSw; (try dsimp only at hSw); go_simp; try with_reducible rfl)
        try simp only [Act.put, List.setIfInBounds_toArray, List.set_cons_zero, List.set_cons_succ]
        refine wpAnyH_take (i := 25) (oi := { dst := some 51, op := Op.pick (Operand.tmp 40) (Operand.const (Value.bool true)) (Operand.tmp 50), type := 4, pos := "law.go:94", after := #[{ on := 14, ground := Ground.data }, { on := 24, ground := Ground.data }], guard := none }) (v := ?_) rfl (by kernel_rfl) (by kernel_rfl) (by kernel_rfl) (fun _ _ _ h => h) (Or.inl ⟨by rfl, ?_⟩) hHeld_12 ?_
        rotate_left
        · (intro w hSw; (try dsimp only at hSw); go_simp; try with_reducible rfl)
        try simp only [Act.put, List.setIfInBounds_toArray, List.set_cons_zero, List.set_cons_succ]
        refine wpAnyH_take (i := 26) (oi := { dst := some 52, op := Op.move (Operand.tmp 51), type := 4, pos := "law.go:94", after := #[{ on := 25, ground := Ground.data }, { on := 14, ground := Ground.chain }], guard := none }) (v := ?_) rfl (by kernel_rfl) (by kernel_rfl) (by kernel_rfl) (fun _ _ _ h => h) (Or.inl ⟨by rfl, ?_⟩) hHeld_12 ?_
        rotate_left
        · (intro w hSw; (try dsimp only at hSw); go_simp; try with_reducible rfl)
        try simp only [Act.put, List.setIfInBounds_toArray, List.set_cons_zero, List.set_cons_succ]
        refine wpAnyH_take (i := 27) (oi := { dst := some 53, op := Op.fieldAddr 42 (Operand.tmp 2) 1, type := 0, pos := "law.go:94", after := #[{ on := 26, ground := Ground.guard }], guard := some (26, false) }) (v := ?_) rfl (by kernel_rfl) (by kernel_rfl) (by kernel_rfl) (fun _ _ _ h => h) (Or.inl ⟨by rfl, ?_⟩) hHeld_12 ?_
        rotate_left
        · (intro w hSw; (try dsimp only at hSw); go_simp; try with_reducible rfl)
        try simp only [Act.put, List.setIfInBounds_toArray, List.set_cons_zero, List.set_cons_succ]
        refine wpAnyH_take (i := 28) (oi := { dst := some 54, op := Op.load 40 (Operand.tmp 53), type := 40, pos := "law.go:94", after := #[{ on := 27, ground := Ground.data }, { on := 26, ground := Ground.guard }], guard := some (26, false) }) (v := ?_) rfl (by kernel_rfl) (by kernel_rfl) (by kernel_rfl) (fun _ _ _ h => h) (Or.inl ⟨by rfl, ?_⟩) hHeld_12 ?_
        rotate_left
        · (intro w hSw; (try dsimp only at hSw); go_simp; try with_reducible rfl)
        try simp only [Act.put, List.setIfInBounds_toArray, List.set_cons_zero, List.set_cons_succ]
        refine wpAnyH_take (i := 29) (oi := { dst := some 55, op := Op.move (Operand.tmp 5), type := 3, pos := "law.go:94", after := #[{ on := 26, ground := Ground.guard }], guard := some (26, false) }) (v := ?_) rfl (by kernel_rfl) (by kernel_rfl) (by kernel_rfl) (fun _ _ _ h => h) (Or.inl ⟨by rfl, ?_⟩) hHeld_12 ?_
        rotate_left
        · (intro w hSw; (try dsimp only at hSw); go_simp; try with_reducible rfl)
        try simp only [Act.put, List.setIfInBounds_toArray, List.set_cons_zero, List.set_cons_succ]
        refine wpAnyH_take (i := 30) (oi := { dst := some 56, op := Op.indexAddr 40 (Operand.tmp 54) (Operand.tmp 55), type := 0, pos := "law.go:94", after := #[{ on := 28, ground := Ground.data }, { on := 29, ground := Ground.data }, { on := 26, ground := Ground.guard }], guard := some (26, false) }) (v := ?_) rfl (by kernel_rfl) (by kernel_rfl) (by kernel_rfl) (fun _ _ _ h => h) (Or.inl ⟨by rfl, ?_⟩) hHeld_12 ?_
        rotate_left
        · (intro w hSw; (try dsimp only at hSw); go_simp; try with_reducible rfl)
        try simp only [Act.put, List.setIfInBounds_toArray, List.set_cons_zero, List.set_cons_succ]
        refine wpAnyH_take (i := 31) (oi := { dst := some 57, op := Op.load 31 (Operand.tmp 56), type := 31, pos := "law.go:94", after := #[{ on := 30, ground := Ground.data }, { on := 26, ground := Ground.guard }], guard := some (26, false) }) (v := ?_) rfl (by kernel_rfl) (by kernel_rfl) (by kernel_rfl) (fun _ _ _ h => h) (Or.inl ⟨by rfl, ?_⟩) hHeld_12 ?_
        rotate_left
        · (intro w hSw; (try dsimp only at hSw); go_simp; try with_reducible rfl)
        try simp only [Act.put, List.setIfInBounds_toArray, List.set_cons_zero, List.set_cons_succ]
        refine wpAnyH_take (i := 32) (oi := { dst := some 58, op := Op.move (Operand.tmp 6), type := 3, pos := "law.go:94", after := #[{ on := 26, ground := Ground.guard }], guard := some (26, false) }) (v := ?_) rfl (by kernel_rfl) (by kernel_rfl) (by kernel_rfl) (fun _ _ _ h => h) (Or.inl ⟨by rfl, ?_⟩) hHeld_12 ?_
        rotate_left
        · (intro w hSw; (try dsimp only at hSw); go_simp; try with_reducible rfl)
        try simp only [Act.put, List.setIfInBounds_toArray, List.set_cons_zero, List.set_cons_succ]
        refine wpAnyH_take (i := 33) (oi := { dst := some 59, op := Op.binOp BinOp.add 3 (Operand.tmp 58) (Operand.const (Value.int IntKind.i64 1)) 3, type := 3, pos := "law.go:94", after := #[{ on := 32, ground := Ground.data }, { on := 26, ground := Ground.guard }], guard := some (26, false) }) (v := ?_) rfl (by kernel_rfl) (by kernel_rfl) (by kernel_rfl) (fun _ _ _ h => h) (Or.inl ⟨by rfl, ?_⟩) hHeld_12 ?_
        rotate_left
        · (intro w hSw; (try dsimp only at hSw); go_simp; try with_reducible rfl)
        try simp only [Act.put, List.setIfInBounds_toArray, List.set_cons_zero, List.set_cons_succ]
        refine wpAnyH_take (i := 34) (oi := { dst := some 60, op := Op.indexAddr 31 (Operand.tmp 57) (Operand.tmp 59), type := 0, pos := "law.go:94", after := #[{ on := 31, ground := Ground.data }, { on := 33, ground := Ground.data }, { on := 26, ground := Ground.guard }], guard := some (26, false) }) (v := ?_) rfl (by kernel_rfl) (by kernel_rfl) (by kernel_rfl) (fun _ _ _ h => h) (Or.inl ⟨by rfl, ?_⟩) hHeld_12 ?_
        rotate_left
        · (intro w hSw; (try dsimp only at hSw); go_simp; try with_reducible rfl)
        try simp only [Act.put, List.setIfInBounds_toArray, List.set_cons_zero, List.set_cons_succ]
        refine wpAnyH_take (i := 35) (oi := { dst := some 61, op := Op.load 34 (Operand.tmp 60), type := 34, pos := "law.go:94", after := #[{ on := 34, ground := Ground.data }, { on := 26, ground := Ground.guard }], guard := some (26, false) }) (v := ?_) rfl (by kernel_rfl) (by kernel_rfl) (by kernel_rfl) (fun _ _ _ h => h) (Or.inl ⟨by rfl, ?_⟩) hHeld_12 ?_
        rotate_left
        · (intro w hSw; (try dsimp only at hSw); go_simp; try with_reducible rfl)
        try simp only [Act.put, List.setIfInBounds_toArray, List.set_cons_zero, List.set_cons_succ]
        refine wpAnyH_take (i := 36) (oi := { dst := some 62, op := Op.load 34 (Operand.global 0), type := 34, pos := "law.go:94", after := #[{ on := 26, ground := Ground.guard }], guard := some (26, false) }) (v := ?_) rfl (by kernel_rfl) (by kernel_rfl) (by kernel_rfl) (fun _ _ _ h => h) (Or.inl ⟨by rfl, ?_⟩) hHeld_12 ?_
        rotate_left
        · (intro w hSw; (try dsimp only at hSw); go_simp; try with_reducible rfl)
        try simp only [Act.put, List.setIfInBounds_toArray, List.set_cons_zero, List.set_cons_succ]
        refine wpAnyH_take (i := 37) (oi := { dst := some 63, op := Op.binOp BinOp.neq 34 (Operand.tmp 61) (Operand.tmp 62) 34, type := 4, pos := "law.go:94", after := #[{ on := 35, ground := Ground.data }, { on := 36, ground := Ground.data }, { on := 26, ground := Ground.guard }], guard := some (26, false) }) (v := ?_) rfl (by kernel_rfl) (by kernel_rfl) (by kernel_rfl) (fun _ _ _ h => h) (Or.inl ⟨by rfl, ?_⟩) hHeld_12 ?_
        rotate_left
        · (intro w hSw; (try dsimp only at hSw); go_simp; try with_reducible rfl)
        try simp only [Act.put, List.setIfInBounds_toArray, List.set_cons_zero, List.set_cons_succ]
        refine wpAnyH_take (i := 38) (oi := { dst := some 64, op := Op.pick (Operand.tmp 52) (Operand.const (Value.bool true)) (Operand.tmp 63), type := 4, pos := "law.go:94", after := #[{ on := 26, ground := Ground.data }, { on := 37, ground := Ground.data }], guard := none }) (v := ?_) rfl (by kernel_rfl) (by kernel_rfl) (by kernel_rfl) (fun _ _ _ h => h) (Or.inl ⟨by rfl, ?_⟩) hHeld_12 ?_
        rotate_left
        · (intro w hSw; (try dsimp only at hSw); go_simp; try with_reducible rfl)
        try simp only [Act.put, List.setIfInBounds_toArray, List.set_cons_zero, List.set_cons_succ]
        refine wpAnyH_done (by kernel_rfl) ?_ _
        go_wp2_with fail
        go_meet
        exact ⟨by first | rfl | simp, HBt.out⟩
      case rest =>
        obtain ⟨rfl, hB3⟩ := hcut
        obtain ⟨w3, hw3⟩ : ∃ w3, w3 = wc := ⟨_, rfl⟩
        subst hw3
        clear CF1 TK1 hB
        go_upto_region 8 with fail
        go_cut [103] (fun v103 wx => v103 = .bool false ∧ Hid (Below w1.heap.size w1 wx))
        case first => as_aux_lemma =>
          have HBd : Hid (Below w1.heap.size w1 w3.drew) := below_drewN hB3.out 1
          refine wp_region_held_drew (S := fun w' => w'.cell? ⟨B, 2, none⟩ = some (.slice (some ⟨bP, 0, none⟩) m cP) ∧ w'.cell? ⟨bP, j, none⟩ = some (.slice (some ⟨gp, 0, none⟩) (np + 2) kp) ∧ w'.cell? ⟨b, off + j * 16 + 11, none⟩ = some (.slice ap np cp) ∧ w'.cell? ⟨gp, np * 4, none⟩ = some (.string roomS) ∧ w'.cell? ⟨gp, np * 4 + 1, none⟩ = some (.int .i64 0) ∧ w'.cell? ⟨gp, np * 4 + 2, none⟩ = some (.int .i64 0) ∧ w'.cell? ⟨gp, np * 4 + 3, none⟩ = some (.int .i64 0) ∧ w'.cell? ⟨gp, (np + 1) * 4, none⟩ = some (.string roomS) ∧ w'.cell? ⟨gp, (np + 1) * 4 + 1, none⟩ = some (.int .i64 0) ∧ w'.cell? ⟨gp, (np + 1) * 4 + 2, none⟩ = some (.int .i64 0) ∧ w'.cell? ⟨gp, (np + 1) * 4 + 3, none⟩ = some (.int .i64 0) ∧ w'.cell? ⟨0, 0, none⟩ = some (.string roomS) ∧ w'.cell? ⟨0, 1, none⟩ = some (.int .i64 0) ∧ w'.cell? ⟨0, 2, none⟩ = some (.int .i64 0) ∧ w'.cell? ⟨0, 3, none⟩ = some (.int .i64 0)) (by kernel_rfl) ?_ (fun hHeld => ?_)
          · exact CF2.out _ HBd.out
          refine wpAnyH_take (i := 0) (oi := { dst := some 65, op := Op.fieldAddr 42 (Operand.tmp 2) 2, type := 0, pos := "law.go:97", after := #[], guard := none }) (v := ?_) rfl (by kernel_rfl) (by kernel_rfl) (by kernel_rfl) (fun _ _ _ h => h) (Or.inl ⟨by rfl, ?_⟩) hHeld ?_
          rotate_left
          · (intro w hSw; (try dsimp only at hSw); go_simp; try with_reducible rfl)
          try simp only [Act.put, List.setIfInBounds_toArray, List.set_cons_zero, List.set_cons_succ]
          refine wpAnyH_take (i := 1) (oi := { dst := some 66, op := Op.load 40 (Operand.tmp 65), type := 40, pos := "law.go:97", after := #[{ on := 0, ground := Ground.data }], guard := none }) (v := ?_) rfl (by kernel_rfl) (by kernel_rfl) (by kernel_rfl) (fun _ _ _ h => h) (Or.inl ⟨by rfl, ?_⟩) hHeld ?_
          rotate_left
          · (intro w hSw; (try dsimp only at hSw); go_simp; try with_reducible rfl)
          try simp only [Act.put, List.setIfInBounds_toArray, List.set_cons_zero, List.set_cons_succ]
          refine wpAnyH_take (i := 2) (oi := { dst := some 67, op := Op.move (Operand.tmp 5), type := 3, pos := "law.go:97", after := #[], guard := none }) (v := ?_) rfl (by kernel_rfl) (by kernel_rfl) (by kernel_rfl) (fun _ _ _ h => h) (Or.inl ⟨by rfl, ?_⟩) hHeld ?_
          rotate_left
          · (intro w hSw; (try dsimp only at hSw); go_simp; try with_reducible rfl)
          try simp only [Act.put, List.setIfInBounds_toArray, List.set_cons_zero, List.set_cons_succ]
          refine wpAnyH_take (i := 3) (oi := { dst := some 68, op := Op.indexAddr 40 (Operand.tmp 66) (Operand.tmp 67), type := 0, pos := "law.go:97", after := #[{ on := 1, ground := Ground.data }, { on := 2, ground := Ground.data }], guard := none }) (v := ?_) rfl (by kernel_rfl) (by kernel_rfl) (by kernel_rfl) (fun _ _ _ h => h) (Or.inl ⟨by rfl, ?_⟩) hHeld ?_
          rotate_left
          · (intro w hSw; (try dsimp only at hSw); go_simp; try with_reducible rfl)
          try simp only [Act.put, List.setIfInBounds_toArray, List.set_cons_zero, List.set_cons_succ]
          refine wpAnyH_take (i := 4) (oi := { dst := some 69, op := Op.load 31 (Operand.tmp 68), type := 31, pos := "law.go:97", after := #[{ on := 3, ground := Ground.data }], guard := none }) (v := ?_) rfl (by kernel_rfl) (by kernel_rfl) (by kernel_rfl) (fun _ _ _ h => h) (Or.inl ⟨by rfl, ?_⟩) hHeld ?_
          rotate_left
          · (intro w hSw; (try dsimp only at hSw); go_simp; try with_reducible rfl)
          try simp only [Act.put, List.setIfInBounds_toArray, List.set_cons_zero, List.set_cons_succ]
          refine wpAnyH_take (i := 5) (oi := { dst := some 70, op := Op.move (Operand.tmp 7), type := 3, pos := "law.go:97", after := #[], guard := none }) (v := ?_) rfl (by kernel_rfl) (by kernel_rfl) (by kernel_rfl) (fun _ _ _ h => h) (Or.inl ⟨by rfl, ?_⟩) hHeld ?_
          rotate_left
          · (intro w hSw; (try dsimp only at hSw); go_simp; try with_reducible rfl)
          try simp only [Act.put, List.setIfInBounds_toArray, List.set_cons_zero, List.set_cons_succ]
          refine wpAnyH_take (i := 6) (oi := { dst := some 71, op := Op.slice 31 (Operand.tmp 69) none (some (Operand.tmp 70)) none, type := 31, pos := "law.go:97", after := #[{ on := 4, ground := Ground.data }, { on := 5, ground := Ground.data }], guard := none }) (v := ?_) rfl (by kernel_rfl) (by kernel_rfl) (by kernel_rfl) (fun _ _ _ h => h) (Or.inl ⟨by rfl, ?_⟩) hHeld ?_
          rotate_left
          · (intro w hSw; (try dsimp only at hSw); go_simp; try with_reducible rfl)
          try simp only [Act.put, List.setIfInBounds_toArray, List.set_cons_zero, List.set_cons_succ]
          refine wpAnyH_take (i := 7) (oi := { dst := some 72, op := Op.move (Operand.tmp 1), type := 22, pos := "law.go:97", after := #[], guard := none }) (v := ?_) rfl (by kernel_rfl) (by kernel_rfl) (by kernel_rfl) (fun _ _ _ h => h) (Or.inl ⟨by rfl, ?_⟩) hHeld ?_
          rotate_left
          · (intro w hSw; (try dsimp only at hSw); go_simp; try with_reducible rfl)
          try simp only [Act.put, List.setIfInBounds_toArray, List.set_cons_zero, List.set_cons_succ]
          refine wpAnyH_take (i := 8) (oi := { dst := some 73, op := Op.move (Operand.tmp 5), type := 3, pos := "law.go:97", after := #[], guard := none }) (v := ?_) rfl (by kernel_rfl) (by kernel_rfl) (by kernel_rfl) (fun _ _ _ h => h) (Or.inl ⟨by rfl, ?_⟩) hHeld ?_
          rotate_left
          · (intro w hSw; (try dsimp only at hSw); go_simp; try with_reducible rfl)
          try simp only [Act.put, List.setIfInBounds_toArray, List.set_cons_zero, List.set_cons_succ]
          refine wpAnyH_take (i := 9) (oi := { dst := some 74, op := Op.indexAddr 22 (Operand.tmp 72) (Operand.tmp 73), type := 0, pos := "law.go:97", after := #[{ on := 7, ground := Ground.data }, { on := 8, ground := Ground.data }], guard := none }) (v := ?_) rfl (by kernel_rfl) (by kernel_rfl) (by kernel_rfl) (fun _ _ _ h => h) (Or.inl ⟨by rfl, ?_⟩) hHeld ?_
          rotate_left
          · (intro w hSw; (try dsimp only at hSw); go_simp; try with_reducible rfl)
          try simp only [Act.put, List.setIfInBounds_toArray, List.set_cons_zero, List.set_cons_succ]
          refine wpAnyH_take (i := 10) (oi := { dst := some 75, op := Op.fieldAddr 36 (Operand.tmp 74) 5, type := 0, pos := "law.go:97", after := #[{ on := 9, ground := Ground.data }], guard := none }) (v := ?_) rfl (by kernel_rfl) (by kernel_rfl) (by kernel_rfl) (fun _ _ _ h => h) (Or.inl ⟨by rfl, ?_⟩) hHeld ?_
          rotate_left
          · (intro w hSw; (try dsimp only at hSw); go_simp; try with_reducible rfl)
          try simp only [Act.put, List.setIfInBounds_toArray, List.set_cons_zero, List.set_cons_succ]
          refine wpAnyH_take (i := 11) (oi := { dst := some 76, op := Op.load 31 (Operand.tmp 75), type := 31, pos := "law.go:97", after := #[{ on := 10, ground := Ground.data }], guard := none }) (v := ?_) rfl (by kernel_rfl) (by kernel_rfl) (by kernel_rfl) (fun _ _ _ h => h) (Or.inl ⟨by rfl, ?_⟩) hHeld ?_
          rotate_left
          · (intro w hSw; (try dsimp only at hSw); go_simp; try with_reducible rfl)
          try simp only [Act.put, List.setIfInBounds_toArray, List.set_cons_zero, List.set_cons_succ]
          refine wpAnyH_ready (rs := [12]) (by kernel_rfl) (by simp) ?_
          refine AllReadyH.cons (o := { dst := some 77, op := Op.call { callee := Callee.value (Operand.func 35), args := #[Operand.tmp 71, Operand.tmp 76, Operand.const (Value.bool true)], argTypes := #[31, 31, 4] }, type := 4, pos := "law.go:97", after := #[{ on := 6, ground := Ground.data }, { on := 11, ground := Ground.data }], guard := none }) rfl (fun K hK => ?_) AllReadyH.nil
          go_simp
          go_at_call 35
          refine Calls.mono (TK2.out _ HBd.out) ?_
          rintro e wt ⟨rfl, hbt⟩
          have HBt : Hid (Below w1.heap.size w1 wt) := HBd.out.trans (hbt.mono HBd.out.size)
          clear hbt
          try go_wp2_with fail
          refine hK.out _ _ ?_ (fun hHeld_12 => ?_)
          · exact CF2.out _ HBt.out
          clear hK K
          try simp only [Act.put, List.setIfInBounds_toArray, List.set_cons_zero, List.set_cons_succ]
          refine wpAnyH_take (i := 13) (oi := { dst := some 78, op := Op.unOp UnOp.not 4 (Operand.tmp 77), type := 4, pos := "law.go:97", after := #[{ on := 12, ground := Ground.data }], guard := none }) (v := ?_) rfl (by kernel_rfl) (by kernel_rfl) (by kernel_rfl) (fun _ _ _ h => h) (Or.inl ⟨by rfl, ?_⟩) hHeld_12 ?_
          rotate_left
          · (intro w hSw; (try dsimp only at hSw); go_simp; try with_reducible rfl)
          try simp only [Act.put, List.setIfInBounds_toArray, List.set_cons_zero, List.set_cons_succ]
          refine wpAnyH_take (i := 14) (oi := { dst := some 79, op := Op.move (Operand.tmp 78), type := 4, pos := "law.go:97", after := #[{ on := 13, ground := Ground.data }, { on := 12, ground := Ground.chain }], guard := none }) (v := ?_) rfl (by kernel_rfl) (by kernel_rfl) (by kernel_rfl) (fun _ _ _ h => h) (Or.inl ⟨by rfl, ?_⟩) hHeld_12 ?_
          rotate_left
          · (intro w hSw; (try dsimp only at hSw); go_simp; try with_reducible rfl)
          try simp only [Act.put, List.setIfInBounds_toArray, List.set_cons_zero, List.set_cons_succ]
          refine wpAnyH_take (i := 15) (oi := { dst := some 80, op := Op.fieldAddr 42 (Operand.tmp 2) 2, type := 0, pos := "law.go:97", after := #[{ on := 14, ground := Ground.guard }], guard := some (14, false) }) (v := ?_) rfl (by kernel_rfl) (by kernel_rfl) (by kernel_rfl) (fun _ _ _ h => h) (Or.inl ⟨by rfl, ?_⟩) hHeld_12 ?_
          rotate_left
          · (intro w hSw; (try dsimp only at hSw); go_simp; try with_reducible rfl)
          try simp only [Act.put, List.setIfInBounds_toArray, List.set_cons_zero, List.set_cons_succ]
          refine wpAnyH_take (i := 16) (oi := { dst := some 81, op := Op.load 40 (Operand.tmp 80), type := 40, pos := "law.go:97", after := #[{ on := 15, ground := Ground.data }, { on := 14, ground := Ground.guard }], guard := some (14, false) }) (v := ?_) rfl (by kernel_rfl) (by kernel_rfl) (by kernel_rfl) (fun _ _ _ h => h) (Or.inl ⟨by rfl, ?_⟩) hHeld_12 ?_
          rotate_left
          · (intro w hSw; (try dsimp only at hSw); go_simp; try with_reducible rfl)
          try simp only [Act.put, List.setIfInBounds_toArray, List.set_cons_zero, List.set_cons_succ]
          refine wpAnyH_take (i := 17) (oi := { dst := some 82, op := Op.move (Operand.tmp 5), type := 3, pos := "law.go:97", after := #[{ on := 14, ground := Ground.guard }], guard := some (14, false) }) (v := ?_) rfl (by kernel_rfl) (by kernel_rfl) (by kernel_rfl) (fun _ _ _ h => h) (Or.inl ⟨by rfl, ?_⟩) hHeld_12 ?_
          rotate_left
          · (intro w hSw; (try dsimp only at hSw); go_simp; try with_reducible rfl)
          try simp only [Act.put, List.setIfInBounds_toArray, List.set_cons_zero, List.set_cons_succ]
          refine wpAnyH_take (i := 18) (oi := { dst := some 83, op := Op.indexAddr 40 (Operand.tmp 81) (Operand.tmp 82), type := 0, pos := "law.go:97", after := #[{ on := 16, ground := Ground.data }, { on := 17, ground := Ground.data }, { on := 14, ground := Ground.guard }], guard := some (14, false) }) (v := ?_) rfl (by kernel_rfl) (by kernel_rfl) (by kernel_rfl) (fun _ _ _ h => h) (Or.inl ⟨by rfl, ?_⟩) hHeld_12 ?_
          rotate_left
          · (intro w hSw; (try dsimp only at hSw); go_simp; try with_reducible rfl)
          try simp only [Act.put, List.setIfInBounds_toArray, List.set_cons_zero, List.set_cons_succ]
          refine wpAnyH_take (i := 19) (oi := { dst := some 84, op := Op.load 31 (Operand.tmp 83), type := 31, pos := "law.go:97", after := #[{ on := 18, ground := Ground.data }, { on := 14, ground := Ground.guard }], guard := some (14, false) }) (v := ?_) rfl (by kernel_rfl) (by kernel_rfl) (by kernel_rfl) (fun _ _ _ h => h) (Or.inl ⟨by rfl, ?_⟩) hHeld_12 ?_
          rotate_left
          · (intro w hSw; (try dsimp only at hSw); go_simp; try with_reducible rfl)
          try simp only [Act.put, List.setIfInBounds_toArray, List.set_cons_zero, List.set_cons_succ]
          refine wpAnyH_take (i := 20) (oi := { dst := some 85, op := Op.move (Operand.tmp 7), type := 3, pos := "law.go:97", after := #[{ on := 14, ground := Ground.guard }], guard := some (14, false) }) (v := ?_) rfl (by kernel_rfl) (by kernel_rfl) (by kernel_rfl) (fun _ _ _ h => h) (Or.inl ⟨by rfl, ?_⟩) hHeld_12 ?_
          rotate_left
          · (intro w hSw; (try dsimp only at hSw); go_simp; try with_reducible rfl)
          try simp only [Act.put, List.setIfInBounds_toArray, List.set_cons_zero, List.set_cons_succ]
          refine wpAnyH_take (i := 21) (oi := { dst := some 86, op := Op.indexAddr 31 (Operand.tmp 84) (Operand.tmp 85), type := 0, pos := "law.go:97", after := #[{ on := 19, ground := Ground.data }, { on := 20, ground := Ground.data }, { on := 14, ground := Ground.guard }], guard := some (14, false) }) (v := ?_) rfl (by kernel_rfl) (by kernel_rfl) (by kernel_rfl) (fun _ _ _ h => h) (Or.inl ⟨by rfl, ?_⟩) hHeld_12 ?_
          rotate_left
          · (intro w hSw; (try dsimp only at hSw); go_simp; try with_reducible rfl)
          try simp only [Act.put, List.setIfInBounds_toArray, List.set_cons_zero, List.set_cons_succ]
          refine wpAnyH_take (i := 22) (oi := { dst := some 87, op := Op.load 34 (Operand.tmp 86), type := 34, pos := "law.go:97", after := #[{ on := 21, ground := Ground.data }, { on := 14, ground := Ground.guard }], guard := some (14, false) }) (v := ?_) rfl (by kernel_rfl) (by kernel_rfl) (by kernel_rfl) (fun _ _ _ h => h) (Or.inl ⟨by rfl, ?_⟩) hHeld_12 ?_
          rotate_left
          · (intro w hSw; (try dsimp only at hSw); go_simp; try with_reducible rfl)
          try simp only [Act.put, List.setIfInBounds_toArray, List.set_cons_zero, List.set_cons_succ]
          refine wpAnyH_take (i := 23) (oi := { dst := some 88, op := Op.load 34 (Operand.global 0), type := 34, pos := "law.go:97", after := #[{ on := 14, ground := Ground.guard }], guard := some (14, false) }) (v := ?_) rfl (by kernel_rfl) (by kernel_rfl) (by kernel_rfl) (fun _ _ _ h => h) (Or.inl ⟨by rfl, ?_⟩) hHeld_12 ?_
          rotate_left
          · (intro w hSw; (try dsimp only at hSw); go_simp; try with_reducible rfl)
          try simp only [Act.put, List.setIfInBounds_toArray, List.set_cons_zero, List.set_cons_succ]
          refine wpAnyH_take (i := 24) (oi := { dst := some 89, op := Op.binOp BinOp.neq 34 (Operand.tmp 87) (Operand.tmp 88) 34, type := 4, pos := "law.go:97", after := #[{ on := 22, ground := Ground.data }, { on := 23, ground := Ground.data }, { on := 14, ground := Ground.guard }], guard := some (14, false) }) (v := ?_) rfl (by kernel_rfl) (by kernel_rfl) (by kernel_rfl) (fun _ _ _ h => h) (Or.inl ⟨by rfl, ?_⟩) hHeld_12 ?_
          rotate_left
          · (intro w hSw; (try dsimp only at hSw); go_simp; try with_reducible rfl)
          try simp only [Act.put, List.setIfInBounds_toArray, List.set_cons_zero, List.set_cons_succ]
          refine wpAnyH_take (i := 25) (oi := { dst := some 90, op := Op.pick (Operand.tmp 79) (Operand.const (Value.bool true)) (Operand.tmp 89), type := 4, pos := "law.go:97", after := #[{ on := 14, ground := Ground.data }, { on := 24, ground := Ground.data }], guard := none }) (v := ?_) rfl (by kernel_rfl) (by kernel_rfl) (by kernel_rfl) (fun _ _ _ h => h) (Or.inl ⟨by rfl, ?_⟩) hHeld_12 ?_
          rotate_left
          · (intro w hSw; (try dsimp only at hSw); go_simp; try with_reducible rfl)
          try simp only [Act.put, List.setIfInBounds_toArray, List.set_cons_zero, List.set_cons_succ]
          refine wpAnyH_take (i := 26) (oi := { dst := some 91, op := Op.move (Operand.tmp 90), type := 4, pos := "law.go:97", after := #[{ on := 25, ground := Ground.data }, { on := 14, ground := Ground.chain }], guard := none }) (v := ?_) rfl (by kernel_rfl) (by kernel_rfl) (by kernel_rfl) (fun _ _ _ h => h) (Or.inl ⟨by rfl, ?_⟩) hHeld_12 ?_
          rotate_left
          · (intro w hSw; (try dsimp only at hSw); go_simp; try with_reducible rfl)
          try simp only [Act.put, List.setIfInBounds_toArray, List.set_cons_zero, List.set_cons_succ]
          refine wpAnyH_take (i := 27) (oi := { dst := some 92, op := Op.fieldAddr 42 (Operand.tmp 2) 2, type := 0, pos := "law.go:97", after := #[{ on := 26, ground := Ground.guard }], guard := some (26, false) }) (v := ?_) rfl (by kernel_rfl) (by kernel_rfl) (by kernel_rfl) (fun _ _ _ h => h) (Or.inl ⟨by rfl, ?_⟩) hHeld_12 ?_
          rotate_left
          · (intro w hSw; (try dsimp only at hSw); go_simp; try with_reducible rfl)
          try simp only [Act.put, List.setIfInBounds_toArray, List.set_cons_zero, List.set_cons_succ]
          refine wpAnyH_take (i := 28) (oi := { dst := some 93, op := Op.load 40 (Operand.tmp 92), type := 40, pos := "law.go:97", after := #[{ on := 27, ground := Ground.data }, { on := 26, ground := Ground.guard }], guard := some (26, false) }) (v := ?_) rfl (by kernel_rfl) (by kernel_rfl) (by kernel_rfl) (fun _ _ _ h => h) (Or.inl ⟨by rfl, ?_⟩) hHeld_12 ?_
          rotate_left
          · (intro w hSw; (try dsimp only at hSw); go_simp; try with_reducible rfl)
          try simp only [Act.put, List.setIfInBounds_toArray, List.set_cons_zero, List.set_cons_succ]
          refine wpAnyH_take (i := 29) (oi := { dst := some 94, op := Op.move (Operand.tmp 5), type := 3, pos := "law.go:97", after := #[{ on := 26, ground := Ground.guard }], guard := some (26, false) }) (v := ?_) rfl (by kernel_rfl) (by kernel_rfl) (by kernel_rfl) (fun _ _ _ h => h) (Or.inl ⟨by rfl, ?_⟩) hHeld_12 ?_
          rotate_left
          · (intro w hSw; (try dsimp only at hSw); go_simp; try with_reducible rfl)
          try simp only [Act.put, List.setIfInBounds_toArray, List.set_cons_zero, List.set_cons_succ]
          refine wpAnyH_take (i := 30) (oi := { dst := some 95, op := Op.indexAddr 40 (Operand.tmp 93) (Operand.tmp 94), type := 0, pos := "law.go:97", after := #[{ on := 28, ground := Ground.data }, { on := 29, ground := Ground.data }, { on := 26, ground := Ground.guard }], guard := some (26, false) }) (v := ?_) rfl (by kernel_rfl) (by kernel_rfl) (by kernel_rfl) (fun _ _ _ h => h) (Or.inl ⟨by rfl, ?_⟩) hHeld_12 ?_
          rotate_left
          · (intro w hSw; (try dsimp only at hSw); go_simp; try with_reducible rfl)
          try simp only [Act.put, List.setIfInBounds_toArray, List.set_cons_zero, List.set_cons_succ]
          refine wpAnyH_take (i := 31) (oi := { dst := some 96, op := Op.load 31 (Operand.tmp 95), type := 31, pos := "law.go:97", after := #[{ on := 30, ground := Ground.data }, { on := 26, ground := Ground.guard }], guard := some (26, false) }) (v := ?_) rfl (by kernel_rfl) (by kernel_rfl) (by kernel_rfl) (fun _ _ _ h => h) (Or.inl ⟨by rfl, ?_⟩) hHeld_12 ?_
          rotate_left
          · (intro w hSw; (try dsimp only at hSw); go_simp; try with_reducible rfl)
          try simp only [Act.put, List.setIfInBounds_toArray, List.set_cons_zero, List.set_cons_succ]
          refine wpAnyH_take (i := 32) (oi := { dst := some 97, op := Op.move (Operand.tmp 7), type := 3, pos := "law.go:97", after := #[{ on := 26, ground := Ground.guard }], guard := some (26, false) }) (v := ?_) rfl (by kernel_rfl) (by kernel_rfl) (by kernel_rfl) (fun _ _ _ h => h) (Or.inl ⟨by rfl, ?_⟩) hHeld_12 ?_
          rotate_left
          · (intro w hSw; (try dsimp only at hSw); go_simp; try with_reducible rfl)
          try simp only [Act.put, List.setIfInBounds_toArray, List.set_cons_zero, List.set_cons_succ]
          refine wpAnyH_take (i := 33) (oi := { dst := some 98, op := Op.binOp BinOp.add 3 (Operand.tmp 97) (Operand.const (Value.int IntKind.i64 1)) 3, type := 3, pos := "law.go:97", after := #[{ on := 32, ground := Ground.data }, { on := 26, ground := Ground.guard }], guard := some (26, false) }) (v := ?_) rfl (by kernel_rfl) (by kernel_rfl) (by kernel_rfl) (fun _ _ _ h => h) (Or.inl ⟨by rfl, ?_⟩) hHeld_12 ?_
          rotate_left
          · (intro w hSw; (try dsimp only at hSw); go_simp; try with_reducible rfl)
          try simp only [Act.put, List.setIfInBounds_toArray, List.set_cons_zero, List.set_cons_succ]
          refine wpAnyH_take (i := 34) (oi := { dst := some 99, op := Op.indexAddr 31 (Operand.tmp 96) (Operand.tmp 98), type := 0, pos := "law.go:97", after := #[{ on := 31, ground := Ground.data }, { on := 33, ground := Ground.data }, { on := 26, ground := Ground.guard }], guard := some (26, false) }) (v := ?_) rfl (by kernel_rfl) (by kernel_rfl) (by kernel_rfl) (fun _ _ _ h => h) (Or.inl ⟨by rfl, ?_⟩) hHeld_12 ?_
          rotate_left
          · (intro w hSw; (try dsimp only at hSw); go_simp; try with_reducible rfl)
          try simp only [Act.put, List.setIfInBounds_toArray, List.set_cons_zero, List.set_cons_succ]
          refine wpAnyH_take (i := 35) (oi := { dst := some 100, op := Op.load 34 (Operand.tmp 99), type := 34, pos := "law.go:97", after := #[{ on := 34, ground := Ground.data }, { on := 26, ground := Ground.guard }], guard := some (26, false) }) (v := ?_) rfl (by kernel_rfl) (by kernel_rfl) (by kernel_rfl) (fun _ _ _ h => h) (Or.inl ⟨by rfl, ?_⟩) hHeld_12 ?_
          rotate_left
          · (intro w hSw; (try dsimp only at hSw); go_simp; try with_reducible rfl)
          try simp only [Act.put, List.setIfInBounds_toArray, List.set_cons_zero, List.set_cons_succ]
          refine wpAnyH_take (i := 36) (oi := { dst := some 101, op := Op.load 34 (Operand.global 0), type := 34, pos := "law.go:97", after := #[{ on := 26, ground := Ground.guard }], guard := some (26, false) }) (v := ?_) rfl (by kernel_rfl) (by kernel_rfl) (by kernel_rfl) (fun _ _ _ h => h) (Or.inl ⟨by rfl, ?_⟩) hHeld_12 ?_
          rotate_left
          · (intro w hSw; (try dsimp only at hSw); go_simp; try with_reducible rfl)
          try simp only [Act.put, List.setIfInBounds_toArray, List.set_cons_zero, List.set_cons_succ]
          refine wpAnyH_take (i := 37) (oi := { dst := some 102, op := Op.binOp BinOp.neq 34 (Operand.tmp 100) (Operand.tmp 101) 34, type := 4, pos := "law.go:97", after := #[{ on := 35, ground := Ground.data }, { on := 36, ground := Ground.data }, { on := 26, ground := Ground.guard }], guard := some (26, false) }) (v := ?_) rfl (by kernel_rfl) (by kernel_rfl) (by kernel_rfl) (fun _ _ _ h => h) (Or.inl ⟨by rfl, ?_⟩) hHeld_12 ?_
          rotate_left
          · (intro w hSw; (try dsimp only at hSw); go_simp; try with_reducible rfl)
          try simp only [Act.put, List.setIfInBounds_toArray, List.set_cons_zero, List.set_cons_succ]
          refine wpAnyH_take (i := 38) (oi := { dst := some 103, op := Op.pick (Operand.tmp 91) (Operand.const (Value.bool true)) (Operand.tmp 102), type := 4, pos := "law.go:97", after := #[{ on := 26, ground := Ground.data }, { on := 37, ground := Ground.data }], guard := none }) (v := ?_) rfl (by kernel_rfl) (by kernel_rfl) (by kernel_rfl) (fun _ _ _ h => h) (Or.inl ⟨by rfl, ?_⟩) hHeld_12 ?_
          rotate_left
          · (intro w hSw; (try dsimp only at hSw); go_simp; try with_reducible rfl)
          try simp only [Act.put, List.setIfInBounds_toArray, List.set_cons_zero, List.set_cons_succ]
          refine wpAnyH_done (by kernel_rfl) ?_ _
          go_wp2_with fail
          go_meet
          exact ⟨by first | rfl | simp, HBt.out⟩
        case rest =>
          obtain ⟨rfl, hB5⟩ := hcut
          go_wp2
          exact ⟨⟨j + 1, by omega, by go_num, hB5.out⟩, by simp [intOf]; omega⟩
    · have n1 : ¬ (j : Int) < (m : Int) := by omega
      have z0 : wr.cell? ⟨B, 0, none⟩ = some (.slice aL m cL) := M.cell_whole (XX.out wr hB.out).1 0
      have BE : Hid (Below w.heap.size w wr) := (XX.out wr hB.out).2
      go_wp2_with fail
      refine Calls.mono (SAME.out wr hB.out) ?_
      rintro e w5 ⟨rfl, hb5⟩
      go_wp2
      go_ret
      exact ⟨rfl, BE.out.trans (hb5.mono BE.out.size)⟩
end Go.Proofs.YtipfhfeaalbmcaaDoor
