/- The law's own lent. -/
import Derived.Test.YtipfhfeaalbmcaaDoorLentSt
namespace Go.Proofs.YtipfhfeaalbmcaaDoor
open Go.RowKit

theorem infoSt : (Tryd.prog.info? 36).map (fun i => (i.zero, i.size, i.bytes)) = some (some (.agg #[.int .i64 0, .string ⟨#[]⟩, .int .i64 0, .int .i64 0, .int .i64 0, .string ⟨#[]⟩, .int .i64 0, .int .i64 0, .int .i64 0, .bool false, .slice none 0 0, .slice none 0 0, .string ⟨#[]⟩, .int .i64 0, .int .i64 0, .int .i64 0]), 16, 184) := by kernel_rfl
theorem infoSl : (Tryd.prog.info? 31).map (fun i => (i.zero, i.size, i.bytes)) = some (some (.slice none 0 0), 1, 24) := by kernel_rfl

/-- What lent answers. -/
def LentIs (w w' : World) (e : Ending) (l : List Stm) : Prop := ∃ (vL vW vP : Value) (H : Nat → Prop) (its : List It) (T : Nat), e = .returned (.agg #[vL, vW, vP]) ∧ LSt T H w' vL vW vP its its its ∧ its.map (·.s) = l ∧ Below w.heap.size w w'
theorem bel_grow {T : Nat} {w2 W W' : World} {O : Obj} {v v' : Value} {o : Nat} (hB : Below T w2 W) (hT : T < W.heap.size) (hg : (W.alloc O).grownBy W' v.ownBlock) (hv : ∀ g, v.ownBlock = some g → T + 1 ≤ g) : Below T w2 (W'.setCell ⟨T, o, none⟩ v') :=
  hB.trans ((((M.Ch.of_below (X := fun g => g = T ∨ v.ownBlock = some g) (below_alloc W O)).trans ((M.Ch.of_grown hg).mono fun g e => .inr e)).trans ((M.ch_set W' T o v').mono fun g e => .inl e)).below (Nat.le_of_lt hT) fun g e => e.elim (fun e => by omega) fun e => by have := hv g e; omega)

set_option maxRecDepth 100000 in
set_option maxHeartbeats 32000000 in
theorem lent_any (w : World) (a : Option Addr) (n c : Nat) (l : List Stm) (hl : l.length = n) (hn : n ≤ 1048576) (hsm : ∀ s ∈ l, StmSm s) (hS : StmtsAt w a l) (hR : RoomAt w) :
    Calls Tryd.prog 12 #[.slice a n c] w fun e w' => LentIs w w' e l := by
  obtain ⟨iS, hiS, iSz, iSs, iSb⟩ := info_parts infoSt
  obtain ⟨iT, hiT, iTz, iTs, iTb⟩ := info_parts infoSl
  obtain ⟨w1, hw1⟩ : ∃ w1, w1 = w.alloc (.cells #[.slice none 0 0, .slice none 0 0, .slice none 0 0] 42) := ⟨_, rfl⟩
  obtain ⟨w2, hw2⟩ : ∃ w2, w2 = w1.alloc (.cells #[.slice none 0 0, .slice none 0 0, .slice none 0 0] 42) := ⟨_, rfl⟩
  have b1 : Below w.heap.size w w1 := by rw [hw1]; exact below_alloc _ _
  have b2 : Below w1.heap.size w1 w2 := by rw [hw2]; exact below_alloc _ _
  have hs1 : w1.heap.size = w.heap.size + 1 := by rw [hw1]; simp
  have hk1 : w1.heap[w.heap.size]? = some (.cells #[.slice none 0 0, .slice none 0 0, .slice none 0 0] 42 (0, 0)) := by rw [hw1]; exact heap_alloc_new w _
  have hk2 : w2.heap[w1.heap.size]? = some (.cells #[.slice none 0 0, .slice none 0 0, .slice none 0 0] 42 (0, 0)) := by rw [hw2]; exact heap_alloc_new w1 _
  obtain ⟨R, hRe⟩ : ∃ R, w.heap.size = R := ⟨_, rfl⟩
  obtain ⟨T, hT⟩ : ∃ T, w1.heap.size = T := ⟨_, rfl⟩
  have hRT : R < T := by omega
  rw [hRe] at hk1
  rw [hT] at hk2
  have HKR : Hid (w2.heap[R]? = some (.cells #[.slice none 0 0, .slice none 0 0, .slice none 0 0] 42 (0, 0))) := (b2.block R (by omega)).trans hk1
  have B2 : Hid (Below w.heap.size w w2) := b1.trans (b2.mono b1.size)
  have HRT : Hid (R < T ∧ w.heap.size = R) := ⟨hRT, hRe⟩
  have L2 : Hid (LSt T (fun _ => False) w2 (.slice none 0 0) (.slice none 0 0) (.slice none 0 0) [] [] []) := ⟨hk2, World.ownsRow_nil _ _ _ _, World.ownsRow_nil _ _ _ _, World.ownsRow_nil _ _ _ _, (fun g e => by cases e), (fun g e => by cases e), (fun g e => by cases e), (fun g e => e.elim), (fun x hx => by cases hx)⟩
  have H1 : Hid (w.alloc (.cells #[.slice none 0 0, .slice none 0 0, .slice none 0 0] 42) = w1) := hw1.symm
  have H2 : Hid (w1.alloc (.cells #[.slice none 0 0, .slice none 0 0, .slice none 0 0] 42) = w2) := hw2.symm
  have E1 : Hid (R + 1 = T) := by show _ = _; omega
  have HS : Hid (StmtsAt w a l) := hS
  have RM : Hid (RoomAt w) := hR
  have HL : Hid (l.length = n) := hl
  have SM : Hid _ := hsm
  clear hw1 hw2 b1 b2 hs1 hk1 hk2 hT hS hR hl hsm hRT
  go_enter Tryd.func12, Tryd.ntmps12
  go_wp2_with fail
  rw [H1.out, H2.out]
  try rw [hRe]
  try rw [E1.out]
  clear H1 H2 E1 hRe
  go_loopw [4] (fun v4 wx => ∃ (i : Nat) (its : List It) (H : Nat → Prop) (vL vW vP : Value), i ≤ n ∧ v4 = .int .i64 i ∧ Hid (its.map (·.s) = l.take i) ∧ Hid (LSt T H wx vL vW vP its its its) ∧ Hid (Below T w2 wx)) (fun v4 _ => n - (intOf v4).toNat)
  case atStart => exact ⟨0, [], fun _ => False, _, _, _, Nat.zero_le _, rfl, rfl, L2.out, Below.refl _ _⟩
  case round =>
    obtain ⟨i, its, H, vL, vW, vP, hi, rfl, hIt, hL, hB⟩ := hrel
    have BW : Hid (Below w.heap.size w wr) := B2.out.trans (hB.out.mono (by have h := HRT.out; omega))
    by_cases hlt : i < n
    · have n1 : (i : Int) < (n : Int) := by omega
      obtain ⟨s, hs⟩ : ∃ s, l[i]? = some s := ⟨l[i]'(by rw [HL.out]; exact hlt), List.getElem?_eq_getElem _⟩
      obtain ⟨b, off, aw, cw, ap, cp, hax, hc, hT, hPf, _, _⟩ := (HS.out.under BW.out) i s hs
      have sm := SM.out s (List.mem_of_getElem? hs)
      have HTK : Hid (l.take (i + 1) = l.take i ++ [s]) := by show _ = _; rw [List.take_add_one, hs]; rfl
      obtain ⟨k, lb, ky, pr, ws, ps, fn⟩ := s
      obtain ⟨x0, x1, x2, x3, x4, x5, x6, x7, x8, x9, x10, x11, x12, x13, x14, x15⟩ := cells16 hc
      dsimp only at *
      obtain ⟨nw, hnw⟩ : ∃ nw, ws.length = nw := ⟨_, rfl⟩
      obtain ⟨np, hnp⟩ : ∃ np, ps.length = np := ⟨_, rfl⟩
      rw [hnw] at x10
      rw [hnp] at x11
      have hnwb : nw ≤ 1048576 := by rw [← hnw]; exact sm.nw
      have hnpb : np ≤ 1048576 := by rw [← hnp]; exact sm.np
      obtain ⟨w3, hw3⟩ : ∃ w3, w3 = wr.alloc (.cells (stmA k lb ky fn pr (.slice aw nw cw) (.slice ap np cp)) 36) := ⟨_, rfl⟩
      have b3 : Below wr.heap.size wr w3 := by rw [hw3]; exact below_alloc _ _
      have hk3 : w3.heap[wr.heap.size]? = some (.cells (stmA k lb ky fn pr (.slice aw nw cw) (.slice ap np cp)) 36 (0, 0)) := by rw [hw3]; exact heap_alloc_new wr _
      obtain ⟨D, hD⟩ : ∃ D, wr.heap.size = D := ⟨_, rfl⟩
      rw [hD] at hk3
      have HW3 : Hid (wr.alloc (.cells #[.int .i64 k, .string lb.text, .int .i64 lb.off, .int .i64 lb.line, .int .i64 lb.col, .string ky.text, .int .i64 ky.off, .int .i64 ky.line, .int .i64 ky.col, .bool pr, .slice aw nw cw, .slice ap np cp, .string fn.text, .int .i64 fn.off, .int .i64 fn.line, .int .i64 fn.col] 36) = w3) := hw3.symm
      have HD : Hid (wr.heap.size = D) := hD
      have B3 : Hid (Below wr.heap.size wr w3) := b3
      have HK3 : Hid (w3.heap[D]? = some (.cells (stmA k lb ky fn pr (.slice aw nw cw) (.slice ap np cp)) 36 (0, 0))) := hk3
      have RW : Hid _ := roomy_any w3 aw nw cw ws hnw hnwb (hT.under b3) (RM.out.under (BW.out.trans (b3.mono BW.out.size)))
      have HTP : Hid (ToksAt wr ap ps) := hPf
      have HNW : Hid (ws.length = nw) := hnw
      have HNP : Hid (ps.length = np) := hnp
      have y10 : w3.cell? ⟨D, 10, none⟩ = some (.slice aw nw cw) := M.cell_whole hk3 10
      subst hax
      clear hs hc hT hPf sm hnw hnp hw3 b3 hk3 hD
      go_upto_region 6 with fail
      rw [HW3.out, HD.out]
      clear HW3 x0 x1 x2 x3 x4 x5 x6 x7 x8 x9 x10 x11 x12 x13 x14 x15
      go_wp2_with fail
      refine Calls.mono RW.out ?_
      rintro e w4 ⟨gw, kw, rfl, hkw, how, hb4⟩
      have B4 : Hid (Below wr.heap.size wr w4) := B3.out.trans (hb4.mono B3.out.size)
      have OW4 : Hid (w4.ownsRow w3.heap.size 34 4 (.slice (some ⟨gw, 0, none⟩) (nw + 2) kw) (nw + 2) (rowT (ws ++ [roomT, roomT]))) := how
      have HK4 : Hid (w4.heap[D]? = some (.cells (stmA k lb ky fn pr (.slice aw nw cw) (.slice ap np cp)) 36 (0, 0))) := (hb4.block D (Array.getElem?_eq_some_iff.1 HK3.out).1).trans HK3.out
      have HS34 : Hid (w3.heap.size ≤ w4.heap.size) := hb4.size
      have y11 : w4.cell? ⟨D, 11, none⟩ = some (.slice ap np cp) := M.cell_whole HK4.out 11
      have RP : Hid _ := roomy_any w4 ap np cp ps HNP.out hnpb (HTP.out.under B4.out) (RM.out.under (BW.out.trans (B4.out.mono BW.out.size)))
      clear RW how hb4 y10
      go_wp2_with fail
      refine Calls.mono RP.out ?_
      rintro e w5 ⟨gp, kp, rfl, hkp, hop, hb5⟩
      have B5 : Hid (Below wr.heap.size wr w5) := B4.out.trans (hb5.mono B4.out.size)
      have HK5 : Hid (w5.heap[D]? = some (.cells (stmA k lb ky fn pr (.slice aw nw cw) (.slice ap np cp)) 36 (0, 0))) := (hb5.block D (Array.getElem?_eq_some_iff.1 HK4.out).1).trans HK4.out
      have OW5 : Hid (w5.ownsRow w3.heap.size 34 4 (.slice (some ⟨gw, 0, none⟩) (nw + 2) kw) (nw + 2) (rowT (ws ++ [roomT, roomT]))) := M.owns_ch OW4.out (M.Ch.of_below (X := fun _ => False) hb5) fun _ _ e => e
      have OP5 : Hid (w5.ownsRow w4.heap.size 34 4 (.slice (some ⟨gp, 0, none⟩) (np + 2) kp) (np + 2) (rowT (ps ++ [roomT, roomT]))) := hop
      obtain ⟨Q, hQ⟩ : ∃ Q : Nat → Prop, Q = fun g => g = gw ∨ g = gp := ⟨_, rfl⟩
      have QF : Hid (∀ g, Q g → D < g ∧ g < w5.heap.size) := fun g hg => by
        rw [hQ] at hg
        have h0 := (Array.getElem?_eq_some_iff.1 HK3.out).1
        have h1 := HS34.out
        rcases hg with rfl | rfl
        · exact ⟨Nat.lt_of_lt_of_le h0 (M.own_ge' OW5.out _ rfl), M.own_lt OW5.out _ rfl⟩
        · exact ⟨Nat.lt_of_lt_of_le h0 (Nat.le_trans h1 (M.own_ge' OP5.out _ rfl)), M.own_lt OP5.out _ rfl⟩
      have FD : Hid (T < D ∧ (∀ g, H g → g < D) ∧ ∀ g, D ≤ g → vL.ownBlock ≠ some g ∧ vW.ownBlock ≠ some g ∧ vP.ownBlock ≠ some g) := by
        have hd := HD.out
        refine ⟨by have := hL.out.lt; omega, fun g hg => by have := (hL.out.held g hg).2.1; omega, fun g hg => ⟨fun e => ?_, fun e => ?_, fun e => ?_⟩⟩
        · have := M.own_lt hL.out.oL g e; omega
        · have := M.own_lt hL.out.oW g e; omega
        · have := M.own_lt hL.out.oP g e; omega
      have L5 : Hid (LSt T (fun g => H g ∨ Q g) w5 vL vW vP its its its) := (hL.out.down B5.out).more fun g hg => ⟨by have h1 := (QF.out g hg).1; have h2 := FD.out.1; omega, (QF.out g hg).2, FD.out.2.2 g (Nat.le_of_lt (QF.out g hg).1)⟩
      have I5 : Hid (ItOk w5 (fun g => H g ∨ Q g) ⟨⟨k, lb, ky, pr, ws, ps, fn⟩, gw, kw, gp, kp⟩) := ⟨by show M.RowIn _ _ (.slice (some ⟨gw, 0, none⟩) (ws.length + 2) kw) (ws.length + 2) _; rw [HNW.out]; exact M.RowIn.own OW5.out fun g e => .inr (by rw [hQ]; cases e; exact .inl rfl), by show M.RowIn _ _ (.slice (some ⟨gp, 0, none⟩) (ps.length + 2) kp) (ps.length + 2) _; rw [HNP.out]; exact M.RowIn.own OP5.out fun g e => .inr (by rw [hQ]; cases e; exact .inr rfl)⟩
      have n2 : (nw : Int) ≤ (kw : Int) := by omega
      have n3 : (np : Int) ≤ (kp : Int) := by omega
      have n4 : nw ≤ kw := by omega
      have n5 : np ≤ kp := by omega
      have z10 : w5.cell? ⟨D, 10, none⟩ = some (.slice aw nw cw) := M.cell_whole HK5.out 10
      have zf10 : w5.frozen? ⟨D, 10, none⟩ = false := by simp [World.frozen?, HK5.out]
      obtain ⟨w6, hw6⟩ : ∃ w6, w6 = w5.setCell ⟨D, 10, none⟩ (.slice (some ⟨gw, 0, none⟩) nw kw) := ⟨_, rfl⟩
      have HK6 : Hid (w6.heap[D]? = some (.cells (stmA k lb ky fn pr (.slice (some ⟨gw, 0, none⟩) nw kw) (.slice ap np cp)) 36 (0, 0))) := by rw [hw6]; exact M.heap_set_same HK5.out
      have C6 : Hid (M.Ch (fun g => g = D) w5 w6) := by rw [hw6]; exact M.ch_set _ _ _ _
      have HW6 : Hid (w5.setCell ⟨D, 10, none⟩ (.slice (some ⟨gw, 0, none⟩) nw kw) = w6) := hw6.symm
      obtain ⟨w7, hw7⟩ : ∃ w7, w7 = w6.setCell ⟨D, 11, none⟩ (.slice (some ⟨gp, 0, none⟩) np kp) := ⟨_, rfl⟩
      have HK7 : Hid (w7.heap[D]? = some (.cells (stmA k lb ky fn pr (.slice (some ⟨gw, 0, none⟩) nw kw) (.slice (some ⟨gp, 0, none⟩) np kp)) 36 (0, 0))) := by rw [hw7]; exact M.heap_set_same HK6.out
      have C7 : Hid (M.Ch (fun g => g = D) w5 w7) := by rw [hw7]; exact C6.out.trans (M.ch_set _ _ _ _)
      have HW7 : Hid (w6.setCell ⟨D, 11, none⟩ (.slice (some ⟨gp, 0, none⟩) np kp) = w7) := hw7.symm
      have hX : ∀ g, g = D → g ≠ T ∧ ¬ (H g ∨ Q g) ∧ vL.ownBlock ≠ some g ∧ vW.ownBlock ≠ some g ∧ vP.ownBlock ≠ some g := fun g e => by
        subst e
        exact ⟨by have := FD.out.1; omega, fun h => h.elim (fun h => by have := FD.out.2.1 g h; omega) (fun h => by have := (QF.out g h).1; omega), FD.out.2.2 g (Nat.le_refl _)⟩
      have L7 : Hid (LSt T (fun g => H g ∨ Q g) w7 vL vW vP its its its) := L5.out.ch C7.out hX
      have I7 : Hid (ItOk w7 (fun g => H g ∨ Q g) ⟨⟨k, lb, ky, pr, ws, ps, fn⟩, gw, kw, gp, kp⟩) := I5.out.ch C7.out (fun g hg e => (hX g e).2.1 hg) (fun _ e => e)
      have B7 : Hid (Below T w2 w7) := (hB.out.trans (B5.out.mono (Nat.le_of_lt hL.out.lt))).trans (C7.out.below (by have h1 := hL.out.lt; have h2 := B5.out.size; omega) fun g e => by have := FD.out.1; omega)
      have HIX : Hid ((its ++ [(⟨⟨k, lb, ky, pr, ws, ps, fn⟩, gw, kw, gp, kp⟩ : It)]).map (·.s) = l.take (i + 1)) := by show _ = _; rw [HTK.out, List.map_append, hIt.out]; rfl
      have hilen : its.length = i := by have h := congrArg List.length hIt.out; rw [List.length_map, List.length_take, HL.out] at h; omega
      have HIL : Hid (its.length = i) := hilen
      have u10 : w6.cell? ⟨D, 11, none⟩ = some (.slice ap np cp) := M.cell_whole HK6.out 11
      have uf11 : w6.frozen? ⟨D, 11, none⟩ = false := by simp [World.frozen?, HK6.out]
      clear RP hop hb5 hw6 hw7 hQ hX hilen hL hB y11 hIt
      go_upto_region 9 with fail
      rw [HW6.out]
      clear HW6 z10 zf10
      go_upto_region 10 with fail
      rw [HW7.out]
      clear HW7 u10 uf11
      obtain ⟨d0, d1, d2, d3, d4, d5, d6, d7, d8, d9, d10, d11, d12, d13, d14, d15⟩ := cells16 (w := w7) (b := D) (o := 0) (fun j u hu => by rw [Nat.zero_add, M.cell_whole HK7.out j]; exact hu)
      simp only [Nat.zero_add] at d1 d2 d3 d4 d5 d6 d7 d8 d9 d10 d11 d12 d13 d14 d15
      have t0 : w7.cell? ⟨T, 0, none⟩ = some vL := M.cell_whole L7.out.box 0
      have OWL : Hid ((w7.alloc (.cells #[.int .i64 k, .string lb.text, .int .i64 lb.off, .int .i64 lb.line, .int .i64 lb.col, .string ky.text, .int .i64 ky.off, .int .i64 ky.line, .int .i64 ky.col, .bool pr, .slice (some ⟨gw, 0, none⟩) nw kw, .slice (some ⟨gp, 0, none⟩) np kp, .string fn.text, .int .i64 fn.off, .int .i64 fn.line, .int .i64 fn.col] 36)).ownsRow (T + 1) 36 16 vL i (its.flatMap itC)) := by have h := M.owns_alloc L7.out.oL (.cells #[.int .i64 k, .string lb.text, .int .i64 lb.off, .int .i64 lb.line, .int .i64 lb.col, .string ky.text, .int .i64 ky.off, .int .i64 ky.line, .int .i64 ky.col, .bool pr, .slice (some ⟨gw, 0, none⟩) nw kw, .slice (some ⟨gp, 0, none⟩) np kp, .string fn.text, .int .i64 fn.off, .int .i64 fn.line, .int .i64 fn.col] 36); rw [HIL.out] at h; exact h
      have HLT : Hid (T < w7.heap.size) := L7.out.lt
      have HIC : Hid (itC ⟨⟨k, lb, ky, pr, ws, ps, fn⟩, gw, kw, gp, kp⟩ = #[.int .i64 k, .string lb.text, .int .i64 lb.off, .int .i64 lb.line, .int .i64 lb.col, .string ky.text, .int .i64 ky.off, .int .i64 ky.line, .int .i64 ky.col, .bool pr, .slice (some ⟨gw, 0, none⟩) nw kw, .slice (some ⟨gp, 0, none⟩) np kp, .string fn.text, .int .i64 fn.off, .int .i64 fn.line, .int .i64 fn.col].toList) := by show _ = _; unfold itC stmC; dsimp only; rw [HNW.out, HNP.out]; rfl
      have HIW : Hid (itW ⟨⟨k, lb, ky, pr, ws, ps, fn⟩, gw, kw, gp, kp⟩ = .slice (some ⟨gw, 0, none⟩) (nw + 2) kw) := by show _ = _; unfold itW; dsimp only; rw [HNW.out]
      have HIP : Hid (itP ⟨⟨k, lb, ky, pr, ws, ps, fn⟩, gw, kw, gp, kp⟩ = .slice (some ⟨gp, 0, none⟩) (np + 2) kp) := by show _ = _; unfold itP; dsimp only; rw [HNP.out]
      go_upto_region 11 with (at_builtin; (refine wpList_append_lies (w7.alloc (.cells #[.int .i64 k, .string lb.text, .int .i64 lb.off, .int .i64 lb.line, .int .i64 lb.col, .string ky.text, .int .i64 ky.off, .int .i64 ky.line, .int .i64 ky.col, .bool pr, .slice (some ⟨gw, 0, none⟩) nw kw, .slice (some ⟨gp, 0, none⟩) np kp, .string fn.text, .int .i64 fn.off, .int .i64 fn.line, .int .i64 fn.col] 36)) rfl _ _ _ rfl (T + 1) 36 iS _ 16 184 Tryd.underlying22 hiS iSz iSs iSb rfl (by omega) _ i (its.flatMap itC) (by rfl) (by exact OWL.out) ⟨w7.heap.size, 0, none⟩ 1 1 #[.int .i64 k, .string lb.text, .int .i64 lb.off, .int .i64 lb.line, .int .i64 lb.col, .string ky.text, .int .i64 ky.off, .int .i64 ky.line, .int .i64 ky.col, .bool pr, .slice (some ⟨gw, 0, none⟩) nw kw, .slice (some ⟨gp, 0, none⟩) np kp, .string fn.text, .int .i64 fn.off, .int .i64 fn.line, .int .i64 fn.col].toList (by rfl) (by rfl) (fun j' u hu => World.news_of_block (cs := #[.int .i64 k, .string lb.text, .int .i64 lb.off, .int .i64 lb.line, .int .i64 lb.col, .string ky.text, .int .i64 ky.off, .int .i64 ky.line, .int .i64 ky.col, .bool pr, .slice (some ⟨gw, 0, none⟩) nw kw, .slice (some ⟨gp, 0, none⟩) np kp, .string fn.text, .int .i64 fn.off, .int .i64 fn.line, .int .i64 fn.col]) (t := 36) (fr := (0, 0)) (heap_alloc_new w7 _) j' u hu) (by simp [Value.oneCell']) (by omega) (by unfold maxLen; omega) (by omega) (by have h1 := HLT.out; simp; omega) _ rfl ?_; intro g8 c8 w8 ho8 hg8 hl8 ht8; have HO8 : Hid (w8.ownsRow (T + 1) 36 16 (.slice (some ⟨g8, 0, none⟩) (i + 1) c8) (i + 1) (its.flatMap itC ++ #[.int .i64 k, .string lb.text, .int .i64 lb.off, .int .i64 lb.line, .int .i64 lb.col, .string ky.text, .int .i64 ky.off, .int .i64 ky.line, .int .i64 ky.col, .bool pr, .slice (some ⟨gw, 0, none⟩) nw kw, .slice (some ⟨gp, 0, none⟩) np kp, .string fn.text, .int .i64 fn.off, .int .i64 fn.line, .int .i64 fn.col].toList)) := ho8; have HG8 : Hid ((w7.alloc (.cells #[.int .i64 k, .string lb.text, .int .i64 lb.off, .int .i64 lb.line, .int .i64 lb.col, .string ky.text, .int .i64 ky.off, .int .i64 ky.line, .int .i64 ky.col, .bool pr, .slice (some ⟨gw, 0, none⟩) nw kw, .slice (some ⟨gp, 0, none⟩) np kp, .string fn.text, .int .i64 fn.off, .int .i64 fn.line, .int .i64 fn.col] 36)).grownBy w8 (vL).ownBlock) := hg8; have HL8 : Hid ((vL).ownBlock = some g8 ∨ g8 = (w7.alloc (.cells #[.int .i64 k, .string lb.text, .int .i64 lb.off, .int .i64 lb.line, .int .i64 lb.col, .string ky.text, .int .i64 ky.off, .int .i64 ky.line, .int .i64 ky.col, .bool pr, .slice (some ⟨gw, 0, none⟩) nw kw, .slice (some ⟨gp, 0, none⟩) np kp, .string fn.text, .int .i64 fn.off, .int .i64 fn.line, .int .i64 fn.col] 36)).heap.size) := hl8; clear ho8 hg8 hl8 ht8; have HKT : Hid (w8.heap[T]? = some (.cells #[vL, vW, vP] 42 (0, 0))) := (HG8.out.block T (by have h1 := HLT.out; simp; omega) (fun e => by have h1 := M.own_ge' L7.out.oL T e.symm; omega)).trans (((below_alloc w7 _).block T HLT.out).trans L7.out.box); have t8 : w8.cell? ⟨T, 0, none⟩ = some (vL) := M.cell_whole HKT.out 0; have tf8 : w8.frozen? ⟨T, 0, none⟩ = false := by simp [World.frozen?, HKT.out]))
      clear d0 d1 d2 d3 d4 d5 d6 d7 d8 d9 d10 d11 d12 d13 d14 d15 t0 t8 tf8 HKT OWL
      obtain ⟨w9, hw9⟩ : ∃ w9, w9 = w8.setCell ⟨T, 0, none⟩ (.slice (some ⟨g8, 0, none⟩) (i + 1) c8) := ⟨_, rfl⟩
      have HW9 : Hid (w8.setCell ⟨T, 0, none⟩ (.slice (some ⟨g8, 0, none⟩) (i + 1) c8) = w9) := hw9.symm
      have L9 : Hid (LSt T (fun g => H g ∨ Q g) w9 (.slice (some ⟨g8, 0, none⟩) (i + 1) c8) vW vP (its ++ [⟨⟨k, lb, ky, pr, ws, ps, fn⟩, gw, kw, gp, kp⟩]) its its) := by
        rw [hw9]
        exact (L7.out.down (below_alloc w7 _)).growL HG8.out (by rw [HIL.out, HIC.out]; exact HO8.out) (M.loc_of HL8.out) (I7.out.ch (M.Ch.of_below (X := fun _ => False) (below_alloc w7 _)) (fun _ _ e => e) (fun _ e => e))
      have B9 : Hid (Below T w2 w9) := by rw [hw9]; exact bel_grow B7.out L7.out.lt HG8.out (fun g e => M.own_ge' L7.out.oL g e)
      clear hw9 HG8 HL8 HO8 HLT
      rw [HW9.out]
      clear HW9
      have t1 : w9.cell? ⟨T, 1, none⟩ = some vW := M.cell_whole L9.out.box 1
      have OWW : Hid ((w9.alloc (.cells #[.slice (some ⟨gw, 0, none⟩) (nw + 2) kw] 31)).ownsRow (T + 1) 31 1 vW i (its.map itW)) := by have h := M.owns_alloc L9.out.oW (.cells #[.slice (some ⟨gw, 0, none⟩) (nw + 2) kw] 31); rw [HIL.out] at h; exact h
      have HLT : Hid (T < w9.heap.size) := L9.out.lt
      go_upto_region 12 with (at_builtin; (refine wpList_append_lies (w9.alloc (.cells #[.slice (some ⟨gw, 0, none⟩) (nw + 2) kw] 31)) rfl _ _ _ rfl (T + 1) 31 iT _ 1 24 Tryd.underlying40 hiT iTz iTs iTb rfl (by omega) _ i (its.map itW) (by rfl) (by exact OWW.out) ⟨w9.heap.size, 0, none⟩ 1 1 #[.slice (some ⟨gw, 0, none⟩) (nw + 2) kw].toList (by rfl) (by rfl) (fun j' u hu => World.news_of_block (cs := #[.slice (some ⟨gw, 0, none⟩) (nw + 2) kw]) (t := 31) (fr := (0, 0)) (heap_alloc_new w9 _) j' u hu) (by simp [Value.oneCell']) (by omega) (by unfold maxLen; omega) (by omega) (by have h1 := HLT.out; simp; omega) _ rfl ?_; intro g10 c10 w10 ho10 hg10 hl10 ht10; have HO10 : Hid (w10.ownsRow (T + 1) 31 1 (.slice (some ⟨g10, 0, none⟩) (i + 1) c10) (i + 1) (its.map itW ++ #[.slice (some ⟨gw, 0, none⟩) (nw + 2) kw].toList)) := ho10; have HG10 : Hid ((w9.alloc (.cells #[.slice (some ⟨gw, 0, none⟩) (nw + 2) kw] 31)).grownBy w10 (vW).ownBlock) := hg10; have HL10 : Hid ((vW).ownBlock = some g10 ∨ g10 = (w9.alloc (.cells #[.slice (some ⟨gw, 0, none⟩) (nw + 2) kw] 31)).heap.size) := hl10; clear ho10 hg10 hl10 ht10; have HKT : Hid (w10.heap[T]? = some (.cells #[(.slice (some ⟨g8, 0, none⟩) (i + 1) c8), vW, vP] 42 (0, 0))) := (HG10.out.block T (by have h1 := HLT.out; simp; omega) (fun e => by have h1 := M.own_ge' L9.out.oW T e.symm; omega)).trans (((below_alloc w9 _).block T HLT.out).trans L9.out.box); have t10 : w10.cell? ⟨T, 1, none⟩ = some (vW) := M.cell_whole HKT.out 1; have tf10 : w10.frozen? ⟨T, 1, none⟩ = false := by simp [World.frozen?, HKT.out]))
      clear t1 t10 tf10 HKT OWW
      obtain ⟨w11, hw11⟩ : ∃ w11, w11 = w10.setCell ⟨T, 1, none⟩ (.slice (some ⟨g10, 0, none⟩) (i + 1) c10) := ⟨_, rfl⟩
      have HW11 : Hid (w10.setCell ⟨T, 1, none⟩ (.slice (some ⟨g10, 0, none⟩) (i + 1) c10) = w11) := hw11.symm
      have L11 : Hid (LSt T (fun g => H g ∨ Q g) w11 (.slice (some ⟨g8, 0, none⟩) (i + 1) c8) (.slice (some ⟨g10, 0, none⟩) (i + 1) c10) vP (its ++ [⟨⟨k, lb, ky, pr, ws, ps, fn⟩, gw, kw, gp, kp⟩]) (its ++ [⟨⟨k, lb, ky, pr, ws, ps, fn⟩, gw, kw, gp, kp⟩]) its) := by
        rw [hw11]
        exact (L9.out.down (below_alloc w9 _)).growW HG10.out (by rw [HIL.out, HIW.out]; exact HO10.out) (M.loc_of HL10.out)
      have B11 : Hid (Below T w2 w11) := by rw [hw11]; exact bel_grow B9.out L9.out.lt HG10.out (fun g e => M.own_ge' L9.out.oW g e)
      clear hw11 HG10 HL10 HO10 HLT
      rw [HW11.out]
      clear HW11
      have t2 : w11.cell? ⟨T, 2, none⟩ = some vP := M.cell_whole L11.out.box 2
      have OWP : Hid ((w11.alloc (.cells #[.slice (some ⟨gp, 0, none⟩) (np + 2) kp] 31)).ownsRow (T + 1) 31 1 vP i (its.map itP)) := by have h := M.owns_alloc L11.out.oP (.cells #[.slice (some ⟨gp, 0, none⟩) (np + 2) kp] 31); rw [HIL.out] at h; exact h
      have HLT : Hid (T < w11.heap.size) := L11.out.lt
      go_upto_region 4 with (at_builtin; (refine wpList_append_lies (w11.alloc (.cells #[.slice (some ⟨gp, 0, none⟩) (np + 2) kp] 31)) rfl _ _ _ rfl (T + 1) 31 iT _ 1 24 Tryd.underlying40 hiT iTz iTs iTb rfl (by omega) _ i (its.map itP) (by rfl) (by exact OWP.out) ⟨w11.heap.size, 0, none⟩ 1 1 #[.slice (some ⟨gp, 0, none⟩) (np + 2) kp].toList (by rfl) (by rfl) (fun j' u hu => World.news_of_block (cs := #[.slice (some ⟨gp, 0, none⟩) (np + 2) kp]) (t := 31) (fr := (0, 0)) (heap_alloc_new w11 _) j' u hu) (by simp [Value.oneCell']) (by omega) (by unfold maxLen; omega) (by omega) (by have h1 := HLT.out; simp; omega) _ rfl ?_; intro g12 c12 w12 ho12 hg12 hl12 ht12; have HO12 : Hid (w12.ownsRow (T + 1) 31 1 (.slice (some ⟨g12, 0, none⟩) (i + 1) c12) (i + 1) (its.map itP ++ #[.slice (some ⟨gp, 0, none⟩) (np + 2) kp].toList)) := ho12; have HG12 : Hid ((w11.alloc (.cells #[.slice (some ⟨gp, 0, none⟩) (np + 2) kp] 31)).grownBy w12 (vP).ownBlock) := hg12; have HL12 : Hid ((vP).ownBlock = some g12 ∨ g12 = (w11.alloc (.cells #[.slice (some ⟨gp, 0, none⟩) (np + 2) kp] 31)).heap.size) := hl12; clear ho12 hg12 hl12 ht12; have HKT : Hid (w12.heap[T]? = some (.cells #[(.slice (some ⟨g8, 0, none⟩) (i + 1) c8), (.slice (some ⟨g10, 0, none⟩) (i + 1) c10), vP] 42 (0, 0))) := (HG12.out.block T (by have h1 := HLT.out; simp; omega) (fun e => by have h1 := M.own_ge' L11.out.oP T e.symm; omega)).trans (((below_alloc w11 _).block T HLT.out).trans L11.out.box); have t12 : w12.cell? ⟨T, 2, none⟩ = some (vP) := M.cell_whole HKT.out 2; have tf12 : w12.frozen? ⟨T, 2, none⟩ = false := by simp [World.frozen?, HKT.out]))
      clear t2 t12 tf12 HKT OWP
      obtain ⟨w13, hw13⟩ : ∃ w13, w13 = w12.setCell ⟨T, 2, none⟩ (.slice (some ⟨g12, 0, none⟩) (i + 1) c12) := ⟨_, rfl⟩
      have HW13 : Hid (w12.setCell ⟨T, 2, none⟩ (.slice (some ⟨g12, 0, none⟩) (i + 1) c12) = w13) := hw13.symm
      have L13 : Hid (LSt T (fun g => H g ∨ Q g) w13 (.slice (some ⟨g8, 0, none⟩) (i + 1) c8) (.slice (some ⟨g10, 0, none⟩) (i + 1) c10) (.slice (some ⟨g12, 0, none⟩) (i + 1) c12) (its ++ [⟨⟨k, lb, ky, pr, ws, ps, fn⟩, gw, kw, gp, kp⟩]) (its ++ [⟨⟨k, lb, ky, pr, ws, ps, fn⟩, gw, kw, gp, kp⟩]) (its ++ [⟨⟨k, lb, ky, pr, ws, ps, fn⟩, gw, kw, gp, kp⟩])) := by
        rw [hw13]
        exact (L11.out.down (below_alloc w11 _)).growP HG12.out (by rw [HIL.out, HIP.out]; exact HO12.out) (M.loc_of HL12.out)
      have B13 : Hid (Below T w2 w13) := by rw [hw13]; exact bel_grow B11.out L11.out.lt HG12.out (fun g e => M.own_ge' L11.out.oP g e)
      clear hw13 HG12 HL12 HO12 HLT
      rw [HW13.out]
      clear HW13
      go_wp2
      exact ⟨⟨i + 1, (its ++ [(⟨⟨k, lb, ky, pr, ws, ps, fn⟩, gw, kw, gp, kp⟩ : It)] : List It), (fun g => H g ∨ Q g), (.slice (some ⟨g8, 0, none⟩) (i + 1) c8), (.slice (some ⟨g10, 0, none⟩) (i + 1) c10), (.slice (some ⟨g12, 0, none⟩) (i + 1) c12), by omega, by go_num, HIX.out, L13.out, B13.out⟩, by simp [intOf]; omega⟩
    · have n1 : ¬ (i : Int) < (n : Int) := by omega
      have HAL : Hid (its.map (·.s) = l) := by have h := hIt.out; rw [List.take_of_length_le (by rw [HL.out]; omega)] at h; exact h
      obtain ⟨aL, cL, hvL, _, _⟩ := M.own_cell hL.out.oL
      obtain ⟨aW, cW, hvW, _, _⟩ := M.own_cell hL.out.oW
      obtain ⟨aP, cP, hvP, _, _⟩ := M.own_cell hL.out.oP
      obtain ⟨m, hm⟩ : ∃ m, its.length = m := ⟨_, rfl⟩
      rw [hm] at hvL hvW hvP
      subst hvL hvW hvP
      have hkT := hL.out.box
      have t0 : wr.cell? ⟨T, 0, none⟩ = some (.slice aL m cL) := M.cell_whole hkT 0
      have t1 : wr.cell? ⟨T, 1, none⟩ = some (.slice aW m cW) := M.cell_whole hkT 1
      have t2 : wr.cell? ⟨T, 2, none⟩ = some (.slice aP m cP) := M.cell_whole hkT 2
      have hkR := (hB.out.block R HRT.out.1).trans HKR.out
      have r0 : wr.cell? ⟨R, 0, none⟩ = some (.slice none 0 0) := M.cell_whole hkR 0
      have r1 : wr.cell? ⟨R, 1, none⟩ = some (.slice none 0 0) := M.cell_whole hkR 1
      have r2 : wr.cell? ⟨R, 2, none⟩ = some (.slice none 0 0) := M.cell_whole hkR 2
      have rf : ∀ i, wr.frozen? ⟨R, i, none⟩ = false := fun i => by simp [World.frozen?, hkR]
      obtain ⟨w9, hw9⟩ : ∃ w9, w9 = ((wr.setCell ⟨R, 0, none⟩ (.slice aL m cL)).setCell ⟨R, 1, none⟩ (.slice aW m cW)).setCell ⟨R, 2, none⟩ (.slice aP m cP) := ⟨_, rfl⟩
      have C9 : Hid (M.Ch (fun g => g = R) wr w9) := by rw [hw9]; exact ((M.ch_set wr R _ _).trans (M.ch_set _ R _ _)).trans (M.ch_set _ R _ _)
      have K9 : Hid (w9.heap[R]? = some (.cells #[.slice aL m cL, .slice aW m cW, .slice aP m cP] 42 (0, 0))) := by rw [hw9]; exact M.heap_set_same (M.heap_set_same (M.heap_set_same hkR))
      have L9 : Hid (LSt T H w9 (.slice aL m cL) (.slice aW m cW) (.slice aP m cP) its its its) := hL.out.ch C9.out fun g e => by
        have h := HRT.out.1
        subst e
        refine ⟨by omega, fun h => by have := (hL.out.held g h).1; omega, fun e => ?_, fun e => ?_, fun e => ?_⟩
        · have := M.own_ge' hL.out.oL g e; omega
        · have := M.own_ge' hL.out.oW g e; omega
        · have := M.own_ge' hL.out.oP g e; omega
      have B9 : Hid (Below w.heap.size w w9) := BW.out.trans (C9.out.below BW.out.size fun g e => by have h := HRT.out; omega)
      clear hkT hkR hIt hL hB hm
      go_wp2_with fail
      rw [← hw9]
      clear hw9
      have z0 : w9.cell? ⟨R, 0, none⟩ = some (.slice aL m cL) := M.cell_whole K9.out 0
      have z1 : w9.cell? ⟨R, 1, none⟩ = some (.slice aW m cW) := M.cell_whole K9.out 1
      have z2 : w9.cell? ⟨R, 2, none⟩ = some (.slice aP m cP) := M.cell_whole K9.out 2
      refine bodyPost_ret (by simp [results, Tryd.results12, go_sem, z0, z1, z2]; try rfl) rfl ?_
      exact ⟨_, _, _, H, its, T, rfl, L9.out, HAL.out, B9.out⟩
end Go.Proofs.YtipfhfeaalbmcaaDoor
