/- The law's own same, of statements that are the same but for places. -/
import Derived.Test.YtipfhfeaalbmcaaDoorBkAl
import Derived.Test.YtipfhfeaalbmcaaDoorSame
import Derived.Deep.RegionHeld3
import Derived.Deep.DeepCutAuto
import Derived.Deep.CutRange
namespace Go.Proofs.YtipfhfeaalbmcaaDoor
open Go.RowKit

/-- The same but for places. -/
structure Sm2 (a b : Stm) : Prop where
  alk : Alk a b
  pr : a.proving = b.proving
  ky : a.key.text = b.key.text
  fn : a.fin.text = b.fin.text
def Sm2L (a b : List Stm) : Prop := a.length = b.length ∧ ∀ (i : Nat) (x y : Stm), a[i]? = some x → b[i]? = some y → Sm2 x y
set_option maxRecDepth 100000 in
set_option maxHeartbeats 16000000 in
theorem sameF_eq (w : World) (a1 a2 : Option Addr) (n c1 c2 : Nat) (l m : List Stm) (hl : l.length = n) (hn : n ≤ 1048576) (hsm : ∀ s ∈ l, StmSm s) (h12 : Sm2L l m) (h1 : StmtsAt w a1 l) (h2 : StmtsAt w a2 m) :
    Calls Tryd.prog 15 #[.slice a1 n c1, .slice a2 n c2, .bool false] w fun e w' => e = .returned (.bool true) ∧ Below w.heap.size w w' := by
  have HL : Hid (l.length = n) := hl
  have SM : Hid _ := hsm
  have S1 : Hid (StmtsAt w a1 l) := h1
  have S2 : Hid (StmtsAt w a2 m) := h2
  have H12 : Hid (Sm2L l m) := h12
  have HDS : Hid (∀ w k lb ky fn pr aw nw cw ap np cp, Calls Tryd.prog 36 #[.agg #[.int .i64 k, .string lb.text, .int .i64 lb.off, .int .i64 lb.line, .int .i64 lb.col, .string ky.text, .int .i64 ky.off, .int .i64 ky.line, .int .i64 ky.col, .bool pr, .slice aw nw cw, .slice ap np cp, .string fn.text, .int .i64 fn.off, .int .i64 fn.line, .int .i64 fn.col]] w fun e w' => ∃ g, e = .returned (.slice (some ⟨g, 0, none⟩) 3 3) ∧ ToksAt w' (some ⟨g, 0, none⟩) [lb, ky, fn] ∧ Below w.heap.size w w') := fun w k lb ky fn pr aw nw cw ap np cp => heads_any w k lb ky fn pr aw nw cw ap np cp
  clear hl hsm h1 h2 h12
  go_enter Tryd.func15, Tryd.ntmps15
  go_wp2_with fail
  go_loopw [7] (fun i wx => ∃ j : Nat, j ≤ n ∧ i = .int .i64 j ∧ Hid (Below w.heap.size w wx)) (fun i _ => n - (intOf i).toNat)
  case atStart => exact ⟨0, Nat.zero_le _, rfl, Below.refl _ _⟩
  case round =>
    obtain ⟨j, hj, rfl, hB⟩ := hrel
    by_cases hlt : j < n
    · have n1 : (j : Int) < (n : Int) := by omega
      obtain ⟨s, hs⟩ : ∃ s, l[j]? = some s := ⟨l[j]'(by rw [HL.out]; exact hlt), List.getElem?_eq_getElem _⟩
      obtain ⟨b1, o1, aw1, cw1, ap1, cp1, hax, hc1, hT1, hP1, _, _⟩ := S1.out j s hs
      obtain ⟨s2, hs2⟩ : ∃ s2, m[j]? = some s2 := ⟨m[j]'(by rw [← H12.out.1, HL.out]; exact hlt), List.getElem?_eq_getElem _⟩
      obtain ⟨b2, o2, aw2, cw2, ap2, cp2, hay, hc2, hT2, hP2, _, _⟩ := S2.out j s2 hs2
      have h2s := H12.out.2 j s s2 hs hs2
      have sm := SM.out s (List.mem_of_getElem? hs)
      obtain ⟨k, lb1, ky1, pr, ws, ps, fn1⟩ := s
      obtain ⟨k2, lb2, ky2, pr2, ws2, ps2, fn2⟩ := s2
      obtain ⟨⟨e1, e2, e3, e4⟩, e5, e6, e7⟩ := h2s
      dsimp only at *
      subst e1 e5
      have HT3 : Hid (textsL [lb1, ky1, fn1] = textsL [lb2, ky2, fn2]) := by show _ = _; unfold textsL; simp [e2, e6, e7]
      have HTW : Hid (textsL ws = textsL ws2 ∧ textsL ps = textsL ps2) := ⟨e3, e4⟩
      obtain ⟨nw, hnw⟩ : ∃ nw, ws.length = nw := ⟨_, rfl⟩
      obtain ⟨np, hnp⟩ : ∃ np, ps.length = np := ⟨_, rfl⟩
      unfold stmC at hc1 hc2
      dsimp only at hc1 hc2
      rw [hnw, hnp] at hc1
      rw [← texts_len e3, ← texts_len e4, hnw, hnp] at hc2
      have hnwb : nw ≤ 1048576 := by rw [← hnw]; exact sm.nw
      have hnpb : np ≤ 1048576 := by rw [← hnp]; exact sm.np
      have CF : Hid (∀ wx, Below w.heap.size w wx → wx.cell? ⟨b1, o1 + j * 16, none⟩ = some (.int .i64 k) ∧ wx.cell? ⟨b1, o1 + j * 16 + 1, none⟩ = some (.string lb1.text) ∧ wx.cell? ⟨b1, o1 + j * 16 + 2, none⟩ = some (.int .i64 lb1.off) ∧ wx.cell? ⟨b1, o1 + j * 16 + 3, none⟩ = some (.int .i64 lb1.line) ∧ wx.cell? ⟨b1, o1 + j * 16 + 4, none⟩ = some (.int .i64 lb1.col) ∧ wx.cell? ⟨b1, o1 + j * 16 + 5, none⟩ = some (.string ky1.text) ∧ wx.cell? ⟨b1, o1 + j * 16 + 6, none⟩ = some (.int .i64 ky1.off) ∧ wx.cell? ⟨b1, o1 + j * 16 + 7, none⟩ = some (.int .i64 ky1.line) ∧ wx.cell? ⟨b1, o1 + j * 16 + 8, none⟩ = some (.int .i64 ky1.col) ∧ wx.cell? ⟨b1, o1 + j * 16 + 9, none⟩ = some (.bool pr) ∧ wx.cell? ⟨b1, o1 + j * 16 + 10, none⟩ = some (.slice aw1 nw cw1) ∧ wx.cell? ⟨b1, o1 + j * 16 + 11, none⟩ = some (.slice ap1 np cp1) ∧ wx.cell? ⟨b1, o1 + j * 16 + 12, none⟩ = some (.string fn1.text) ∧ wx.cell? ⟨b1, o1 + j * 16 + 13, none⟩ = some (.int .i64 fn1.off) ∧ wx.cell? ⟨b1, o1 + j * 16 + 14, none⟩ = some (.int .i64 fn1.line) ∧ wx.cell? ⟨b1, o1 + j * 16 + 15, none⟩ = some (.int .i64 fn1.col) ∧ wx.cell? ⟨b2, o2 + j * 16, none⟩ = some (.int .i64 k) ∧ wx.cell? ⟨b2, o2 + j * 16 + 1, none⟩ = some (.string lb2.text) ∧ wx.cell? ⟨b2, o2 + j * 16 + 2, none⟩ = some (.int .i64 lb2.off) ∧ wx.cell? ⟨b2, o2 + j * 16 + 3, none⟩ = some (.int .i64 lb2.line) ∧ wx.cell? ⟨b2, o2 + j * 16 + 4, none⟩ = some (.int .i64 lb2.col) ∧ wx.cell? ⟨b2, o2 + j * 16 + 5, none⟩ = some (.string ky2.text) ∧ wx.cell? ⟨b2, o2 + j * 16 + 6, none⟩ = some (.int .i64 ky2.off) ∧ wx.cell? ⟨b2, o2 + j * 16 + 7, none⟩ = some (.int .i64 ky2.line) ∧ wx.cell? ⟨b2, o2 + j * 16 + 8, none⟩ = some (.int .i64 ky2.col) ∧ wx.cell? ⟨b2, o2 + j * 16 + 9, none⟩ = some (.bool pr) ∧ wx.cell? ⟨b2, o2 + j * 16 + 10, none⟩ = some (.slice aw2 nw cw2) ∧ wx.cell? ⟨b2, o2 + j * 16 + 11, none⟩ = some (.slice ap2 np cp2) ∧ wx.cell? ⟨b2, o2 + j * 16 + 12, none⟩ = some (.string fn2.text) ∧ wx.cell? ⟨b2, o2 + j * 16 + 13, none⟩ = some (.int .i64 fn2.off) ∧ wx.cell? ⟨b2, o2 + j * 16 + 14, none⟩ = some (.int .i64 fn2.line) ∧ wx.cell? ⟨b2, o2 + j * 16 + 15, none⟩ = some (.int .i64 fn2.col)) := fun wx hx => by
        obtain ⟨x0, x1, x2, x3, x4, x5, x6, x7, x8, x9, x10, x11, x12, x13, x14, x15⟩ := cells16 (w := wx) (b := b1) (o := o1 + j * 16) (fun i u hu => (hx.cell (p := ⟨b1, _, none⟩) (World.block_lt_of_cell? _ _ (hc1 i u hu))).trans (hc1 i u hu))
        obtain ⟨y0, y1, y2, y3, y4, y5, y6, y7, y8, y9, y10, y11, y12, y13, y14, y15⟩ := cells16 (w := wx) (b := b2) (o := o2 + j * 16) (fun i u hu => (hx.cell (p := ⟨b2, _, none⟩) (World.block_lt_of_cell? _ _ (hc2 i u hu))).trans (hc2 i u hu))
        exact ⟨x0, x1, x2, x3, x4, x5, x6, x7, x8, x9, x10, x11, x12, x13, x14, x15, y0, y1, y2, y3, y4, y5, y6, y7, y8, y9, y10, y11, y12, y13, y14, y15⟩
      have CF8 : Hid (∀ wx, Below w.heap.size w wx → wx.cell? ⟨b1, o1 + j * 16 + 10, none⟩ = some (.slice aw1 nw cw1) ∧ wx.cell? ⟨b1, o1 + j * 16 + 11, none⟩ = some (.slice ap1 np cp1) ∧ wx.cell? ⟨b2, o2 + j * 16 + 10, none⟩ = some (.slice aw2 nw cw2) ∧ wx.cell? ⟨b2, o2 + j * 16 + 11, none⟩ = some (.slice ap2 np cp2)) := fun wx hx => by
        obtain ⟨_, _, _, _, _, _, _, _, _, _, x10, x11, _⟩ := cells16 (w := wx) (b := b1) (o := o1 + j * 16) (fun i u hu => (hx.cell (p := ⟨b1, _, none⟩) (World.block_lt_of_cell? _ _ (hc1 i u hu))).trans (hc1 i u hu))
        obtain ⟨_, _, _, _, _, _, _, _, _, _, y10, y11, _⟩ := cells16 (w := wx) (b := b2) (o := o2 + j * 16) (fun i u hu => (hx.cell (p := ⟨b2, _, none⟩) (World.block_lt_of_cell? _ _ (hc2 i u hu))).trans (hc2 i u hu))
        exact ⟨x10, x11, y10, y11⟩
      have TKW : Hid (∀ wx, Below w.heap.size w wx → Calls Tryd.prog 35 #[.slice aw1 nw cw1, .slice aw2 nw cw2, .bool false] wx fun e w' => e = .returned (.bool true) ∧ Below wx.heap.size wx w') := fun wx hx => tokensF_eq wx aw1 aw2 nw cw1 cw2 ws ws2 hnw (by omega) HTW.out.1 (hT1.under hx) (hT2.under hx)
      have TKP : Hid (∀ wx, Below w.heap.size w wx → Calls Tryd.prog 35 #[.slice ap1 np cp1, .slice ap2 np cp2, .bool false] wx fun e w' => e = .returned (.bool true) ∧ Below wx.heap.size wx w') := fun wx hx => tokensF_eq wx ap1 ap2 np cp1 cp2 ps ps2 hnp (by omega) HTW.out.2 (hP1.under hx) (hP2.under hx)
      subst hax hay
      clear hs hs2 sm hc1 hc2 hT1 hT2 hP1 hP2 hnw hnp e2 e3 e4 e6 e7
      go_upto_region 6 with fail
      go_cut [57] (fun v57 wx => v57 = .bool false ∧ Hid (Below w.heap.size w wx))
      case first => as_aux_lemma =>
        have HBd : Hid (Below w.heap.size w wr.drew) := below_drewN hB.out 1
        refine wp_region_held_drew (S := fun w' => w'.cell? ⟨b1, o1 + j * 16, none⟩ = some (.int .i64 k) ∧ w'.cell? ⟨b1, o1 + j * 16 + 1, none⟩ = some (.string lb1.text) ∧ w'.cell? ⟨b1, o1 + j * 16 + 2, none⟩ = some (.int .i64 lb1.off) ∧ w'.cell? ⟨b1, o1 + j * 16 + 3, none⟩ = some (.int .i64 lb1.line) ∧ w'.cell? ⟨b1, o1 + j * 16 + 4, none⟩ = some (.int .i64 lb1.col) ∧ w'.cell? ⟨b1, o1 + j * 16 + 5, none⟩ = some (.string ky1.text) ∧ w'.cell? ⟨b1, o1 + j * 16 + 6, none⟩ = some (.int .i64 ky1.off) ∧ w'.cell? ⟨b1, o1 + j * 16 + 7, none⟩ = some (.int .i64 ky1.line) ∧ w'.cell? ⟨b1, o1 + j * 16 + 8, none⟩ = some (.int .i64 ky1.col) ∧ w'.cell? ⟨b1, o1 + j * 16 + 9, none⟩ = some (.bool pr) ∧ w'.cell? ⟨b1, o1 + j * 16 + 10, none⟩ = some (.slice aw1 nw cw1) ∧ w'.cell? ⟨b1, o1 + j * 16 + 11, none⟩ = some (.slice ap1 np cp1) ∧ w'.cell? ⟨b1, o1 + j * 16 + 12, none⟩ = some (.string fn1.text) ∧ w'.cell? ⟨b1, o1 + j * 16 + 13, none⟩ = some (.int .i64 fn1.off) ∧ w'.cell? ⟨b1, o1 + j * 16 + 14, none⟩ = some (.int .i64 fn1.line) ∧ w'.cell? ⟨b1, o1 + j * 16 + 15, none⟩ = some (.int .i64 fn1.col) ∧ w'.cell? ⟨b2, o2 + j * 16, none⟩ = some (.int .i64 k) ∧ w'.cell? ⟨b2, o2 + j * 16 + 1, none⟩ = some (.string lb2.text) ∧ w'.cell? ⟨b2, o2 + j * 16 + 2, none⟩ = some (.int .i64 lb2.off) ∧ w'.cell? ⟨b2, o2 + j * 16 + 3, none⟩ = some (.int .i64 lb2.line) ∧ w'.cell? ⟨b2, o2 + j * 16 + 4, none⟩ = some (.int .i64 lb2.col) ∧ w'.cell? ⟨b2, o2 + j * 16 + 5, none⟩ = some (.string ky2.text) ∧ w'.cell? ⟨b2, o2 + j * 16 + 6, none⟩ = some (.int .i64 ky2.off) ∧ w'.cell? ⟨b2, o2 + j * 16 + 7, none⟩ = some (.int .i64 ky2.line) ∧ w'.cell? ⟨b2, o2 + j * 16 + 8, none⟩ = some (.int .i64 ky2.col) ∧ w'.cell? ⟨b2, o2 + j * 16 + 9, none⟩ = some (.bool pr) ∧ w'.cell? ⟨b2, o2 + j * 16 + 10, none⟩ = some (.slice aw2 nw cw2) ∧ w'.cell? ⟨b2, o2 + j * 16 + 11, none⟩ = some (.slice ap2 np cp2) ∧ w'.cell? ⟨b2, o2 + j * 16 + 12, none⟩ = some (.string fn2.text) ∧ w'.cell? ⟨b2, o2 + j * 16 + 13, none⟩ = some (.int .i64 fn2.off) ∧ w'.cell? ⟨b2, o2 + j * 16 + 14, none⟩ = some (.int .i64 fn2.line) ∧ w'.cell? ⟨b2, o2 + j * 16 + 15, none⟩ = some (.int .i64 fn2.col)) (by kernel_rfl) ?_ (fun hHeld => ?_)
        · exact CF.out _ HBd.out
        refine wpAnyH_take (i := 0) (oi := { dst := some 19, op := Op.move (Operand.tmp 0), type := 22, pos := "law.go:32", after := #[], guard := none }) (v := ?_) rfl (by kernel_rfl) (by kernel_rfl) (by kernel_rfl) (fun _ _ _ h => h) (Or.inl ⟨by rfl, ?_⟩) hHeld ?_
        rotate_left
        · (intro w hSw; (try dsimp only at hSw); go_simp; try with_reducible rfl)
        try simp only [Act.put, List.setIfInBounds_toArray, List.set_cons_zero, List.set_cons_succ]
        refine wpAnyH_take (i := 1) (oi := { dst := some 20, op := Op.move (Operand.tmp 7), type := 3, pos := "law.go:32", after := #[], guard := none }) (v := ?_) rfl (by kernel_rfl) (by kernel_rfl) (by kernel_rfl) (fun _ _ _ h => h) (Or.inl ⟨by rfl, ?_⟩) hHeld ?_
        rotate_left
        · (intro w hSw; (try dsimp only at hSw); go_simp; try with_reducible rfl)
        try simp only [Act.put, List.setIfInBounds_toArray, List.set_cons_zero, List.set_cons_succ]
        refine wpAnyH_take (i := 2) (oi := { dst := some 21, op := Op.indexAddr 22 (Operand.tmp 19) (Operand.tmp 20), type := 0, pos := "law.go:32", after := #[{ on := 0, ground := Ground.data }, { on := 1, ground := Ground.data }], guard := none }) (v := ?_) rfl (by kernel_rfl) (by kernel_rfl) (by kernel_rfl) (fun _ _ _ h => h) (Or.inl ⟨by rfl, ?_⟩) hHeld ?_
        rotate_left
        · (intro w hSw; (try dsimp only at hSw); go_simp; try with_reducible rfl)
        try simp only [Act.put, List.setIfInBounds_toArray, List.set_cons_zero, List.set_cons_succ]
        refine wpAnyH_take (i := 3) (oi := { dst := some 22, op := Op.fieldAddr 36 (Operand.tmp 21) 0, type := 0, pos := "law.go:32", after := #[{ on := 2, ground := Ground.data }], guard := none }) (v := ?_) rfl (by kernel_rfl) (by kernel_rfl) (by kernel_rfl) (fun _ _ _ h => h) (Or.inl ⟨by rfl, ?_⟩) hHeld ?_
        rotate_left
        · (intro w hSw; (try dsimp only at hSw); go_simp; try with_reducible rfl)
        try simp only [Act.put, List.setIfInBounds_toArray, List.set_cons_zero, List.set_cons_succ]
        refine wpAnyH_take (i := 4) (oi := { dst := some 23, op := Op.load 3 (Operand.tmp 22), type := 3, pos := "law.go:32", after := #[{ on := 3, ground := Ground.data }], guard := none }) (v := ?_) rfl (by kernel_rfl) (by kernel_rfl) (by kernel_rfl) (fun _ _ _ h => h) (Or.inl ⟨by rfl, ?_⟩) hHeld ?_
        rotate_left
        · (intro w hSw; (try dsimp only at hSw); go_simp; try with_reducible rfl)
        try simp only [Act.put, List.setIfInBounds_toArray, List.set_cons_zero, List.set_cons_succ]
        refine wpAnyH_take (i := 5) (oi := { dst := some 24, op := Op.move (Operand.tmp 1), type := 22, pos := "law.go:32", after := #[], guard := none }) (v := ?_) rfl (by kernel_rfl) (by kernel_rfl) (by kernel_rfl) (fun _ _ _ h => h) (Or.inl ⟨by rfl, ?_⟩) hHeld ?_
        rotate_left
        · (intro w hSw; (try dsimp only at hSw); go_simp; try with_reducible rfl)
        try simp only [Act.put, List.setIfInBounds_toArray, List.set_cons_zero, List.set_cons_succ]
        refine wpAnyH_take (i := 6) (oi := { dst := some 25, op := Op.move (Operand.tmp 7), type := 3, pos := "law.go:32", after := #[], guard := none }) (v := ?_) rfl (by kernel_rfl) (by kernel_rfl) (by kernel_rfl) (fun _ _ _ h => h) (Or.inl ⟨by rfl, ?_⟩) hHeld ?_
        rotate_left
        · (intro w hSw; (try dsimp only at hSw); go_simp; try with_reducible rfl)
        try simp only [Act.put, List.setIfInBounds_toArray, List.set_cons_zero, List.set_cons_succ]
        refine wpAnyH_take (i := 7) (oi := { dst := some 26, op := Op.indexAddr 22 (Operand.tmp 24) (Operand.tmp 25), type := 0, pos := "law.go:32", after := #[{ on := 5, ground := Ground.data }, { on := 6, ground := Ground.data }], guard := none }) (v := ?_) rfl (by kernel_rfl) (by kernel_rfl) (by kernel_rfl) (fun _ _ _ h => h) (Or.inl ⟨by rfl, ?_⟩) hHeld ?_
        rotate_left
        · (intro w hSw; (try dsimp only at hSw); go_simp; try with_reducible rfl)
        try simp only [Act.put, List.setIfInBounds_toArray, List.set_cons_zero, List.set_cons_succ]
        refine wpAnyH_take (i := 8) (oi := { dst := some 27, op := Op.fieldAddr 36 (Operand.tmp 26) 0, type := 0, pos := "law.go:32", after := #[{ on := 7, ground := Ground.data }], guard := none }) (v := ?_) rfl (by kernel_rfl) (by kernel_rfl) (by kernel_rfl) (fun _ _ _ h => h) (Or.inl ⟨by rfl, ?_⟩) hHeld ?_
        rotate_left
        · (intro w hSw; (try dsimp only at hSw); go_simp; try with_reducible rfl)
        try simp only [Act.put, List.setIfInBounds_toArray, List.set_cons_zero, List.set_cons_succ]
        refine wpAnyH_take (i := 9) (oi := { dst := some 28, op := Op.load 3 (Operand.tmp 27), type := 3, pos := "law.go:32", after := #[{ on := 8, ground := Ground.data }], guard := none }) (v := ?_) rfl (by kernel_rfl) (by kernel_rfl) (by kernel_rfl) (fun _ _ _ h => h) (Or.inl ⟨by rfl, ?_⟩) hHeld ?_
        rotate_left
        · (intro w hSw; (try dsimp only at hSw); go_simp; try with_reducible rfl)
        try simp only [Act.put, List.setIfInBounds_toArray, List.set_cons_zero, List.set_cons_succ]
        refine wpAnyH_take (i := 10) (oi := { dst := some 29, op := Op.binOp BinOp.neq 3 (Operand.tmp 23) (Operand.tmp 28) 3, type := 4, pos := "law.go:32", after := #[{ on := 4, ground := Ground.data }, { on := 9, ground := Ground.data }], guard := none }) (v := ?_) rfl (by kernel_rfl) (by kernel_rfl) (by kernel_rfl) (fun _ _ _ h => h) (Or.inl ⟨by rfl, ?_⟩) hHeld ?_
        rotate_left
        · (intro w hSw; (try dsimp only at hSw); go_simp; try with_reducible rfl)
        try simp only [Act.put, List.setIfInBounds_toArray, List.set_cons_zero, List.set_cons_succ]
        refine wpAnyH_take (i := 11) (oi := { dst := some 30, op := Op.move (Operand.tmp 29), type := 4, pos := "law.go:32", after := #[{ on := 10, ground := Ground.data }], guard := none }) (v := ?_) rfl (by kernel_rfl) (by kernel_rfl) (by kernel_rfl) (fun _ _ _ h => h) (Or.inl ⟨by rfl, ?_⟩) hHeld ?_
        rotate_left
        · (intro w hSw; (try dsimp only at hSw); go_simp; try with_reducible rfl)
        try simp only [Act.put, List.setIfInBounds_toArray, List.set_cons_zero, List.set_cons_succ]
        refine wpAnyH_take (i := 12) (oi := { dst := some 31, op := Op.move (Operand.tmp 0), type := 22, pos := "law.go:32", after := #[{ on := 11, ground := Ground.guard }], guard := some (11, false) }) (v := ?_) rfl (by kernel_rfl) (by kernel_rfl) (by kernel_rfl) (fun _ _ _ h => h) (Or.inl ⟨by rfl, ?_⟩) hHeld ?_
        rotate_left
        · (intro w hSw; (try dsimp only at hSw); go_simp; try with_reducible rfl)
        try simp only [Act.put, List.setIfInBounds_toArray, List.set_cons_zero, List.set_cons_succ]
        refine wpAnyH_take (i := 13) (oi := { dst := some 32, op := Op.move (Operand.tmp 7), type := 3, pos := "law.go:32", after := #[{ on := 11, ground := Ground.guard }], guard := some (11, false) }) (v := ?_) rfl (by kernel_rfl) (by kernel_rfl) (by kernel_rfl) (fun _ _ _ h => h) (Or.inl ⟨by rfl, ?_⟩) hHeld ?_
        rotate_left
        · (intro w hSw; (try dsimp only at hSw); go_simp; try with_reducible rfl)
        try simp only [Act.put, List.setIfInBounds_toArray, List.set_cons_zero, List.set_cons_succ]
        refine wpAnyH_take (i := 14) (oi := { dst := some 33, op := Op.indexAddr 22 (Operand.tmp 31) (Operand.tmp 32), type := 0, pos := "law.go:32", after := #[{ on := 12, ground := Ground.data }, { on := 13, ground := Ground.data }, { on := 11, ground := Ground.guard }], guard := some (11, false) }) (v := ?_) rfl (by kernel_rfl) (by kernel_rfl) (by kernel_rfl) (fun _ _ _ h => h) (Or.inl ⟨by rfl, ?_⟩) hHeld ?_
        rotate_left
        · (intro w hSw; (try dsimp only at hSw); go_simp; try with_reducible rfl)
        try simp only [Act.put, List.setIfInBounds_toArray, List.set_cons_zero, List.set_cons_succ]
        refine wpAnyH_take (i := 15) (oi := { dst := some 34, op := Op.fieldAddr 36 (Operand.tmp 33) 3, type := 0, pos := "law.go:32", after := #[{ on := 14, ground := Ground.data }, { on := 11, ground := Ground.guard }], guard := some (11, false) }) (v := ?_) rfl (by kernel_rfl) (by kernel_rfl) (by kernel_rfl) (fun _ _ _ h => h) (Or.inl ⟨by rfl, ?_⟩) hHeld ?_
        rotate_left
        · (intro w hSw; (try dsimp only at hSw); go_simp; try with_reducible rfl)
        try simp only [Act.put, List.setIfInBounds_toArray, List.set_cons_zero, List.set_cons_succ]
        refine wpAnyH_take (i := 16) (oi := { dst := some 35, op := Op.load 4 (Operand.tmp 34), type := 4, pos := "law.go:32", after := #[{ on := 15, ground := Ground.data }, { on := 11, ground := Ground.guard }], guard := some (11, false) }) (v := ?_) rfl (by kernel_rfl) (by kernel_rfl) (by kernel_rfl) (fun _ _ _ h => h) (Or.inl ⟨by rfl, ?_⟩) hHeld ?_
        rotate_left
        · (intro w hSw; (try dsimp only at hSw); go_simp; try with_reducible rfl)
        try simp only [Act.put, List.setIfInBounds_toArray, List.set_cons_zero, List.set_cons_succ]
        refine wpAnyH_take (i := 17) (oi := { dst := some 36, op := Op.move (Operand.tmp 1), type := 22, pos := "law.go:32", after := #[{ on := 11, ground := Ground.guard }], guard := some (11, false) }) (v := ?_) rfl (by kernel_rfl) (by kernel_rfl) (by kernel_rfl) (fun _ _ _ h => h) (Or.inl ⟨by rfl, ?_⟩) hHeld ?_
        rotate_left
        · (intro w hSw; (try dsimp only at hSw); go_simp; try with_reducible rfl)
        try simp only [Act.put, List.setIfInBounds_toArray, List.set_cons_zero, List.set_cons_succ]
        refine wpAnyH_take (i := 18) (oi := { dst := some 37, op := Op.move (Operand.tmp 7), type := 3, pos := "law.go:32", after := #[{ on := 11, ground := Ground.guard }], guard := some (11, false) }) (v := ?_) rfl (by kernel_rfl) (by kernel_rfl) (by kernel_rfl) (fun _ _ _ h => h) (Or.inl ⟨by rfl, ?_⟩) hHeld ?_
        rotate_left
        · (intro w hSw; (try dsimp only at hSw); go_simp; try with_reducible rfl)
        try simp only [Act.put, List.setIfInBounds_toArray, List.set_cons_zero, List.set_cons_succ]
        refine wpAnyH_take (i := 19) (oi := { dst := some 38, op := Op.indexAddr 22 (Operand.tmp 36) (Operand.tmp 37), type := 0, pos := "law.go:32", after := #[{ on := 17, ground := Ground.data }, { on := 18, ground := Ground.data }, { on := 11, ground := Ground.guard }], guard := some (11, false) }) (v := ?_) rfl (by kernel_rfl) (by kernel_rfl) (by kernel_rfl) (fun _ _ _ h => h) (Or.inl ⟨by rfl, ?_⟩) hHeld ?_
        rotate_left
        · (intro w hSw; (try dsimp only at hSw); go_simp; try with_reducible rfl)
        try simp only [Act.put, List.setIfInBounds_toArray, List.set_cons_zero, List.set_cons_succ]
        refine wpAnyH_take (i := 20) (oi := { dst := some 39, op := Op.fieldAddr 36 (Operand.tmp 38) 3, type := 0, pos := "law.go:32", after := #[{ on := 19, ground := Ground.data }, { on := 11, ground := Ground.guard }], guard := some (11, false) }) (v := ?_) rfl (by kernel_rfl) (by kernel_rfl) (by kernel_rfl) (fun _ _ _ h => h) (Or.inl ⟨by rfl, ?_⟩) hHeld ?_
        rotate_left
        · (intro w hSw; (try dsimp only at hSw); go_simp; try with_reducible rfl)
        try simp only [Act.put, List.setIfInBounds_toArray, List.set_cons_zero, List.set_cons_succ]
        refine wpAnyH_take (i := 21) (oi := { dst := some 40, op := Op.load 4 (Operand.tmp 39), type := 4, pos := "law.go:32", after := #[{ on := 20, ground := Ground.data }, { on := 11, ground := Ground.guard }], guard := some (11, false) }) (v := ?_) rfl (by kernel_rfl) (by kernel_rfl) (by kernel_rfl) (fun _ _ _ h => h) (Or.inl ⟨by rfl, ?_⟩) hHeld ?_
        rotate_left
        · (intro w hSw; (try dsimp only at hSw); go_simp; try with_reducible rfl)
        try simp only [Act.put, List.setIfInBounds_toArray, List.set_cons_zero, List.set_cons_succ]
        refine wpAnyH_take (i := 22) (oi := { dst := some 41, op := Op.binOp BinOp.neq 4 (Operand.tmp 35) (Operand.tmp 40) 4, type := 4, pos := "law.go:32", after := #[{ on := 16, ground := Ground.data }, { on := 21, ground := Ground.data }, { on := 11, ground := Ground.guard }], guard := some (11, false) }) (v := ?_) rfl (by kernel_rfl) (by kernel_rfl) (by kernel_rfl) (fun _ _ _ h => h) (Or.inl ⟨by rfl, ?_⟩) hHeld ?_
        rotate_left
        · (intro w hSw; (try dsimp only at hSw); go_simp; try with_reducible rfl)
        try simp only [Act.put, List.setIfInBounds_toArray, List.set_cons_zero, List.set_cons_succ]
        refine wpAnyH_take (i := 23) (oi := { dst := some 42, op := Op.pick (Operand.tmp 30) (Operand.const (Value.bool true)) (Operand.tmp 41), type := 4, pos := "law.go:32", after := #[{ on := 11, ground := Ground.data }, { on := 22, ground := Ground.data }], guard := none }) (v := ?_) rfl (by kernel_rfl) (by kernel_rfl) (by kernel_rfl) (fun _ _ _ h => h) (Or.inl ⟨by rfl, ?_⟩) hHeld ?_
        rotate_left
        · (intro w hSw; (try dsimp only at hSw); go_simp; try with_reducible rfl)
        try simp only [Act.put, List.setIfInBounds_toArray, List.set_cons_zero, List.set_cons_succ]
        refine wpAnyH_take (i := 24) (oi := { dst := some 43, op := Op.move (Operand.tmp 42), type := 4, pos := "law.go:32", after := #[{ on := 23, ground := Ground.data }, { on := 11, ground := Ground.chain }], guard := none }) (v := ?_) rfl (by kernel_rfl) (by kernel_rfl) (by kernel_rfl) (fun _ _ _ h => h) (Or.inl ⟨by rfl, ?_⟩) hHeld ?_
        rotate_left
        · (intro w hSw; (try dsimp only at hSw); go_simp; try with_reducible rfl)
        try simp only [Act.put, List.setIfInBounds_toArray, List.set_cons_zero, List.set_cons_succ]
        refine wpAnyH_take (i := 25) (oi := { dst := some 44, op := Op.move (Operand.tmp 0), type := 22, pos := "law.go:32", after := #[{ on := 24, ground := Ground.guard }], guard := some (24, false) }) (v := ?_) rfl (by kernel_rfl) (by kernel_rfl) (by kernel_rfl) (fun _ _ _ h => h) (Or.inl ⟨by rfl, ?_⟩) hHeld ?_
        rotate_left
        · (intro w hSw; (try dsimp only at hSw); go_simp; try with_reducible rfl)
        try simp only [Act.put, List.setIfInBounds_toArray, List.set_cons_zero, List.set_cons_succ]
        refine wpAnyH_take (i := 26) (oi := { dst := some 45, op := Op.move (Operand.tmp 7), type := 3, pos := "law.go:32", after := #[{ on := 24, ground := Ground.guard }], guard := some (24, false) }) (v := ?_) rfl (by kernel_rfl) (by kernel_rfl) (by kernel_rfl) (fun _ _ _ h => h) (Or.inl ⟨by rfl, ?_⟩) hHeld ?_
        rotate_left
        · (intro w hSw; (try dsimp only at hSw); go_simp; try with_reducible rfl)
        try simp only [Act.put, List.setIfInBounds_toArray, List.set_cons_zero, List.set_cons_succ]
        refine wpAnyH_take (i := 27) (oi := { dst := some 46, op := Op.indexAddr 22 (Operand.tmp 44) (Operand.tmp 45), type := 0, pos := "law.go:32", after := #[{ on := 25, ground := Ground.data }, { on := 26, ground := Ground.data }, { on := 24, ground := Ground.guard }], guard := some (24, false) }) (v := ?_) rfl (by kernel_rfl) (by kernel_rfl) (by kernel_rfl) (fun _ _ _ h => h) (Or.inl ⟨by rfl, ?_⟩) hHeld ?_
        rotate_left
        · (intro w hSw; (try dsimp only at hSw); go_simp; try with_reducible rfl)
        try simp only [Act.put, List.setIfInBounds_toArray, List.set_cons_zero, List.set_cons_succ]
        refine wpAnyH_take (i := 28) (oi := { dst := some 47, op := Op.load 36 (Operand.tmp 46), type := 36, pos := "law.go:32", after := #[{ on := 27, ground := Ground.data }, { on := 24, ground := Ground.guard }], guard := some (24, false) }) (v := ?_) rfl (by kernel_rfl) (by kernel_rfl) (by kernel_rfl) (fun _ _ _ h => h) (Or.inl ⟨by rfl, ?_⟩) hHeld ?_
        rotate_left
        · (intro w hSw; (try dsimp only at hSw); go_simp; try with_reducible rfl)
        try simp only [Act.put, List.setIfInBounds_toArray, List.set_cons_zero, List.set_cons_succ]
        refine wpAnyH_take (i := 30) (oi := { dst := some 49, op := Op.move (Operand.tmp 1), type := 22, pos := "law.go:32", after := #[{ on := 24, ground := Ground.guard }], guard := some (24, false) }) (v := ?_) rfl (by kernel_rfl) (by kernel_rfl) (by kernel_rfl) (fun _ _ _ h => h) (Or.inl ⟨by rfl, ?_⟩) hHeld ?_
        rotate_left
        · (intro w hSw; (try dsimp only at hSw); go_simp; try with_reducible rfl)
        try simp only [Act.put, List.setIfInBounds_toArray, List.set_cons_zero, List.set_cons_succ]
        refine wpAnyH_take (i := 31) (oi := { dst := some 50, op := Op.move (Operand.tmp 7), type := 3, pos := "law.go:32", after := #[{ on := 24, ground := Ground.guard }], guard := some (24, false) }) (v := ?_) rfl (by kernel_rfl) (by kernel_rfl) (by kernel_rfl) (fun _ _ _ h => h) (Or.inl ⟨by rfl, ?_⟩) hHeld ?_
        rotate_left
        · (intro w hSw; (try dsimp only at hSw); go_simp; try with_reducible rfl)
        try simp only [Act.put, List.setIfInBounds_toArray, List.set_cons_zero, List.set_cons_succ]
        refine wpAnyH_take (i := 32) (oi := { dst := some 51, op := Op.indexAddr 22 (Operand.tmp 49) (Operand.tmp 50), type := 0, pos := "law.go:32", after := #[{ on := 30, ground := Ground.data }, { on := 31, ground := Ground.data }, { on := 24, ground := Ground.guard }], guard := some (24, false) }) (v := ?_) rfl (by kernel_rfl) (by kernel_rfl) (by kernel_rfl) (fun _ _ _ h => h) (Or.inl ⟨by rfl, ?_⟩) hHeld ?_
        rotate_left
        · (intro w hSw; (try dsimp only at hSw); go_simp; try with_reducible rfl)
        try simp only [Act.put, List.setIfInBounds_toArray, List.set_cons_zero, List.set_cons_succ]
        refine wpAnyH_take (i := 33) (oi := { dst := some 52, op := Op.load 36 (Operand.tmp 51), type := 36, pos := "law.go:32", after := #[{ on := 32, ground := Ground.data }, { on := 24, ground := Ground.guard }], guard := some (24, false) }) (v := ?_) rfl (by kernel_rfl) (by kernel_rfl) (by kernel_rfl) (fun _ _ _ h => h) (Or.inl ⟨by rfl, ?_⟩) hHeld ?_
        rotate_left
        · (intro w hSw; (try dsimp only at hSw); go_simp; try with_reducible rfl)
        try simp only [Act.put, List.setIfInBounds_toArray, List.set_cons_zero, List.set_cons_succ]
        refine wpAnyH_take (i := 35) (oi := { dst := some 54, op := Op.move (Operand.tmp 2), type := 4, pos := "law.go:32", after := #[{ on := 24, ground := Ground.guard }], guard := some (24, false) }) (v := ?_) rfl (by kernel_rfl) (by kernel_rfl) (by kernel_rfl) (fun _ _ _ h => h) (Or.inl ⟨by rfl, ?_⟩) hHeld ?_
        rotate_left
        · (intro w hSw; (try dsimp only at hSw); go_simp; try with_reducible rfl)
        try simp only [Act.put, List.setIfInBounds_toArray, List.set_cons_zero, List.set_cons_succ]
        refine wpAnyH_ready (rs := [29]) (by kernel_rfl) (by simp) ?_
        refine AllReadyH.cons (o := { dst := some 48, op := Op.call { callee := Callee.value (Operand.func 36), args := #[Operand.tmp 47], argTypes := #[36] }, type := 31, pos := "law.go:32", after := #[{ on := 28, ground := Ground.data }, { on := 24, ground := Ground.chain }, { on := 24, ground := Ground.guard }], guard := some (24, false) }) rfl (fun K hK => ?_) AllReadyH.nil
        go_simp
        go_at_call 36
        refine Calls.mono (HDS.out wr.drew k lb1 ky1 fn1 pr aw1 nw cw1 ap1 np cp1) ?_
        rintro e wh1 ⟨g1, rfl, ht1, hb1⟩
        have HBh1 : Hid (Below w.heap.size w wh1) := HBd.out.trans (hb1.mono HBd.out.size)
        have TK1 : Hid (ToksAt wh1 (some ⟨g1, 0, none⟩) [lb1, ky1, fn1]) := ht1
        clear ht1 hb1
        try go_wp2_with fail
        refine hK.out _ _ ?_ (fun hHeld_29 => ?_)
        · exact CF.out _ HBh1.out
        clear hK K
        try simp only [Act.put, List.setIfInBounds_toArray, List.set_cons_zero, List.set_cons_succ]
        refine wpAnyH_ready (rs := [34]) (by kernel_rfl) (by simp) ?_
        refine AllReadyH.cons (o := { dst := some 53, op := Op.call { callee := Callee.value (Operand.func 36), args := #[Operand.tmp 52], argTypes := #[36] }, type := 31, pos := "law.go:32", after := #[{ on := 33, ground := Ground.data }, { on := 29, ground := Ground.chain }, { on := 24, ground := Ground.guard }], guard := some (24, false) }) rfl (fun K hK => ?_) AllReadyH.nil
        go_simp
        go_at_call 36
        refine Calls.mono (HDS.out wh1 k lb2 ky2 fn2 pr aw2 nw cw2 ap2 np cp2) ?_
        rintro e wh2 ⟨g2, rfl, ht2, hb2⟩
        have HBh2 : Hid (Below w.heap.size w wh2) := HBh1.out.trans (hb2.mono HBh1.out.size)
        have TK2 : Hid (ToksAt wh2 (some ⟨g2, 0, none⟩) [lb2, ky2, fn2]) := ht2
        have TK1b : Hid (ToksAt wh2 (some ⟨g1, 0, none⟩) [lb1, ky1, fn1]) := TK1.out.under hb2
        clear ht2 hb2
        try go_wp2_with fail
        refine hK.out _ _ ?_ (fun hHeld_34 => ?_)
        · exact CF.out _ HBh2.out
        clear hK K
        try simp only [Act.put, List.setIfInBounds_toArray, List.set_cons_zero, List.set_cons_succ]
        refine wpAnyH_ready (rs := [36]) (by kernel_rfl) (by simp) ?_
        refine AllReadyH.cons (o := { dst := some 55, op := Op.call { callee := Callee.value (Operand.func 35), args := #[Operand.tmp 48, Operand.tmp 53, Operand.tmp 54], argTypes := #[31, 31, 4] }, type := 4, pos := "law.go:32", after := #[{ on := 29, ground := Ground.data }, { on := 34, ground := Ground.data }, { on := 35, ground := Ground.data }, { on := 34, ground := Ground.chain }, { on := 24, ground := Ground.guard }], guard := some (24, false) }) rfl (fun K hK => ?_) AllReadyH.nil
        go_simp
        go_at_call 35
        refine Calls.mono (tokensF_eq wh2 (some ⟨g1, 0, none⟩) (some ⟨g2, 0, none⟩) 3 3 3 [lb1, ky1, fn1] [lb2, ky2, fn2] rfl (by omega) HT3.out TK1b.out TK2.out) ?_
        rintro e wt ⟨rfl, hbt⟩
        have HBt : Hid (Below w.heap.size w wt) := HBh2.out.trans (hbt.mono HBh2.out.size)
        clear hbt
        try go_wp2_with fail
        refine hK.out _ _ ?_ (fun hHeld_36 => ?_)
        · exact CF.out _ HBt.out
        clear hK K
        try simp only [Act.put, List.setIfInBounds_toArray, List.set_cons_zero, List.set_cons_succ]
        refine wpAnyH_take (i := 37) (oi := { dst := some 56, op := Op.unOp UnOp.not 4 (Operand.tmp 55), type := 4, pos := "law.go:32", after := #[{ on := 36, ground := Ground.data }, { on := 24, ground := Ground.guard }], guard := some (24, false) }) (v := ?_) rfl (by kernel_rfl) (by kernel_rfl) (by kernel_rfl) (fun _ _ _ h => h) (Or.inl ⟨by rfl, ?_⟩) hHeld_36 ?_
        rotate_left
        · (intro w hSw; (try dsimp only at hSw); go_simp; try with_reducible rfl)
        try simp only [Act.put, List.setIfInBounds_toArray, List.set_cons_zero, List.set_cons_succ]
        refine wpAnyH_take (i := 38) (oi := { dst := some 57, op := Op.pick (Operand.tmp 43) (Operand.const (Value.bool true)) (Operand.tmp 56), type := 4, pos := "law.go:32", after := #[{ on := 24, ground := Ground.data }, { on := 37, ground := Ground.data }], guard := none }) (v := ?_) rfl (by kernel_rfl) (by kernel_rfl) (by kernel_rfl) (fun _ _ _ h => h) (Or.inl ⟨by rfl, ?_⟩) hHeld_36 ?_
        rotate_left
        · (intro w hSw; (try dsimp only at hSw); go_simp; try with_reducible rfl)
        try simp only [Act.put, List.setIfInBounds_toArray, List.set_cons_zero, List.set_cons_succ]
        refine wpAnyH_done (by kernel_rfl) ?_ _
        go_wp2_with fail
        go_meet
        exact ⟨by first | rfl | simp, HBt.out⟩
      case rest =>
        obtain ⟨rfl, hB3⟩ := hcut
        obtain ⟨w3, hw3⟩ : ∃ w3, w3 = wc := ⟨_, rfl⟩
        subst hw3
        clear CF hB
        go_upto_region 8 with fail
        go_cut [85] (fun v85 wx => v85 = .bool false ∧ Hid (Below w.heap.size w wx))
        case first => as_aux_lemma =>
          have HBd : Hid (Below w.heap.size w w3.drew) := below_drewN hB3.out 1
          refine wp_region_held_drew (S := fun w' => w'.cell? ⟨b1, o1 + j * 16 + 10, none⟩ = some (.slice aw1 nw cw1) ∧ w'.cell? ⟨b1, o1 + j * 16 + 11, none⟩ = some (.slice ap1 np cp1) ∧ w'.cell? ⟨b2, o2 + j * 16 + 10, none⟩ = some (.slice aw2 nw cw2) ∧ w'.cell? ⟨b2, o2 + j * 16 + 11, none⟩ = some (.slice ap2 np cp2)) (by kernel_rfl) ?_ (fun hHeld => ?_)
          · exact CF8.out _ HBd.out
          refine wpAnyH_take (i := 0) (oi := { dst := some 58, op := Op.move (Operand.tmp 0), type := 22, pos := "law.go:35", after := #[], guard := none }) (v := ?_) rfl (by kernel_rfl) (by kernel_rfl) (by kernel_rfl) (fun _ _ _ h => h) (Or.inl ⟨by rfl, ?_⟩) hHeld ?_
          rotate_left
          · (intro w hSw; (try dsimp only at hSw); go_simp; try with_reducible rfl)
          try simp only [Act.put, List.setIfInBounds_toArray, List.set_cons_zero, List.set_cons_succ]
          refine wpAnyH_take (i := 1) (oi := { dst := some 59, op := Op.move (Operand.tmp 7), type := 3, pos := "law.go:35", after := #[], guard := none }) (v := ?_) rfl (by kernel_rfl) (by kernel_rfl) (by kernel_rfl) (fun _ _ _ h => h) (Or.inl ⟨by rfl, ?_⟩) hHeld ?_
          rotate_left
          · (intro w hSw; (try dsimp only at hSw); go_simp; try with_reducible rfl)
          try simp only [Act.put, List.setIfInBounds_toArray, List.set_cons_zero, List.set_cons_succ]
          refine wpAnyH_take (i := 2) (oi := { dst := some 60, op := Op.indexAddr 22 (Operand.tmp 58) (Operand.tmp 59), type := 0, pos := "law.go:35", after := #[{ on := 0, ground := Ground.data }, { on := 1, ground := Ground.data }], guard := none }) (v := ?_) rfl (by kernel_rfl) (by kernel_rfl) (by kernel_rfl) (fun _ _ _ h => h) (Or.inl ⟨by rfl, ?_⟩) hHeld ?_
          rotate_left
          · (intro w hSw; (try dsimp only at hSw); go_simp; try with_reducible rfl)
          try simp only [Act.put, List.setIfInBounds_toArray, List.set_cons_zero, List.set_cons_succ]
          refine wpAnyH_take (i := 3) (oi := { dst := some 61, op := Op.fieldAddr 36 (Operand.tmp 60) 4, type := 0, pos := "law.go:35", after := #[{ on := 2, ground := Ground.data }], guard := none }) (v := ?_) rfl (by kernel_rfl) (by kernel_rfl) (by kernel_rfl) (fun _ _ _ h => h) (Or.inl ⟨by rfl, ?_⟩) hHeld ?_
          rotate_left
          · (intro w hSw; (try dsimp only at hSw); go_simp; try with_reducible rfl)
          try simp only [Act.put, List.setIfInBounds_toArray, List.set_cons_zero, List.set_cons_succ]
          refine wpAnyH_take (i := 4) (oi := { dst := some 62, op := Op.load 31 (Operand.tmp 61), type := 31, pos := "law.go:35", after := #[{ on := 3, ground := Ground.data }], guard := none }) (v := ?_) rfl (by kernel_rfl) (by kernel_rfl) (by kernel_rfl) (fun _ _ _ h => h) (Or.inl ⟨by rfl, ?_⟩) hHeld ?_
          rotate_left
          · (intro w hSw; (try dsimp only at hSw); go_simp; try with_reducible rfl)
          try simp only [Act.put, List.setIfInBounds_toArray, List.set_cons_zero, List.set_cons_succ]
          refine wpAnyH_take (i := 5) (oi := { dst := some 63, op := Op.move (Operand.tmp 1), type := 22, pos := "law.go:35", after := #[], guard := none }) (v := ?_) rfl (by kernel_rfl) (by kernel_rfl) (by kernel_rfl) (fun _ _ _ h => h) (Or.inl ⟨by rfl, ?_⟩) hHeld ?_
          rotate_left
          · (intro w hSw; (try dsimp only at hSw); go_simp; try with_reducible rfl)
          try simp only [Act.put, List.setIfInBounds_toArray, List.set_cons_zero, List.set_cons_succ]
          refine wpAnyH_take (i := 6) (oi := { dst := some 64, op := Op.move (Operand.tmp 7), type := 3, pos := "law.go:35", after := #[], guard := none }) (v := ?_) rfl (by kernel_rfl) (by kernel_rfl) (by kernel_rfl) (fun _ _ _ h => h) (Or.inl ⟨by rfl, ?_⟩) hHeld ?_
          rotate_left
          · (intro w hSw; (try dsimp only at hSw); go_simp; try with_reducible rfl)
          try simp only [Act.put, List.setIfInBounds_toArray, List.set_cons_zero, List.set_cons_succ]
          refine wpAnyH_take (i := 7) (oi := { dst := some 65, op := Op.indexAddr 22 (Operand.tmp 63) (Operand.tmp 64), type := 0, pos := "law.go:35", after := #[{ on := 5, ground := Ground.data }, { on := 6, ground := Ground.data }], guard := none }) (v := ?_) rfl (by kernel_rfl) (by kernel_rfl) (by kernel_rfl) (fun _ _ _ h => h) (Or.inl ⟨by rfl, ?_⟩) hHeld ?_
          rotate_left
          · (intro w hSw; (try dsimp only at hSw); go_simp; try with_reducible rfl)
          try simp only [Act.put, List.setIfInBounds_toArray, List.set_cons_zero, List.set_cons_succ]
          refine wpAnyH_take (i := 8) (oi := { dst := some 66, op := Op.fieldAddr 36 (Operand.tmp 65) 4, type := 0, pos := "law.go:35", after := #[{ on := 7, ground := Ground.data }], guard := none }) (v := ?_) rfl (by kernel_rfl) (by kernel_rfl) (by kernel_rfl) (fun _ _ _ h => h) (Or.inl ⟨by rfl, ?_⟩) hHeld ?_
          rotate_left
          · (intro w hSw; (try dsimp only at hSw); go_simp; try with_reducible rfl)
          try simp only [Act.put, List.setIfInBounds_toArray, List.set_cons_zero, List.set_cons_succ]
          refine wpAnyH_take (i := 9) (oi := { dst := some 67, op := Op.load 31 (Operand.tmp 66), type := 31, pos := "law.go:35", after := #[{ on := 8, ground := Ground.data }], guard := none }) (v := ?_) rfl (by kernel_rfl) (by kernel_rfl) (by kernel_rfl) (fun _ _ _ h => h) (Or.inl ⟨by rfl, ?_⟩) hHeld ?_
          rotate_left
          · (intro w hSw; (try dsimp only at hSw); go_simp; try with_reducible rfl)
          try simp only [Act.put, List.setIfInBounds_toArray, List.set_cons_zero, List.set_cons_succ]
          refine wpAnyH_take (i := 10) (oi := { dst := some 68, op := Op.move (Operand.tmp 2), type := 4, pos := "law.go:35", after := #[], guard := none }) (v := ?_) rfl (by kernel_rfl) (by kernel_rfl) (by kernel_rfl) (fun _ _ _ h => h) (Or.inl ⟨by rfl, ?_⟩) hHeld ?_
          rotate_left
          · (intro w hSw; (try dsimp only at hSw); go_simp; try with_reducible rfl)
          try simp only [Act.put, List.setIfInBounds_toArray, List.set_cons_zero, List.set_cons_succ]
          refine wpAnyH_ready (rs := [11]) (by kernel_rfl) (by simp) ?_
          refine AllReadyH.cons (o := { dst := some 69, op := Op.call { callee := Callee.value (Operand.func 35), args := #[Operand.tmp 62, Operand.tmp 67, Operand.tmp 68], argTypes := #[31, 31, 4] }, type := 4, pos := "law.go:35", after := #[{ on := 4, ground := Ground.data }, { on := 9, ground := Ground.data }, { on := 10, ground := Ground.data }], guard := none }) rfl (fun K hK => ?_) AllReadyH.nil
          go_simp
          go_at_call 35
          refine Calls.mono (TKW.out _ HBd.out) ?_
          rintro e wt ⟨rfl, hbt⟩
          have HBt : Hid (Below w.heap.size w wt) := HBd.out.trans (hbt.mono HBd.out.size)
          clear hbt
          try go_wp2_with fail
          refine hK.out _ _ ?_ (fun hHeld_11 => ?_)
          · exact CF8.out _ HBt.out
          clear hK K
          try simp only [Act.put, List.setIfInBounds_toArray, List.set_cons_zero, List.set_cons_succ]
          refine wpAnyH_take (i := 12) (oi := { dst := some 70, op := Op.unOp UnOp.not 4 (Operand.tmp 69), type := 4, pos := "law.go:35", after := #[{ on := 11, ground := Ground.data }], guard := none }) (v := ?_) rfl (by kernel_rfl) (by kernel_rfl) (by kernel_rfl) (fun _ _ _ h => h) (Or.inl ⟨by rfl, ?_⟩) hHeld_11 ?_
          rotate_left
          · (intro w hSw; (try dsimp only at hSw); go_simp; try with_reducible rfl)
          try simp only [Act.put, List.setIfInBounds_toArray, List.set_cons_zero, List.set_cons_succ]
          refine wpAnyH_take (i := 13) (oi := { dst := some 71, op := Op.move (Operand.tmp 70), type := 4, pos := "law.go:35", after := #[{ on := 12, ground := Ground.data }, { on := 11, ground := Ground.chain }], guard := none }) (v := ?_) rfl (by kernel_rfl) (by kernel_rfl) (by kernel_rfl) (fun _ _ _ h => h) (Or.inl ⟨by rfl, ?_⟩) hHeld_11 ?_
          rotate_left
          · (intro w hSw; (try dsimp only at hSw); go_simp; try with_reducible rfl)
          try simp only [Act.put, List.setIfInBounds_toArray, List.set_cons_zero, List.set_cons_succ]
          refine wpAnyH_take (i := 14) (oi := { dst := some 72, op := Op.move (Operand.tmp 0), type := 22, pos := "law.go:35", after := #[{ on := 13, ground := Ground.guard }], guard := some (13, false) }) (v := ?_) rfl (by kernel_rfl) (by kernel_rfl) (by kernel_rfl) (fun _ _ _ h => h) (Or.inl ⟨by rfl, ?_⟩) hHeld_11 ?_
          rotate_left
          · (intro w hSw; (try dsimp only at hSw); go_simp; try with_reducible rfl)
          try simp only [Act.put, List.setIfInBounds_toArray, List.set_cons_zero, List.set_cons_succ]
          refine wpAnyH_take (i := 15) (oi := { dst := some 73, op := Op.move (Operand.tmp 7), type := 3, pos := "law.go:35", after := #[{ on := 13, ground := Ground.guard }], guard := some (13, false) }) (v := ?_) rfl (by kernel_rfl) (by kernel_rfl) (by kernel_rfl) (fun _ _ _ h => h) (Or.inl ⟨by rfl, ?_⟩) hHeld_11 ?_
          rotate_left
          · (intro w hSw; (try dsimp only at hSw); go_simp; try with_reducible rfl)
          try simp only [Act.put, List.setIfInBounds_toArray, List.set_cons_zero, List.set_cons_succ]
          refine wpAnyH_take (i := 16) (oi := { dst := some 74, op := Op.indexAddr 22 (Operand.tmp 72) (Operand.tmp 73), type := 0, pos := "law.go:35", after := #[{ on := 14, ground := Ground.data }, { on := 15, ground := Ground.data }, { on := 13, ground := Ground.guard }], guard := some (13, false) }) (v := ?_) rfl (by kernel_rfl) (by kernel_rfl) (by kernel_rfl) (fun _ _ _ h => h) (Or.inl ⟨by rfl, ?_⟩) hHeld_11 ?_
          rotate_left
          · (intro w hSw; (try dsimp only at hSw); go_simp; try with_reducible rfl)
          try simp only [Act.put, List.setIfInBounds_toArray, List.set_cons_zero, List.set_cons_succ]
          refine wpAnyH_take (i := 17) (oi := { dst := some 75, op := Op.fieldAddr 36 (Operand.tmp 74) 5, type := 0, pos := "law.go:35", after := #[{ on := 16, ground := Ground.data }, { on := 13, ground := Ground.guard }], guard := some (13, false) }) (v := ?_) rfl (by kernel_rfl) (by kernel_rfl) (by kernel_rfl) (fun _ _ _ h => h) (Or.inl ⟨by rfl, ?_⟩) hHeld_11 ?_
          rotate_left
          · (intro w hSw; (try dsimp only at hSw); go_simp; try with_reducible rfl)
          try simp only [Act.put, List.setIfInBounds_toArray, List.set_cons_zero, List.set_cons_succ]
          refine wpAnyH_take (i := 18) (oi := { dst := some 76, op := Op.load 31 (Operand.tmp 75), type := 31, pos := "law.go:35", after := #[{ on := 17, ground := Ground.data }, { on := 13, ground := Ground.guard }], guard := some (13, false) }) (v := ?_) rfl (by kernel_rfl) (by kernel_rfl) (by kernel_rfl) (fun _ _ _ h => h) (Or.inl ⟨by rfl, ?_⟩) hHeld_11 ?_
          rotate_left
          · (intro w hSw; (try dsimp only at hSw); go_simp; try with_reducible rfl)
          try simp only [Act.put, List.setIfInBounds_toArray, List.set_cons_zero, List.set_cons_succ]
          refine wpAnyH_take (i := 19) (oi := { dst := some 77, op := Op.move (Operand.tmp 1), type := 22, pos := "law.go:35", after := #[{ on := 13, ground := Ground.guard }], guard := some (13, false) }) (v := ?_) rfl (by kernel_rfl) (by kernel_rfl) (by kernel_rfl) (fun _ _ _ h => h) (Or.inl ⟨by rfl, ?_⟩) hHeld_11 ?_
          rotate_left
          · (intro w hSw; (try dsimp only at hSw); go_simp; try with_reducible rfl)
          try simp only [Act.put, List.setIfInBounds_toArray, List.set_cons_zero, List.set_cons_succ]
          refine wpAnyH_take (i := 20) (oi := { dst := some 78, op := Op.move (Operand.tmp 7), type := 3, pos := "law.go:35", after := #[{ on := 13, ground := Ground.guard }], guard := some (13, false) }) (v := ?_) rfl (by kernel_rfl) (by kernel_rfl) (by kernel_rfl) (fun _ _ _ h => h) (Or.inl ⟨by rfl, ?_⟩) hHeld_11 ?_
          rotate_left
          · (intro w hSw; (try dsimp only at hSw); go_simp; try with_reducible rfl)
          try simp only [Act.put, List.setIfInBounds_toArray, List.set_cons_zero, List.set_cons_succ]
          refine wpAnyH_take (i := 21) (oi := { dst := some 79, op := Op.indexAddr 22 (Operand.tmp 77) (Operand.tmp 78), type := 0, pos := "law.go:35", after := #[{ on := 19, ground := Ground.data }, { on := 20, ground := Ground.data }, { on := 13, ground := Ground.guard }], guard := some (13, false) }) (v := ?_) rfl (by kernel_rfl) (by kernel_rfl) (by kernel_rfl) (fun _ _ _ h => h) (Or.inl ⟨by rfl, ?_⟩) hHeld_11 ?_
          rotate_left
          · (intro w hSw; (try dsimp only at hSw); go_simp; try with_reducible rfl)
          try simp only [Act.put, List.setIfInBounds_toArray, List.set_cons_zero, List.set_cons_succ]
          refine wpAnyH_take (i := 22) (oi := { dst := some 80, op := Op.fieldAddr 36 (Operand.tmp 79) 5, type := 0, pos := "law.go:35", after := #[{ on := 21, ground := Ground.data }, { on := 13, ground := Ground.guard }], guard := some (13, false) }) (v := ?_) rfl (by kernel_rfl) (by kernel_rfl) (by kernel_rfl) (fun _ _ _ h => h) (Or.inl ⟨by rfl, ?_⟩) hHeld_11 ?_
          rotate_left
          · (intro w hSw; (try dsimp only at hSw); go_simp; try with_reducible rfl)
          try simp only [Act.put, List.setIfInBounds_toArray, List.set_cons_zero, List.set_cons_succ]
          refine wpAnyH_take (i := 23) (oi := { dst := some 81, op := Op.load 31 (Operand.tmp 80), type := 31, pos := "law.go:35", after := #[{ on := 22, ground := Ground.data }, { on := 13, ground := Ground.guard }], guard := some (13, false) }) (v := ?_) rfl (by kernel_rfl) (by kernel_rfl) (by kernel_rfl) (fun _ _ _ h => h) (Or.inl ⟨by rfl, ?_⟩) hHeld_11 ?_
          rotate_left
          · (intro w hSw; (try dsimp only at hSw); go_simp; try with_reducible rfl)
          try simp only [Act.put, List.setIfInBounds_toArray, List.set_cons_zero, List.set_cons_succ]
          refine wpAnyH_take (i := 24) (oi := { dst := some 82, op := Op.move (Operand.tmp 2), type := 4, pos := "law.go:35", after := #[{ on := 13, ground := Ground.guard }], guard := some (13, false) }) (v := ?_) rfl (by kernel_rfl) (by kernel_rfl) (by kernel_rfl) (fun _ _ _ h => h) (Or.inl ⟨by rfl, ?_⟩) hHeld_11 ?_
          rotate_left
          · (intro w hSw; (try dsimp only at hSw); go_simp; try with_reducible rfl)
          try simp only [Act.put, List.setIfInBounds_toArray, List.set_cons_zero, List.set_cons_succ]
          refine wpAnyH_ready (rs := [25]) (by kernel_rfl) (by simp) ?_
          refine AllReadyH.cons (o := { dst := some 83, op := Op.call { callee := Callee.value (Operand.func 35), args := #[Operand.tmp 76, Operand.tmp 81, Operand.tmp 82], argTypes := #[31, 31, 4] }, type := 4, pos := "law.go:35", after := #[{ on := 18, ground := Ground.data }, { on := 23, ground := Ground.data }, { on := 24, ground := Ground.data }, { on := 13, ground := Ground.chain }, { on := 13, ground := Ground.guard }], guard := some (13, false) }) rfl (fun K hK => ?_) AllReadyH.nil
          go_simp
          go_at_call 35
          refine Calls.mono (TKP.out _ HBt.out) ?_
          rintro e wu ⟨rfl, hbu⟩
          have HBu : Hid (Below w.heap.size w wu) := HBt.out.trans (hbu.mono HBt.out.size)
          clear hbu
          try go_wp2_with fail
          refine hK.out _ _ ?_ (fun hHeld_25 => ?_)
          · exact CF8.out _ HBu.out
          clear hK K
          try simp only [Act.put, List.setIfInBounds_toArray, List.set_cons_zero, List.set_cons_succ]
          refine wpAnyH_take (i := 26) (oi := { dst := some 84, op := Op.unOp UnOp.not 4 (Operand.tmp 83), type := 4, pos := "law.go:35", after := #[{ on := 25, ground := Ground.data }, { on := 13, ground := Ground.guard }], guard := some (13, false) }) (v := ?_) rfl (by kernel_rfl) (by kernel_rfl) (by kernel_rfl) (fun _ _ _ h => h) (Or.inl ⟨by rfl, ?_⟩) hHeld_25 ?_
          rotate_left
          · (intro w hSw; (try dsimp only at hSw); go_simp; try with_reducible rfl)
          try simp only [Act.put, List.setIfInBounds_toArray, List.set_cons_zero, List.set_cons_succ]
          refine wpAnyH_take (i := 27) (oi := { dst := some 85, op := Op.pick (Operand.tmp 71) (Operand.const (Value.bool true)) (Operand.tmp 84), type := 4, pos := "law.go:35", after := #[{ on := 13, ground := Ground.data }, { on := 26, ground := Ground.data }], guard := none }) (v := ?_) rfl (by kernel_rfl) (by kernel_rfl) (by kernel_rfl) (fun _ _ _ h => h) (Or.inl ⟨by rfl, ?_⟩) hHeld_25 ?_
          rotate_left
          · (intro w hSw; (try dsimp only at hSw); go_simp; try with_reducible rfl)
          try simp only [Act.put, List.setIfInBounds_toArray, List.set_cons_zero, List.set_cons_succ]
          refine wpAnyH_done (by kernel_rfl) ?_ _
          go_wp2_with fail
          go_meet
          exact ⟨by first | rfl | simp, HBu.out⟩
        case rest =>
          obtain ⟨rfl, hB5⟩ := hcut
          go_wp2
          exact ⟨⟨j + 1, by omega, by go_num, hB5.out⟩, by simp [intOf]; omega⟩
    · have n1 : ¬ (j : Int) < (n : Int) := by omega
      go_wp2
      go_ret
      exact ⟨rfl, hB.out⟩
end Go.Proofs.YtipfhfeaalbmcaaDoor
