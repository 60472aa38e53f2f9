/- The law's own heads and same, of statements that are the same. -/
import Derived.Test.YtipfhfeaalbmcaaDoorPrint
import Derived.Deep.RegionHeld3
import Derived.Deep.DeepCutAuto
import Derived.Deep.CutRange
namespace Go.Proofs.YtipfhfeaalbmcaaDoor
open Go.RowKit

theorem toks_new (w : World) (ts : List Tok) : ToksAt (w.alloc (.cells (rowT ts).toArray 34)) (some ⟨w.heap.size, 0, none⟩) ts := fun i t hi => by
  have hk := heap_alloc_new w (.cells (rowT ts).toArray 34)
  have c : ∀ j, j < 4 → (w.alloc (.cells (rowT ts).toArray 34)).cell? ⟨w.heap.size, 0 + i * 4 + j, none⟩ = (tokCells t)[j]? := fun j hj => by
    rw [M.cell_whole hk, Nat.zero_add]
    simp only [List.getElem?_toArray]
    exact rowT_at ts i j t hi hj
  exact ⟨_, 0, rfl, c 0 (by omega), c 1 (by omega), c 2 (by omega), c 3 (by omega)⟩
set_option maxRecDepth 100000 in
set_option maxHeartbeats 8000000 in
theorem heads_any (w : World) (k : Int) (lb ky fn : Tok) (pr : Bool) (aw : Option Addr) (nw cw : Nat) (ap : Option Addr) (np cp : Nat) :
    Calls Tryd.prog 36 #[.agg #[.int .i64 k, .string lb.text, .int .i64 lb.off, .int .i64 lb.line, .int .i64 lb.col, .string ky.text, .int .i64 ky.off, .int .i64 ky.line, .int .i64 ky.col, .bool pr, .slice aw nw cw, .slice ap np cp, .string fn.text, .int .i64 fn.off, .int .i64 fn.line, .int .i64 fn.col]] w fun e w' => ∃ g, e = .returned (.slice (some ⟨g, 0, none⟩) 3 3) ∧ ToksAt w' (some ⟨g, 0, none⟩) [lb, ky, fn] ∧ Below w.heap.size w w' := by
  obtain ⟨w1, hw1⟩ : ∃ w1, w1 = w.alloc (.cells (stmA k lb ky fn pr (.slice aw nw cw) (.slice ap np cp)) 36) := ⟨_, rfl⟩
  have b1 : Below w.heap.size w w1 := by rw [hw1]; exact below_alloc _ _
  have hk1 : w1.heap[w.heap.size]? = some (.cells (stmA k lb ky fn pr (.slice aw nw cw) (.slice ap np cp)) 36 (0, 0)) := by rw [hw1]; exact heap_alloc_new w _
  obtain ⟨D, hD⟩ : ∃ D, w.heap.size = D := ⟨_, rfl⟩
  rw [hD] at hk1
  obtain ⟨d0, d1, d2, d3, d4, d5, d6, d7, d8, d9, d10, d11, d12, d13, d14, d15⟩ := cells16 (w := w1) (b := D) (o := 0) (fun j u hu => by rw [Nat.zero_add, M.cell_whole hk1 j]; exact hu)
  simp only [Nat.zero_add] at d1 d2 d3 d4 d5 d6 d7 d8 d12 d13 d14 d15
  have HW1 : Hid (w.alloc (.cells #[.int .i64 k, .string lb.text, .int .i64 lb.off, .int .i64 lb.line, .int .i64 lb.col, .string ky.text, .int .i64 ky.off, .int .i64 ky.line, .int .i64 ky.col, .bool pr, .slice aw nw cw, .slice ap np cp, .string fn.text, .int .i64 fn.off, .int .i64 fn.line, .int .i64 fn.col] 36) = w1) := hw1.symm
  have HB : Hid (Below w.heap.size w w1) := b1
  have HD : Hid (w.heap.size = D) := hD
  clear hw1 b1 hk1 hD d0 d9 d10 d11
  go_enter Tryd.func36, Tryd.ntmps36
  go_upto_region 1 with fail
  rw [HW1.out, HD.out]
  clear HW1 HD
  go_wp2
  go_ret
  exact ⟨_, rfl, toks_new w1 [lb, ky, fn], HB.out.alloc HB.out.size _⟩

set_option maxRecDepth 100000 in
set_option maxHeartbeats 16000000 in
theorem same_eq (w : World) (a1 a2 : Option Addr) (n c1 c2 : Nat) (l : List Stm) (hl : l.length = n) (hn : n ≤ 1048576) (hsm : ∀ s ∈ l, StmSm s) (h1 : StmtsAt w a1 l) (h2 : StmtsAt w a2 l) :
    Calls Tryd.prog 15 #[.slice a1 n c1, .slice a2 n c2, .bool true] w fun e w' => e = .returned (.bool true) ∧ Below w.heap.size w w' := by
  have HL : Hid (l.length = n) := hl
  have SM : Hid _ := hsm
  have S1 : Hid (StmtsAt w a1 l) := h1
  have S2 : Hid (StmtsAt w a2 l) := h2
  have HDS : Hid (∀ w k lb ky fn pr aw nw cw ap np cp, Calls Tryd.prog 36 #[.agg #[.int .i64 k, .string lb.text, .int .i64 lb.off, .int .i64 lb.line, .int .i64 lb.col, .string ky.text, .int .i64 ky.off, .int .i64 ky.line, .int .i64 ky.col, .bool pr, .slice aw nw cw, .slice ap np cp, .string fn.text, .int .i64 fn.off, .int .i64 fn.line, .int .i64 fn.col]] w fun e w' => ∃ g, e = .returned (.slice (some ⟨g, 0, none⟩) 3 3) ∧ ToksAt w' (some ⟨g, 0, none⟩) [lb, ky, fn] ∧ Below w.heap.size w w') := fun w k lb ky fn pr aw nw cw ap np cp => heads_any w k lb ky fn pr aw nw cw ap np cp
  clear hl hsm h1 h2
  go_enter Tryd.func15, Tryd.ntmps15
  go_wp2_with fail
  go_loopw [7] (fun i wx => ∃ j : Nat, j ≤ n ∧ i = .int .i64 j ∧ Hid (Below w.heap.size w wx)) (fun i _ => n - (intOf i).toNat)
  case atStart => exact ⟨0, Nat.zero_le _, rfl, Below.refl _ _⟩
  case round =>
    obtain ⟨j, hj, rfl, hB⟩ := hrel
    by_cases hlt : j < n
    · have n1 : (j : Int) < (n : Int) := by omega
      obtain ⟨s, hs⟩ : ∃ s, l[j]? = some s := ⟨l[j]'(by rw [HL.out]; exact hlt), List.getElem?_eq_getElem _⟩
      obtain ⟨b1, o1, aw1, cw1, ap1, cp1, hax, hc1, hT1, hP1, _, _⟩ := S1.out j s hs
      obtain ⟨b2, o2, aw2, cw2, ap2, cp2, hay, hc2, hT2, hP2, _, _⟩ := S2.out j s hs
      have sm := SM.out s (List.mem_of_getElem? hs)
      obtain ⟨k, lb, ky, pr, ws, ps, fn⟩ := s
      dsimp only at *
      obtain ⟨nw, hnw⟩ : ∃ nw, ws.length = nw := ⟨_, rfl⟩
      obtain ⟨np, hnp⟩ : ∃ np, ps.length = np := ⟨_, rfl⟩
      unfold stmC at hc1 hc2
      dsimp only at hc1 hc2
      rw [hnw, hnp] at hc1 hc2
      have hnwb : nw ≤ 1048576 := by rw [← hnw]; exact sm.nw
      have hnpb : np ≤ 1048576 := by rw [← hnp]; exact sm.np
      have CF : Hid (∀ wx, Below w.heap.size w wx → wx.cell? ⟨b1, o1 + j * 16, none⟩ = some (.int .i64 k) ∧ wx.cell? ⟨b1, o1 + j * 16 + 1, none⟩ = some (.string lb.text) ∧ wx.cell? ⟨b1, o1 + j * 16 + 2, none⟩ = some (.int .i64 lb.off) ∧ wx.cell? ⟨b1, o1 + j * 16 + 3, none⟩ = some (.int .i64 lb.line) ∧ wx.cell? ⟨b1, o1 + j * 16 + 4, none⟩ = some (.int .i64 lb.col) ∧ wx.cell? ⟨b1, o1 + j * 16 + 5, none⟩ = some (.string ky.text) ∧ wx.cell? ⟨b1, o1 + j * 16 + 6, none⟩ = some (.int .i64 ky.off) ∧ wx.cell? ⟨b1, o1 + j * 16 + 7, none⟩ = some (.int .i64 ky.line) ∧ wx.cell? ⟨b1, o1 + j * 16 + 8, none⟩ = some (.int .i64 ky.col) ∧ wx.cell? ⟨b1, o1 + j * 16 + 9, none⟩ = some (.bool pr) ∧ wx.cell? ⟨b1, o1 + j * 16 + 10, none⟩ = some (.slice aw1 nw cw1) ∧ wx.cell? ⟨b1, o1 + j * 16 + 11, none⟩ = some (.slice ap1 np cp1) ∧ wx.cell? ⟨b1, o1 + j * 16 + 12, none⟩ = some (.string fn.text) ∧ wx.cell? ⟨b1, o1 + j * 16 + 13, none⟩ = some (.int .i64 fn.off) ∧ wx.cell? ⟨b1, o1 + j * 16 + 14, none⟩ = some (.int .i64 fn.line) ∧ wx.cell? ⟨b1, o1 + j * 16 + 15, none⟩ = some (.int .i64 fn.col) ∧ wx.cell? ⟨b2, o2 + j * 16, none⟩ = some (.int .i64 k) ∧ wx.cell? ⟨b2, o2 + j * 16 + 1, none⟩ = some (.string lb.text) ∧ wx.cell? ⟨b2, o2 + j * 16 + 2, none⟩ = some (.int .i64 lb.off) ∧ wx.cell? ⟨b2, o2 + j * 16 + 3, none⟩ = some (.int .i64 lb.line) ∧ wx.cell? ⟨b2, o2 + j * 16 + 4, none⟩ = some (.int .i64 lb.col) ∧ wx.cell? ⟨b2, o2 + j * 16 + 5, none⟩ = some (.string ky.text) ∧ wx.cell? ⟨b2, o2 + j * 16 + 6, none⟩ = some (.int .i64 ky.off) ∧ wx.cell? ⟨b2, o2 + j * 16 + 7, none⟩ = some (.int .i64 ky.line) ∧ wx.cell? ⟨b2, o2 + j * 16 + 8, none⟩ = some (.int .i64 ky.col) ∧ wx.cell? ⟨b2, o2 + j * 16 + 9, none⟩ = some (.bool pr) ∧ wx.cell? ⟨b2, o2 + j * 16 + 10, none⟩ = some (.slice aw2 nw cw2) ∧ wx.cell? ⟨b2, o2 + j * 16 + 11, none⟩ = some (.slice ap2 np cp2) ∧ wx.cell? ⟨b2, o2 + j * 16 + 12, none⟩ = some (.string fn.text) ∧ wx.cell? ⟨b2, o2 + j * 16 + 13, none⟩ = some (.int .i64 fn.off) ∧ wx.cell? ⟨b2, o2 + j * 16 + 14, none⟩ = some (.int .i64 fn.line) ∧ wx.cell? ⟨b2, o2 + j * 16 + 15, none⟩ = some (.int .i64 fn.col)) := fun wx hx => by
        obtain ⟨x0, x1, x2, x3, x4, x5, x6, x7, x8, x9, x10, x11, x12, x13, x14, x15⟩ := cells16 (w := wx) (b := b1) (o := o1 + j * 16) (fun i u hu => (hx.cell (p := ⟨b1, _, none⟩) (World.block_lt_of_cell? _ _ (hc1 i u hu))).trans (hc1 i u hu))
        obtain ⟨y0, y1, y2, y3, y4, y5, y6, y7, y8, y9, y10, y11, y12, y13, y14, y15⟩ := cells16 (w := wx) (b := b2) (o := o2 + j * 16) (fun i u hu => (hx.cell (p := ⟨b2, _, none⟩) (World.block_lt_of_cell? _ _ (hc2 i u hu))).trans (hc2 i u hu))
        exact ⟨x0, x1, x2, x3, x4, x5, x6, x7, x8, x9, x10, x11, x12, x13, x14, x15, y0, y1, y2, y3, y4, y5, y6, y7, y8, y9, y10, y11, y12, y13, y14, y15⟩
      have CF8 : Hid (∀ wx, Below w.heap.size w wx → wx.cell? ⟨b1, o1 + j * 16 + 10, none⟩ = some (.slice aw1 nw cw1) ∧ wx.cell? ⟨b1, o1 + j * 16 + 11, none⟩ = some (.slice ap1 np cp1) ∧ wx.cell? ⟨b2, o2 + j * 16 + 10, none⟩ = some (.slice aw2 nw cw2) ∧ wx.cell? ⟨b2, o2 + j * 16 + 11, none⟩ = some (.slice ap2 np cp2)) := fun wx hx => by
        obtain ⟨_, _, _, _, _, _, _, _, _, _, x10, x11, _⟩ := cells16 (w := wx) (b := b1) (o := o1 + j * 16) (fun i u hu => (hx.cell (p := ⟨b1, _, none⟩) (World.block_lt_of_cell? _ _ (hc1 i u hu))).trans (hc1 i u hu))
        obtain ⟨_, _, _, _, _, _, _, _, _, _, y10, y11, _⟩ := cells16 (w := wx) (b := b2) (o := o2 + j * 16) (fun i u hu => (hx.cell (p := ⟨b2, _, none⟩) (World.block_lt_of_cell? _ _ (hc2 i u hu))).trans (hc2 i u hu))
        exact ⟨x10, x11, y10, y11⟩
      have TKW : Hid (∀ wx, Below w.heap.size w wx → Calls Tryd.prog 35 #[.slice aw1 nw cw1, .slice aw2 nw cw2, .bool true] wx fun e w' => e = .returned (.bool true) ∧ Below wx.heap.size wx w') := fun wx hx => tokens_eq wx aw1 aw2 nw cw1 cw2 ws hnw (by omega) (hT1.under hx) (hT2.under hx)
      have TKP : Hid (∀ wx, Below w.heap.size w wx → Calls Tryd.prog 35 #[.slice ap1 np cp1, .slice ap2 np cp2, .bool true] wx fun e w' => e = .returned (.bool true) ∧ Below wx.heap.size wx w') := fun wx hx => tokens_eq wx ap1 ap2 np cp1 cp2 ps hnp (by omega) (hP1.under hx) (hP2.under hx)
      subst hax hay
      clear hs sm hc1 hc2 hT1 hT2 hP1 hP2 hnw hnp
      go_upto_region 6 with fail
      go_cut [57] (fun v57 wx => v57 = .bool false ∧ Hid (Below w.heap.size w wx))
      case first => as_aux_lemma =>
        have HBd : Hid (Below w.heap.size w wr.drew) := below_drewN hB.out 1
        refine wp_region_held_drew (S := fun w' => w'.cell? ⟨b1, o1 + j * 16, none⟩ = some (.int .i64 k) ∧ w'.cell? ⟨b1, o1 + j * 16 + 1, none⟩ = some (.string lb.text) ∧ w'.cell? ⟨b1, o1 + j * 16 + 2, none⟩ = some (.int .i64 lb.off) ∧ w'.cell? ⟨b1, o1 + j * 16 + 3, none⟩ = some (.int .i64 lb.line) ∧ w'.cell? ⟨b1, o1 + j * 16 + 4, none⟩ = some (.int .i64 lb.col) ∧ w'.cell? ⟨b1, o1 + j * 16 + 5, none⟩ = some (.string ky.text) ∧ w'.cell? ⟨b1, o1 + j * 16 + 6, none⟩ = some (.int .i64 ky.off) ∧ w'.cell? ⟨b1, o1 + j * 16 + 7, none⟩ = some (.int .i64 ky.line) ∧ w'.cell? ⟨b1, o1 + j * 16 + 8, none⟩ = some (.int .i64 ky.col) ∧ w'.cell? ⟨b1, o1 + j * 16 + 9, none⟩ = some (.bool pr) ∧ w'.cell? ⟨b1, o1 + j * 16 + 10, none⟩ = some (.slice aw1 nw cw1) ∧ w'.cell? ⟨b1, o1 + j * 16 + 11, none⟩ = some (.slice ap1 np cp1) ∧ w'.cell? ⟨b1, o1 + j * 16 + 12, none⟩ = some (.string fn.text) ∧ w'.cell? ⟨b1, o1 + j * 16 + 13, none⟩ = some (.int .i64 fn.off) ∧ w'.cell? ⟨b1, o1 + j * 16 + 14, none⟩ = some (.int .i64 fn.line) ∧ w'.cell? ⟨b1, o1 + j * 16 + 15, none⟩ = some (.int .i64 fn.col) ∧ w'.cell? ⟨b2, o2 + j * 16, none⟩ = some (.int .i64 k) ∧ w'.cell? ⟨b2, o2 + j * 16 + 1, none⟩ = some (.string lb.text) ∧ w'.cell? ⟨b2, o2 + j * 16 + 2, none⟩ = some (.int .i64 lb.off) ∧ w'.cell? ⟨b2, o2 + j * 16 + 3, none⟩ = some (.int .i64 lb.line) ∧ w'.cell? ⟨b2, o2 + j * 16 + 4, none⟩ = some (.int .i64 lb.col) ∧ w'.cell? ⟨b2, o2 + j * 16 + 5, none⟩ = some (.string ky.text) ∧ w'.cell? ⟨b2, o2 + j * 16 + 6, none⟩ = some (.int .i64 ky.off) ∧ w'.cell? ⟨b2, o2 + j * 16 + 7, none⟩ = some (.int .i64 ky.line) ∧ w'.cell? ⟨b2, o2 + j * 16 + 8, none⟩ = some (.int .i64 ky.col) ∧ w'.cell? ⟨b2, o2 + j * 16 + 9, none⟩ = some (.bool pr) ∧ w'.cell? ⟨b2, o2 + j * 16 + 10, none⟩ = some (.slice aw2 nw cw2) ∧ w'.cell? ⟨b2, o2 + j * 16 + 11, none⟩ = some (.slice ap2 np cp2) ∧ w'.cell? ⟨b2, o2 + j * 16 + 12, none⟩ = some (.string fn.text) ∧ w'.cell? ⟨b2, o2 + j * 16 + 13, none⟩ = some (.int .i64 fn.off) ∧ w'.cell? ⟨b2, o2 + j * 16 + 14, none⟩ = some (.int .i64 fn.line) ∧ w'.cell? ⟨b2, o2 + j * 16 + 15, none⟩ = some (.int .i64 fn.col)) (by kernel_rfl) ?_ (fun hHeld => ?_)
        · exact CF.out _ HBd.out
        refine wpAnyH_take (i := 0) (oi := { dst := some 19, op := Op.move (Operand.tmp 0), type := 22, pos := "law.go:32", after := #[], guard := none }) (v := ?_) rfl (by kernel_rfl) (by kernel_rfl) (by kernel_rfl) (fun _ _ _ h => h) (Or.inl ⟨by rfl, ?_⟩) hHeld ?_
        rotate_left
        · (intro w hSw; (try dsimp only at hSw); go_simp; try with_reducible rfl)
        try simp only [Act.put, List.setIfInBounds_toArray, List.set_cons_zero, List.set_cons_succ]
        refine wpAnyH_take (i := 1) (oi := { dst := some 20, op := Op.move (Operand.tmp 7), type := 3, pos := "law.go:32", after := #[], guard := none }) (v := ?_) rfl (by kernel_rfl) (by kernel_rfl) (by kernel_rfl) (fun _ _ _ h => h) (Or.inl ⟨by rfl, ?_⟩) hHeld ?_
        rotate_left
        · (intro w hSw; (try dsimp only at hSw); go_simp; try with_reducible rfl)
        try simp only [Act.put, List.setIfInBounds_toArray, List.set_cons_zero, List.set_cons_succ]
        refine wpAnyH_take (i := 2) (oi := { dst := some 21, op := Op.indexAddr 22 (Operand.tmp 19) (Operand.tmp 20), type := 0, pos := "law.go:32", after := #[{ on := 0, ground := Ground.data }, { on := 1, ground := Ground.data }], guard := none }) (v := ?_) rfl (by kernel_rfl) (by kernel_rfl) (by kernel_rfl) (fun _ _ _ h => h) (Or.inl ⟨by rfl, ?_⟩) hHeld ?_
        rotate_left
        · (intro w hSw; (try dsimp only at hSw); go_simp; try with_reducible rfl)
        try simp only [Act.put, List.setIfInBounds_toArray, List.set_cons_zero, List.set_cons_succ]
        refine wpAnyH_take (i := 3) (oi := { dst := some 22, op := Op.fieldAddr 36 (Operand.tmp 21) 0, type := 0, pos := "law.go:32", after := #[{ on := 2, ground := Ground.data }], guard := none }) (v := ?_) rfl (by kernel_rfl) (by kernel_rfl) (by kernel_rfl) (fun _ _ _ h => h) (Or.inl ⟨by rfl, ?_⟩) hHeld ?_
        rotate_left
        · (intro w hSw; (try dsimp only at hSw); go_simp; try with_reducible rfl)
        try simp only [Act.put, List.setIfInBounds_toArray, List.set_cons_zero, List.set_cons_succ]
        refine wpAnyH_take (i := 4) (oi := { dst := some 23, op := Op.load 3 (Operand.tmp 22), type := 3, pos := "law.go:32", after := #[{ on := 3, ground := Ground.data }], guard := none }) (v := ?_) rfl (by kernel_rfl) (by kernel_rfl) (by kernel_rfl) (fun _ _ _ h => h) (Or.inl ⟨by rfl, ?_⟩) hHeld ?_
        rotate_left
        · (intro w hSw; (try dsimp only at hSw); go_simp; try with_reducible rfl)
        try simp only [Act.put, List.setIfInBounds_toArray, List.set_cons_zero, List.set_cons_succ]
        refine wpAnyH_take (i := 5) (oi := { dst := some 24, op := Op.move (Operand.tmp 1), type := 22, pos := "law.go:32", after := #[], guard := none }) (v := ?_) rfl (by kernel_rfl) (by kernel_rfl) (by kernel_rfl) (fun _ _ _ h => h) (Or.inl ⟨by rfl, ?_⟩) hHeld ?_
        rotate_left
        · (intro w hSw; (try dsimp only at hSw); go_simp; try with_reducible rfl)
        try simp only [Act.put, List.setIfInBounds_toArray, List.set_cons_zero, List.set_cons_succ]
        refine wpAnyH_take (i := 6) (oi := { dst := some 25, op := Op.move (Operand.tmp 7), type := 3, pos := "law.go:32", after := #[], guard := none }) (v := ?_) rfl (by kernel_rfl) (by kernel_rfl) (by kernel_rfl) (fun _ _ _ h => h) (Or.inl ⟨by rfl, ?_⟩) hHeld ?_
        rotate_left
        · (intro w hSw; (try dsimp only at hSw); go_simp; try with_reducible rfl)
        try simp only [Act.put, List.setIfInBounds_toArray, List.set_cons_zero, List.set_cons_succ]
        refine wpAnyH_take (i := 7) (oi := { dst := some 26, op := Op.indexAddr 22 (Operand.tmp 24) (Operand.tmp 25), type := 0, pos := "law.go:32", after := #[{ on := 5, ground := Ground.data }, { on := 6, ground := Ground.data }], guard := none }) (v := ?_) rfl (by kernel_rfl) (by kernel_rfl) (by kernel_rfl) (fun _ _ _ h => h) (Or.inl ⟨by rfl, ?_⟩) hHeld ?_
        rotate_left
        · (intro w hSw; (try dsimp only at hSw); go_simp; try with_reducible rfl)
        try simp only [Act.put, List.setIfInBounds_toArray, List.set_cons_zero, List.set_cons_succ]
        refine wpAnyH_take (i := 8) (oi := { dst := some 27, op := Op.fieldAddr 36 (Operand.tmp 26) 0, type := 0, pos := "law.go:32", after := #[{ on := 7, ground := Ground.data }], guard := none }) (v := ?_) rfl (by kernel_rfl) (by kernel_rfl) (by kernel_rfl) (fun _ _ _ h => h) (Or.inl ⟨by rfl, ?_⟩) hHeld ?_
        rotate_left
        · (intro w hSw; (try dsimp only at hSw); go_simp; try with_reducible rfl)
        try simp only [Act.put, List.setIfInBounds_toArray, List.set_cons_zero, List.set_cons_succ]
        refine wpAnyH_take (i := 9) (oi := { dst := some 28, op := Op.load 3 (Operand.tmp 27), type := 3, pos := "law.go:32", after := #[{ on := 8, ground := Ground.data }], guard := none }) (v := ?_) rfl (by kernel_rfl) (by kernel_rfl) (by kernel_rfl) (fun _ _ _ h => h) (Or.inl ⟨by rfl, ?_⟩) hHeld ?_
        rotate_left
        · (intro w hSw; (try dsimp only at hSw); go_simp; try with_reducible rfl)
        try simp only [Act.put, List.setIfInBounds_toArray, List.set_cons_zero, List.set_cons_succ]
        refine wpAnyH_take (i := 10) (oi := { dst := some 29, op := Op.binOp BinOp.neq 3 (Operand.tmp 23) (Operand.tmp 28) 3, type := 4, pos := "law.go:32", after := #[{ on := 4, ground := Ground.data }, { on := 9, ground := Ground.data }], guard := none }) (v := ?_) rfl (by kernel_rfl) (by kernel_rfl) (by kernel_rfl) (fun _ _ _ h => h) (Or.inl ⟨by rfl, ?_⟩) hHeld ?_
        rotate_left
        · (intro w hSw; (try dsimp only at hSw); go_simp; try with_reducible rfl)
        try simp only [Act.put, List.setIfInBounds_toArray, List.set_cons_zero, List.set_cons_succ]
        refine wpAnyH_take (i := 11) (oi := { dst := some 30, op := Op.move (Operand.tmp 29), type := 4, pos := "law.go:32", after := #[{ on := 10, ground := Ground.data }], guard := none }) (v := ?_) rfl (by kernel_rfl) (by kernel_rfl) (by kernel_rfl) (fun _ _ _ h => h) (Or.inl ⟨by rfl, ?_⟩) hHeld ?_
        rotate_left
        · (intro w hSw; (try dsimp only at hSw); go_simp; try with_reducible rfl)
        try simp only [Act.put, List.setIfInBounds_toArray, List.set_cons_zero, List.set_cons_succ]
        refine wpAnyH_take (i := 12) (oi := { dst := some 31, op := Op.move (Operand.tmp 0), type := 22, pos := "law.go:32", after := #[{ on := 11, ground := Ground.guard }], guard := some (11, false) }) (v := ?_) rfl (by kernel_rfl) (by kernel_rfl) (by kernel_rfl) (fun _ _ _ h => h) (Or.inl ⟨by rfl, ?_⟩) hHeld ?_
        rotate_left
        · (intro w hSw; (try dsimp only at hSw); go_simp; try with_reducible rfl)
        try simp only [Act.put, List.setIfInBounds_toArray, List.set_cons_zero, List.set_cons_succ]
        refine wpAnyH_take (i := 13) (oi := { dst := some 32, op := Op.move (Operand.tmp 7), type := 3, pos := "law.go:32", after := #[{ on := 11, ground := Ground.guard }], guard := some (11, false) }) (v := ?_) rfl (by kernel_rfl) (by kernel_rfl) (by kernel_rfl) (fun _ _ _ h => h) (Or.inl ⟨by rfl, ?_⟩) hHeld ?_
        rotate_left
        · (intro w hSw; (try dsimp only at hSw); go_simp; try with_reducible rfl)
        try simp only [Act.put, List.setIfInBounds_toArray, List.set_cons_zero, List.set_cons_succ]
        refine wpAnyH_take (i := 14) (oi := { dst := some 33, op := Op.indexAddr 22 (Operand.tmp 31) (Operand.tmp 32), type := 0, pos := "law.go:32", after := #[{ on := 12, ground := Ground.data }, { on := 13, ground := Ground.data }, { on := 11, ground := Ground.guard }], guard := some (11, false) }) (v := ?_) rfl (by kernel_rfl) (by kernel_rfl) (by kernel_rfl) (fun _ _ _ h => h) (Or.inl ⟨by rfl, ?_⟩) hHeld ?_
        rotate_left
        · (intro w hSw; (try dsimp only at hSw); go_simp; try with_reducible rfl)
        try simp only [Act.put, List.setIfInBounds_toArray, List.set_cons_zero, List.set_cons_succ]
        refine wpAnyH_take (i := 15) (oi := { dst := some 34, op := Op.fieldAddr 36 (Operand.tmp 33) 3, type := 0, pos := "law.go:32", after := #[{ on := 14, ground := Ground.data }, { on := 11, ground := Ground.guard }], guard := some (11, false) }) (v := ?_) rfl (by kernel_rfl) (by kernel_rfl) (by kernel_rfl) (fun _ _ _ h => h) (Or.inl ⟨by rfl, ?_⟩) hHeld ?_
        rotate_left
        · (intro w hSw; (try dsimp only at hSw); go_simp; try with_reducible rfl)
        try simp only [Act.put, List.setIfInBounds_toArray, List.set_cons_zero, List.set_cons_succ]
        refine wpAnyH_take (i := 16) (oi := { dst := some 35, op := Op.load 4 (Operand.tmp 34), type := 4, pos := "law.go:32", after := #[{ on := 15, ground := Ground.data }, { on := 11, ground := Ground.guard }], guard := some (11, false) }) (v := ?_) rfl (by kernel_rfl) (by kernel_rfl) (by kernel_rfl) (fun _ _ _ h => h) (Or.inl ⟨by rfl, ?_⟩) hHeld ?_
        rotate_left
        · (intro w hSw; (try dsimp only at hSw); go_simp; try with_reducible rfl)
        try simp only [Act.put, List.setIfInBounds_toArray, List.set_cons_zero, List.set_cons_succ]
        refine wpAnyH_take (i := 17) (oi := { dst := some 36, op := Op.move (Operand.tmp 1), type := 22, pos := "law.go:32", after := #[{ on := 11, ground := Ground.guard }], guard := some (11, false) }) (v := ?_) rfl (by kernel_rfl) (by kernel_rfl) (by kernel_rfl) (fun _ _ _ h => h) (Or.inl ⟨by rfl, ?_⟩) hHeld ?_
        rotate_left
        · (intro w hSw; (try dsimp only at hSw); go_simp; try with_reducible rfl)
        try simp only [Act.put, List.setIfInBounds_toArray, List.set_cons_zero, List.set_cons_succ]
        refine wpAnyH_take (i := 18) (oi := { dst := some 37, op := Op.move (Operand.tmp 7), type := 3, pos := "law.go:32", after := #[{ on := 11, ground := Ground.guard }], guard := some (11, false) }) (v := ?_) rfl (by kernel_rfl) (by kernel_rfl) (by kernel_rfl) (fun _ _ _ h => h) (Or.inl ⟨by rfl, ?_⟩) hHeld ?_
        rotate_left
        · (intro w hSw; (try dsimp only at hSw); go_simp; try with_reducible rfl)
        try simp only [Act.put, List.setIfInBounds_toArray, List.set_cons_zero, List.set_cons_succ]
        refine wpAnyH_take (i := 19) (oi := { dst := some 38, op := Op.indexAddr 22 (Operand.tmp 36) (Operand.tmp 37), type := 0, pos := "law.go:32", after := #[{ on := 17, ground := Ground.data }, { on := 18, ground := Ground.data }, { on := 11, ground := Ground.guard }], guard := some (11, false) }) (v := ?_) rfl (by kernel_rfl) (by kernel_rfl) (by kernel_rfl) (fun _ _ _ h => h) (Or.inl ⟨by rfl, ?_⟩) hHeld ?_
        rotate_left
        · (intro w hSw; (try dsimp only at hSw); go_simp; try with_reducible rfl)
        try simp only [Act.put, List.setIfInBounds_toArray, List.set_cons_zero, List.set_cons_succ]
        refine wpAnyH_take (i := 20) (oi := { dst := some 39, op := Op.fieldAddr 36 (Operand.tmp 38) 3, type := 0, pos := "law.go:32", after := #[{ on := 19, ground := Ground.data }, { on := 11, ground := Ground.guard }], guard := some (11, false) }) (v := ?_) rfl (by kernel_rfl) (by kernel_rfl) (by kernel_rfl) (fun _ _ _ h => h) (Or.inl ⟨by rfl, ?_⟩) hHeld ?_
        rotate_left
        · (intro w hSw; (try dsimp only at hSw); go_simp; try with_reducible rfl)
        try simp only [Act.put, List.setIfInBounds_toArray, List.set_cons_zero, List.set_cons_succ]
        refine wpAnyH_take (i := 21) (oi := { dst := some 40, op := Op.load 4 (Operand.tmp 39), type := 4, pos := "law.go:32", after := #[{ on := 20, ground := Ground.data }, { on := 11, ground := Ground.guard }], guard := some (11, false) }) (v := ?_) rfl (by kernel_rfl) (by kernel_rfl) (by kernel_rfl) (fun _ _ _ h => h) (Or.inl ⟨by rfl, ?_⟩) hHeld ?_
        rotate_left
        · (intro w hSw; (try dsimp only at hSw); go_simp; try with_reducible rfl)
        try simp only [Act.put, List.setIfInBounds_toArray, List.set_cons_zero, List.set_cons_succ]
        refine wpAnyH_take (i := 22) (oi := { dst := some 41, op := Op.binOp BinOp.neq 4 (Operand.tmp 35) (Operand.tmp 40) 4, type := 4, pos := "law.go:32", after := #[{ on := 16, ground := Ground.data }, { on := 21, ground := Ground.data }, { on := 11, ground := Ground.guard }], guard := some (11, false) }) (v := ?_) rfl (by kernel_rfl) (by kernel_rfl) (by kernel_rfl) (fun _ _ _ h => h) (Or.inl ⟨by rfl, ?_⟩) hHeld ?_
        rotate_left
        · (intro w hSw; (try dsimp only at hSw); go_simp; try with_reducible rfl)
        try simp only [Act.put, List.setIfInBounds_toArray, List.set_cons_zero, List.set_cons_succ]
        refine wpAnyH_take (i := 23) (oi := { dst := some 42, op := Op.pick (Operand.tmp 30) (Operand.const (Value.bool true)) (Operand.tmp 41), type := 4, pos := "law.go:32", after := #[{ on := 11, ground := Ground.data }, { on := 22, ground := Ground.data }], guard := none }) (v := ?_) rfl (by kernel_rfl) (by kernel_rfl) (by kernel_rfl) (fun _ _ _ h => h) (Or.inl ⟨by rfl, ?_⟩) hHeld ?_
        rotate_left
        · (intro w hSw; (try dsimp only at hSw); go_simp; try with_reducible rfl)
        try simp only [Act.put, List.setIfInBounds_toArray, List.set_cons_zero, List.set_cons_succ]
        refine wpAnyH_take (i := 24) (oi := { dst := some 43, op := Op.move (Operand.tmp 42), type := 4, pos := "law.go:32", after := #[{ on := 23, ground := Ground.data }, { on := 11, ground := Ground.chain }], guard := none }) (v := ?_) rfl (by kernel_rfl) (by kernel_rfl) (by kernel_rfl) (fun _ _ _ h => h) (Or.inl ⟨by rfl, ?_⟩) hHeld ?_
        rotate_left
        · (intro w hSw; (try dsimp only at hSw); go_simp; try with_reducible rfl)
        try simp only [Act.put, List.setIfInBounds_toArray, List.set_cons_zero, List.set_cons_succ]
        refine wpAnyH_take (i := 25) (oi := { dst := some 44, op := Op.move (Operand.tmp 0), type := 22, pos := "law.go:32", after := #[{ on := 24, ground := Ground.guard }], guard := some (24, false) }) (v := ?_) rfl (by kernel_rfl) (by kernel_rfl) (by kernel_rfl) (fun _ _ _ h => h) (Or.inl ⟨by rfl, ?_⟩) hHeld ?_
        rotate_left
        · (intro w hSw; (try dsimp only at hSw); go_simp; try with_reducible rfl)
        try simp only [Act.put, List.setIfInBounds_toArray, List.set_cons_zero, List.set_cons_succ]
        refine wpAnyH_take (i := 26) (oi := { dst := some 45, op := Op.move (Operand.tmp 7), type := 3, pos := "law.go:32", after := #[{ on := 24, ground := Ground.guard }], guard := some (24, false) }) (v := ?_) rfl (by kernel_rfl) (by kernel_rfl) (by kernel_rfl) (fun _ _ _ h => h) (Or.inl ⟨by rfl, ?_⟩) hHeld ?_
        rotate_left
        · (intro w hSw; (try dsimp only at hSw); go_simp; try with_reducible rfl)
        try simp only [Act.put, List.setIfInBounds_toArray, List.set_cons_zero, List.set_cons_succ]
        refine wpAnyH_take (i := 27) (oi := { dst := some 46, op := Op.indexAddr 22 (Operand.tmp 44) (Operand.tmp 45), type := 0, pos := "law.go:32", after := #[{ on := 25, ground := Ground.data }, { on := 26, ground := Ground.data }, { on := 24, ground := Ground.guard }], guard := some (24, false) }) (v := ?_) rfl (by kernel_rfl) (by kernel_rfl) (by kernel_rfl) (fun _ _ _ h => h) (Or.inl ⟨by rfl, ?_⟩) hHeld ?_
        rotate_left
        · (intro w hSw; (try dsimp only at hSw); go_simp; try with_reducible rfl)
        try simp only [Act.put, List.setIfInBounds_toArray, List.set_cons_zero, List.set_cons_succ]
        refine wpAnyH_take (i := 28) (oi := { dst := some 47, op := Op.load 36 (Operand.tmp 46), type := 36, pos := "law.go:32", after := #[{ on := 27, ground := Ground.data }, { on := 24, ground := Ground.guard }], guard := some (24, false) }) (v := ?_) rfl (by kernel_rfl) (by kernel_rfl) (by kernel_rfl) (fun _ _ _ h => h) (Or.inl ⟨by rfl, ?_⟩) hHeld ?_
        rotate_left
        · (intro w hSw; (try dsimp only at hSw); go_simp; try with_reducible rfl)
        try simp only [Act.put, List.setIfInBounds_toArray, List.set_cons_zero, List.set_cons_succ]
        refine wpAnyH_take (i := 30) (oi := { dst := some 49, op := Op.move (Operand.tmp 1), type := 22, pos := "law.go:32", after := #[{ on := 24, ground := Ground.guard }], guard := some (24, false) }) (v := ?_) rfl (by kernel_rfl) (by kernel_rfl) (by kernel_rfl) (fun _ _ _ h => h) (Or.inl ⟨by rfl, ?_⟩) hHeld ?_
        rotate_left
        · (intro w hSw; (try dsimp only at hSw); go_simp; try with_reducible rfl)
        try simp only [Act.put, List.setIfInBounds_toArray, List.set_cons_zero, List.set_cons_succ]
        refine wpAnyH_take (i := 31) (oi := { dst := some 50, op := Op.move (Operand.tmp 7), type := 3, pos := "law.go:32", after := #[{ on := 24, ground := Ground.guard }], guard := some (24, false) }) (v := ?_) rfl (by kernel_rfl) (by kernel_rfl) (by kernel_rfl) (fun _ _ _ h => h) (Or.inl ⟨by rfl, ?_⟩) hHeld ?_
        rotate_left
        · (intro w hSw; (try dsimp only at hSw); go_simp; try with_reducible rfl)
        try simp only [Act.put, List.setIfInBounds_toArray, List.set_cons_zero, List.set_cons_succ]
        refine wpAnyH_take (i := 32) (oi := { dst := some 51, op := Op.indexAddr 22 (Operand.tmp 49) (Operand.tmp 50), type := 0, pos := "law.go:32", after := #[{ on := 30, ground := Ground.data }, { on := 31, ground := Ground.data }, { on := 24, ground := Ground.guard }], guard := some (24, false) }) (v := ?_) rfl (by kernel_rfl) (by kernel_rfl) (by kernel_rfl) (fun _ _ _ h => h) (Or.inl ⟨by rfl, ?_⟩) hHeld ?_
        rotate_left
        · (intro w hSw; (try dsimp only at hSw); go_simp; try with_reducible rfl)
        try simp only [Act.put, List.setIfInBounds_toArray, List.set_cons_zero, List.set_cons_succ]
        refine wpAnyH_take (i := 33) (oi := { dst := some 52, op := Op.load 36 (Operand.tmp 51), type := 36, pos := "law.go:32", after := #[{ on := 32, ground := Ground.data }, { on := 24, ground := Ground.guard }], guard := some (24, false) }) (v := ?_) rfl (by kernel_rfl) (by kernel_rfl) (by kernel_rfl) (fun _ _ _ h => h) (Or.inl ⟨by rfl, ?_⟩) hHeld ?_
        rotate_left
        · (intro w hSw; (try dsimp only at hSw); go_simp; try with_reducible rfl)
        try simp only [Act.put, List.setIfInBounds_toArray, List.set_cons_zero, List.set_cons_succ]
        refine wpAnyH_take (i := 35) (oi := { dst := some 54, op := Op.move (Operand.tmp 2), type := 4, pos := "law.go:32", after := #[{ on := 24, ground := Ground.guard }], guard := some (24, false) }) (v := ?_) rfl (by kernel_rfl) (by kernel_rfl) (by kernel_rfl) (fun _ _ _ h => h) (Or.inl ⟨by rfl, ?_⟩) hHeld ?_
        rotate_left
        · (intro w hSw; (try dsimp only at hSw); go_simp; try with_reducible rfl)
        try simp only [Act.put, List.setIfInBounds_toArray, List.set_cons_zero, List.set_cons_succ]
        refine wpAnyH_ready (rs := [29]) (by kernel_rfl) (by simp) ?_
        refine AllReadyH.cons (o := { dst := some 48, op := Op.call { callee := Callee.value (Operand.func 36), args := #[Operand.tmp 47], argTypes := #[36] }, type := 31, pos := "law.go:32", after := #[{ on := 28, ground := Ground.data }, { on := 24, ground := Ground.chain }, { on := 24, ground := Ground.guard }], guard := some (24, false) }) rfl (fun K hK => ?_) AllReadyH.nil
        go_simp
        go_at_call 36
        refine Calls.mono (HDS.out wr.drew k lb ky fn pr aw1 nw cw1 ap1 np cp1) ?_
        rintro e wh1 ⟨g1, rfl, ht1, hb1⟩
        have HBh1 : Hid (Below w.heap.size w wh1) := HBd.out.trans (hb1.mono HBd.out.size)
        have TK1 : Hid (ToksAt wh1 (some ⟨g1, 0, none⟩) [lb, ky, fn]) := ht1
        clear ht1 hb1
        try go_wp2_with fail
        refine hK.out _ _ ?_ (fun hHeld_29 => ?_)
        · exact CF.out _ HBh1.out
        clear hK K
        try simp only [Act.put, List.setIfInBounds_toArray, List.set_cons_zero, List.set_cons_succ]
        refine wpAnyH_ready (rs := [34]) (by kernel_rfl) (by simp) ?_
        refine AllReadyH.cons (o := { dst := some 53, op := Op.call { callee := Callee.value (Operand.func 36), args := #[Operand.tmp 52], argTypes := #[36] }, type := 31, pos := "law.go:32", after := #[{ on := 33, ground := Ground.data }, { on := 29, ground := Ground.chain }, { on := 24, ground := Ground.guard }], guard := some (24, false) }) rfl (fun K hK => ?_) AllReadyH.nil
        go_simp
        go_at_call 36
        refine Calls.mono (HDS.out wh1 k lb ky fn pr aw2 nw cw2 ap2 np cp2) ?_
        rintro e wh2 ⟨g2, rfl, ht2, hb2⟩
        have HBh2 : Hid (Below w.heap.size w wh2) := HBh1.out.trans (hb2.mono HBh1.out.size)
        have TK2 : Hid (ToksAt wh2 (some ⟨g2, 0, none⟩) [lb, ky, fn]) := ht2
        have TK1b : Hid (ToksAt wh2 (some ⟨g1, 0, none⟩) [lb, ky, fn]) := TK1.out.under hb2
        clear ht2 hb2
        try go_wp2_with fail
        refine hK.out _ _ ?_ (fun hHeld_34 => ?_)
        · exact CF.out _ HBh2.out
        clear hK K
        try simp only [Act.put, List.setIfInBounds_toArray, List.set_cons_zero, List.set_cons_succ]
        refine wpAnyH_ready (rs := [36]) (by kernel_rfl) (by simp) ?_
        refine AllReadyH.cons (o := { dst := some 55, op := Op.call { callee := Callee.value (Operand.func 35), args := #[Operand.tmp 48, Operand.tmp 53, Operand.tmp 54], argTypes := #[31, 31, 4] }, type := 4, pos := "law.go:32", after := #[{ on := 29, ground := Ground.data }, { on := 34, ground := Ground.data }, { on := 35, ground := Ground.data }, { on := 34, ground := Ground.chain }, { on := 24, ground := Ground.guard }], guard := some (24, false) }) rfl (fun K hK => ?_) AllReadyH.nil
        go_simp
        go_at_call 35
        refine Calls.mono (tokens_eq wh2 (some ⟨g1, 0, none⟩) (some ⟨g2, 0, none⟩) 3 3 3 [lb, ky, fn] rfl (by omega) TK1b.out TK2.out) ?_
        rintro e wt ⟨rfl, hbt⟩
        have HBt : Hid (Below w.heap.size w wt) := HBh2.out.trans (hbt.mono HBh2.out.size)
        clear hbt
        try go_wp2_with fail
        refine hK.out _ _ ?_ (fun hHeld_36 => ?_)
        · exact CF.out _ HBt.out
        clear hK K
        try simp only [Act.put, List.setIfInBounds_toArray, List.set_cons_zero, List.set_cons_succ]
        refine wpAnyH_take (i := 37) (oi := { dst := some 56, op := Op.unOp UnOp.not 4 (Operand.tmp 55), type := 4, pos := "law.go:32", after := #[{ on := 36, ground := Ground.data }, { on := 24, ground := Ground.guard }], guard := some (24, false) }) (v := ?_) rfl (by kernel_rfl) (by kernel_rfl) (by kernel_rfl) (fun _ _ _ h => h) (Or.inl ⟨by rfl, ?_⟩) hHeld_36 ?_
        rotate_left
        · (intro w hSw; (try dsimp only at hSw); go_simp; try with_reducible rfl)
        try simp only [Act.put, List.setIfInBounds_toArray, List.set_cons_zero, List.set_cons_succ]
        refine wpAnyH_take (i := 38) (oi := { dst := some 57, op := Op.pick (Operand.tmp 43) (Operand.const (Value.bool true)) (Operand.tmp 56), type := 4, pos := "law.go:32", after := #[{ on := 24, ground := Ground.data }, { on := 37, ground := Ground.data }], guard := none }) (v := ?_) rfl (by kernel_rfl) (by kernel_rfl) (by kernel_rfl) (fun _ _ _ h => h) (Or.inl ⟨by rfl, ?_⟩) hHeld_36 ?_
        rotate_left
        · (intro w hSw; (try dsimp only at hSw); go_simp; try with_reducible rfl)
        try simp only [Act.put, List.setIfInBounds_toArray, List.set_cons_zero, List.set_cons_succ]
        refine wpAnyH_done (by kernel_rfl) ?_ _
        go_wp2_with fail
        go_meet
        exact ⟨by first | rfl | simp, HBt.out⟩
      case rest =>
        obtain ⟨rfl, hB3⟩ := hcut
        obtain ⟨w3, hw3⟩ : ∃ w3, w3 = wc := ⟨_, rfl⟩
        subst hw3
        clear CF hB
        go_upto_region 8 with fail
        go_cut [85] (fun v85 wx => v85 = .bool false ∧ Hid (Below w.heap.size w wx))
        case first => as_aux_lemma =>
          have HBd : Hid (Below w.heap.size w w3.drew) := below_drewN hB3.out 1
          refine wp_region_held_drew (S := fun w' => w'.cell? ⟨b1, o1 + j * 16 + 10, none⟩ = some (.slice aw1 nw cw1) ∧ w'.cell? ⟨b1, o1 + j * 16 + 11, none⟩ = some (.slice ap1 np cp1) ∧ w'.cell? ⟨b2, o2 + j * 16 + 10, none⟩ = some (.slice aw2 nw cw2) ∧ w'.cell? ⟨b2, o2 + j * 16 + 11, none⟩ = some (.slice ap2 np cp2)) (by kernel_rfl) ?_ (fun hHeld => ?_)
          · exact CF8.out _ HBd.out
          refine wpAnyH_take (i := 0) (oi := { dst := some 58, op := Op.move (Operand.tmp 0), type := 22, pos := "law.go:35", after := #[], guard := none }) (v := ?_) rfl (by kernel_rfl) (by kernel_rfl) (by kernel_rfl) (fun _ _ _ h => h) (Or.inl ⟨by rfl, ?_⟩) hHeld ?_
          rotate_left
          · (intro w hSw; (try dsimp only at hSw); go_simp; try with_reducible rfl)
          try simp only [Act.put, List.setIfInBounds_toArray, List.set_cons_zero, List.set_cons_succ]
          refine wpAnyH_take (i := 1) (oi := { dst := some 59, op := Op.move (Operand.tmp 7), type := 3, pos := "law.go:35", after := #[], guard := none }) (v := ?_) rfl (by kernel_rfl) (by kernel_rfl) (by kernel_rfl) (fun _ _ _ h => h) (Or.inl ⟨by rfl, ?_⟩) hHeld ?_
          rotate_left
          · (intro w hSw; (try dsimp only at hSw); go_simp; try with_reducible rfl)
          try simp only [Act.put, List.setIfInBounds_toArray, List.set_cons_zero, List.set_cons_succ]
          refine wpAnyH_take (i := 2) (oi := { dst := some 60, op := Op.indexAddr 22 (Operand.tmp 58) (Operand.tmp 59), type := 0, pos := "law.go:35", after := #[{ on := 0, ground := Ground.data }, { on := 1, ground := Ground.data }], guard := none }) (v := ?_) rfl (by kernel_rfl) (by kernel_rfl) (by kernel_rfl) (fun _ _ _ h => h) (Or.inl ⟨by rfl, ?_⟩) hHeld ?_
          rotate_left
          · (intro w hSw; (try dsimp only at hSw); go_simp; try with_reducible rfl)
          try simp only [Act.put, List.setIfInBounds_toArray, List.set_cons_zero, List.set_cons_succ]
          refine wpAnyH_take (i := 3) (oi := { dst := some 61, op := Op.fieldAddr 36 (Operand.tmp 60) 4, type := 0, pos := "law.go:35", after := #[{ on := 2, ground := Ground.data }], guard := none }) (v := ?_) rfl (by kernel_rfl) (by kernel_rfl) (by kernel_rfl) (fun _ _ _ h => h) (Or.inl ⟨by rfl, ?_⟩) hHeld ?_
          rotate_left
          · (intro w hSw; (try dsimp only at hSw); go_simp; try with_reducible rfl)
          try simp only [Act.put, List.setIfInBounds_toArray, List.set_cons_zero, List.set_cons_succ]
          refine wpAnyH_take (i := 4) (oi := { dst := some 62, op := Op.load 31 (Operand.tmp 61), type := 31, pos := "law.go:35", after := #[{ on := 3, ground := Ground.data }], guard := none }) (v := ?_) rfl (by kernel_rfl) (by kernel_rfl) (by kernel_rfl) (fun _ _ _ h => h) (Or.inl ⟨by rfl, ?_⟩) hHeld ?_
          rotate_left
          · (intro w hSw; (try dsimp only at hSw); go_simp; try with_reducible rfl)
          try simp only [Act.put, List.setIfInBounds_toArray, List.set_cons_zero, List.set_cons_succ]
          refine wpAnyH_take (i := 5) (oi := { dst := some 63, op := Op.move (Operand.tmp 1), type := 22, pos := "law.go:35", after := #[], guard := none }) (v := ?_) rfl (by kernel_rfl) (by kernel_rfl) (by kernel_rfl) (fun _ _ _ h => h) (Or.inl ⟨by rfl, ?_⟩) hHeld ?_
          rotate_left
          · (intro w hSw; (try dsimp only at hSw); go_simp; try with_reducible rfl)
          try simp only [Act.put, List.setIfInBounds_toArray, List.set_cons_zero, List.set_cons_succ]
          refine wpAnyH_take (i := 6) (oi := { dst := some 64, op := Op.move (Operand.tmp 7), type := 3, pos := "law.go:35", after := #[], guard := none }) (v := ?_) rfl (by kernel_rfl) (by kernel_rfl) (by kernel_rfl) (fun _ _ _ h => h) (Or.inl ⟨by rfl, ?_⟩) hHeld ?_
          rotate_left
          · (intro w hSw; (try dsimp only at hSw); go_simp; try with_reducible rfl)
          try simp only [Act.put, List.setIfInBounds_toArray, List.set_cons_zero, List.set_cons_succ]
          refine wpAnyH_take (i := 7) (oi := { dst := some 65, op := Op.indexAddr 22 (Operand.tmp 63) (Operand.tmp 64), type := 0, pos := "law.go:35", after := #[{ on := 5, ground := Ground.data }, { on := 6, ground := Ground.data }], guard := none }) (v := ?_) rfl (by kernel_rfl) (by kernel_rfl) (by kernel_rfl) (fun _ _ _ h => h) (Or.inl ⟨by rfl, ?_⟩) hHeld ?_
          rotate_left
          · (intro w hSw; (try dsimp only at hSw); go_simp; try with_reducible rfl)
          try simp only [Act.put, List.setIfInBounds_toArray, List.set_cons_zero, List.set_cons_succ]
          refine wpAnyH_take (i := 8) (oi := { dst := some 66, op := Op.fieldAddr 36 (Operand.tmp 65) 4, type := 0, pos := "law.go:35", after := #[{ on := 7, ground := Ground.data }], guard := none }) (v := ?_) rfl (by kernel_rfl) (by kernel_rfl) (by kernel_rfl) (fun _ _ _ h => h) (Or.inl ⟨by rfl, ?_⟩) hHeld ?_
          rotate_left
          · (intro w hSw; (try dsimp only at hSw); go_simp; try with_reducible rfl)
          try simp only [Act.put, List.setIfInBounds_toArray, List.set_cons_zero, List.set_cons_succ]
          refine wpAnyH_take (i := 9) (oi := { dst := some 67, op := Op.load 31 (Operand.tmp 66), type := 31, pos := "law.go:35", after := #[{ on := 8, ground := Ground.data }], guard := none }) (v := ?_) rfl (by kernel_rfl) (by kernel_rfl) (by kernel_rfl) (fun _ _ _ h => h) (Or.inl ⟨by rfl, ?_⟩) hHeld ?_
          rotate_left
          · (intro w hSw; (try dsimp only at hSw); go_simp; try with_reducible rfl)
          try simp only [Act.put, List.setIfInBounds_toArray, List.set_cons_zero, List.set_cons_succ]
          refine wpAnyH_take (i := 10) (oi := { dst := some 68, op := Op.move (Operand.tmp 2), type := 4, pos := "law.go:35", after := #[], guard := none }) (v := ?_) rfl (by kernel_rfl) (by kernel_rfl) (by kernel_rfl) (fun _ _ _ h => h) (Or.inl ⟨by rfl, ?_⟩) hHeld ?_
          rotate_left
          · (intro w hSw; (try dsimp only at hSw); go_simp; try with_reducible rfl)
          try simp only [Act.put, List.setIfInBounds_toArray, List.set_cons_zero, List.set_cons_succ]
          refine wpAnyH_ready (rs := [11]) (by kernel_rfl) (by simp) ?_
          refine AllReadyH.cons (o := { dst := some 69, op := Op.call { callee := Callee.value (Operand.func 35), args := #[Operand.tmp 62, Operand.tmp 67, Operand.tmp 68], argTypes := #[31, 31, 4] }, type := 4, pos := "law.go:35", after := #[{ on := 4, ground := Ground.data }, { on := 9, ground := Ground.data }, { on := 10, ground := Ground.data }], guard := none }) rfl (fun K hK => ?_) AllReadyH.nil
          go_simp
          go_at_call 35
          refine Calls.mono (TKW.out _ HBd.out) ?_
          rintro e wt ⟨rfl, hbt⟩
          have HBt : Hid (Below w.heap.size w wt) := HBd.out.trans (hbt.mono HBd.out.size)
          clear hbt
          try go_wp2_with fail
          refine hK.out _ _ ?_ (fun hHeld_11 => ?_)
          · exact CF8.out _ HBt.out
          clear hK K
          try simp only [Act.put, List.setIfInBounds_toArray, List.set_cons_zero, List.set_cons_succ]
          refine wpAnyH_take (i := 12) (oi := { dst := some 70, op := Op.unOp UnOp.not 4 (Operand.tmp 69), type := 4, pos := "law.go:35", after := #[{ on := 11, ground := Ground.data }], guard := none }) (v := ?_) rfl (by kernel_rfl) (by kernel_rfl) (by kernel_rfl) (fun _ _ _ h => h) (Or.inl ⟨by rfl, ?_⟩) hHeld_11 ?_
          rotate_left
          · (intro w hSw; (try dsimp only at hSw); go_simp; try with_reducible rfl)
          try simp only [Act.put, List.setIfInBounds_toArray, List.set_cons_zero, List.set_cons_succ]
          refine wpAnyH_take (i := 13) (oi := { dst := some 71, op := Op.move (Operand.tmp 70), type := 4, pos := "law.go:35", after := #[{ on := 12, ground := Ground.data }, { on := 11, ground := Ground.chain }], guard := none }) (v := ?_) rfl (by kernel_rfl) (by kernel_rfl) (by kernel_rfl) (fun _ _ _ h => h) (Or.inl ⟨by rfl, ?_⟩) hHeld_11 ?_
          rotate_left
          · (intro w hSw; (try dsimp only at hSw); go_simp; try with_reducible rfl)
          try simp only [Act.put, List.setIfInBounds_toArray, List.set_cons_zero, List.set_cons_succ]
          refine wpAnyH_take (i := 14) (oi := { dst := some 72, op := Op.move (Operand.tmp 0), type := 22, pos := "law.go:35", after := #[{ on := 13, ground := Ground.guard }], guard := some (13, false) }) (v := ?_) rfl (by kernel_rfl) (by kernel_rfl) (by kernel_rfl) (fun _ _ _ h => h) (Or.inl ⟨by rfl, ?_⟩) hHeld_11 ?_
          rotate_left
          · (intro w hSw; (try dsimp only at hSw); go_simp; try with_reducible rfl)
          try simp only [Act.put, List.setIfInBounds_toArray, List.set_cons_zero, List.set_cons_succ]
          refine wpAnyH_take (i := 15) (oi := { dst := some 73, op := Op.move (Operand.tmp 7), type := 3, pos := "law.go:35", after := #[{ on := 13, ground := Ground.guard }], guard := some (13, false) }) (v := ?_) rfl (by kernel_rfl) (by kernel_rfl) (by kernel_rfl) (fun _ _ _ h => h) (Or.inl ⟨by rfl, ?_⟩) hHeld_11 ?_
          rotate_left
          · (intro w hSw; (try dsimp only at hSw); go_simp; try with_reducible rfl)
          try simp only [Act.put, List.setIfInBounds_toArray, List.set_cons_zero, List.set_cons_succ]
          refine wpAnyH_take (i := 16) (oi := { dst := some 74, op := Op.indexAddr 22 (Operand.tmp 72) (Operand.tmp 73), type := 0, pos := "law.go:35", after := #[{ on := 14, ground := Ground.data }, { on := 15, ground := Ground.data }, { on := 13, ground := Ground.guard }], guard := some (13, false) }) (v := ?_) rfl (by kernel_rfl) (by kernel_rfl) (by kernel_rfl) (fun _ _ _ h => h) (Or.inl ⟨by rfl, ?_⟩) hHeld_11 ?_
          rotate_left
          · (intro w hSw; (try dsimp only at hSw); go_simp; try with_reducible rfl)
          try simp only [Act.put, List.setIfInBounds_toArray, List.set_cons_zero, List.set_cons_succ]
          refine wpAnyH_take (i := 17) (oi := { dst := some 75, op := Op.fieldAddr 36 (Operand.tmp 74) 5, type := 0, pos := "law.go:35", after := #[{ on := 16, ground := Ground.data }, { on := 13, ground := Ground.guard }], guard := some (13, false) }) (v := ?_) rfl (by kernel_rfl) (by kernel_rfl) (by kernel_rfl) (fun _ _ _ h => h) (Or.inl ⟨by rfl, ?_⟩) hHeld_11 ?_
          rotate_left
          · (intro w hSw; (try dsimp only at hSw); go_simp; try with_reducible rfl)
          try simp only [Act.put, List.setIfInBounds_toArray, List.set_cons_zero, List.set_cons_succ]
          refine wpAnyH_take (i := 18) (oi := { dst := some 76, op := Op.load 31 (Operand.tmp 75), type := 31, pos := "law.go:35", after := #[{ on := 17, ground := Ground.data }, { on := 13, ground := Ground.guard }], guard := some (13, false) }) (v := ?_) rfl (by kernel_rfl) (by kernel_rfl) (by kernel_rfl) (fun _ _ _ h => h) (Or.inl ⟨by rfl, ?_⟩) hHeld_11 ?_
          rotate_left
          · (intro w hSw; (try dsimp only at hSw); go_simp; try with_reducible rfl)
          try simp only [Act.put, List.setIfInBounds_toArray, List.set_cons_zero, List.set_cons_succ]
          refine wpAnyH_take (i := 19) (oi := { dst := some 77, op := Op.move (Operand.tmp 1), type := 22, pos := "law.go:35", after := #[{ on := 13, ground := Ground.guard }], guard := some (13, false) }) (v := ?_) rfl (by kernel_rfl) (by kernel_rfl) (by kernel_rfl) (fun _ _ _ h => h) (Or.inl ⟨by rfl, ?_⟩) hHeld_11 ?_
          rotate_left
          · (intro w hSw; (try dsimp only at hSw); go_simp; try with_reducible rfl)
          try simp only [Act.put, List.setIfInBounds_toArray, List.set_cons_zero, List.set_cons_succ]
          refine wpAnyH_take (i := 20) (oi := { dst := some 78, op := Op.move (Operand.tmp 7), type := 3, pos := "law.go:35", after := #[{ on := 13, ground := Ground.guard }], guard := some (13, false) }) (v := ?_) rfl (by kernel_rfl) (by kernel_rfl) (by kernel_rfl) (fun _ _ _ h => h) (Or.inl ⟨by rfl, ?_⟩) hHeld_11 ?_
          rotate_left
          · (intro w hSw; (try dsimp only at hSw); go_simp; try with_reducible rfl)
          try simp only [Act.put, List.setIfInBounds_toArray, List.set_cons_zero, List.set_cons_succ]
          refine wpAnyH_take (i := 21) (oi := { dst := some 79, op := Op.indexAddr 22 (Operand.tmp 77) (Operand.tmp 78), type := 0, pos := "law.go:35", after := #[{ on := 19, ground := Ground.data }, { on := 20, ground := Ground.data }, { on := 13, ground := Ground.guard }], guard := some (13, false) }) (v := ?_) rfl (by kernel_rfl) (by kernel_rfl) (by kernel_rfl) (fun _ _ _ h => h) (Or.inl ⟨by rfl, ?_⟩) hHeld_11 ?_
          rotate_left
          · (intro w hSw; (try dsimp only at hSw); go_simp; try with_reducible rfl)
          try simp only [Act.put, List.setIfInBounds_toArray, List.set_cons_zero, List.set_cons_succ]
          refine wpAnyH_take (i := 22) (oi := { dst := some 80, op := Op.fieldAddr 36 (Operand.tmp 79) 5, type := 0, pos := "law.go:35", after := #[{ on := 21, ground := Ground.data }, { on := 13, ground := Ground.guard }], guard := some (13, false) }) (v := ?_) rfl (by kernel_rfl) (by kernel_rfl) (by kernel_rfl) (fun _ _ _ h => h) (Or.inl ⟨by rfl, ?_⟩) hHeld_11 ?_
          rotate_left
          · (intro w hSw; (try dsimp only at hSw); go_simp; try with_reducible rfl)
          try simp only [Act.put, List.setIfInBounds_toArray, List.set_cons_zero, List.set_cons_succ]
          refine wpAnyH_take (i := 23) (oi := { dst := some 81, op := Op.load 31 (Operand.tmp 80), type := 31, pos := "law.go:35", after := #[{ on := 22, ground := Ground.data }, { on := 13, ground := Ground.guard }], guard := some (13, false) }) (v := ?_) rfl (by kernel_rfl) (by kernel_rfl) (by kernel_rfl) (fun _ _ _ h => h) (Or.inl ⟨by rfl, ?_⟩) hHeld_11 ?_
          rotate_left
          · (intro w hSw; (try dsimp only at hSw); go_simp; try with_reducible rfl)
          try simp only [Act.put, List.setIfInBounds_toArray, List.set_cons_zero, List.set_cons_succ]
          refine wpAnyH_take (i := 24) (oi := { dst := some 82, op := Op.move (Operand.tmp 2), type := 4, pos := "law.go:35", after := #[{ on := 13, ground := Ground.guard }], guard := some (13, false) }) (v := ?_) rfl (by kernel_rfl) (by kernel_rfl) (by kernel_rfl) (fun _ _ _ h => h) (Or.inl ⟨by rfl, ?_⟩) hHeld_11 ?_
          rotate_left
          · (intro w hSw; (try dsimp only at hSw); go_simp; try with_reducible rfl)
          try simp only [Act.put, List.setIfInBounds_toArray, List.set_cons_zero, List.set_cons_succ]
          refine wpAnyH_ready (rs := [25]) (by kernel_rfl) (by simp) ?_
          refine AllReadyH.cons (o := { dst := some 83, op := Op.call { callee := Callee.value (Operand.func 35), args := #[Operand.tmp 76, Operand.tmp 81, Operand.tmp 82], argTypes := #[31, 31, 4] }, type := 4, pos := "law.go:35", after := #[{ on := 18, ground := Ground.data }, { on := 23, ground := Ground.data }, { on := 24, ground := Ground.data }, { on := 13, ground := Ground.chain }, { on := 13, ground := Ground.guard }], guard := some (13, false) }) rfl (fun K hK => ?_) AllReadyH.nil
          go_simp
          go_at_call 35
          refine Calls.mono (TKP.out _ HBt.out) ?_
          rintro e wu ⟨rfl, hbu⟩
          have HBu : Hid (Below w.heap.size w wu) := HBt.out.trans (hbu.mono HBt.out.size)
          clear hbu
          try go_wp2_with fail
          refine hK.out _ _ ?_ (fun hHeld_25 => ?_)
          · exact CF8.out _ HBu.out
          clear hK K
          try simp only [Act.put, List.setIfInBounds_toArray, List.set_cons_zero, List.set_cons_succ]
          refine wpAnyH_take (i := 26) (oi := { dst := some 84, op := Op.unOp UnOp.not 4 (Operand.tmp 83), type := 4, pos := "law.go:35", after := #[{ on := 25, ground := Ground.data }, { on := 13, ground := Ground.guard }], guard := some (13, false) }) (v := ?_) rfl (by kernel_rfl) (by kernel_rfl) (by kernel_rfl) (fun _ _ _ h => h) (Or.inl ⟨by rfl, ?_⟩) hHeld_25 ?_
          rotate_left
          · (intro w hSw; (try dsimp only at hSw); go_simp; try with_reducible rfl)
          try simp only [Act.put, List.setIfInBounds_toArray, List.set_cons_zero, List.set_cons_succ]
          refine wpAnyH_take (i := 27) (oi := { dst := some 85, op := Op.pick (Operand.tmp 71) (Operand.const (Value.bool true)) (Operand.tmp 84), type := 4, pos := "law.go:35", after := #[{ on := 13, ground := Ground.data }, { on := 26, ground := Ground.data }], guard := none }) (v := ?_) rfl (by kernel_rfl) (by kernel_rfl) (by kernel_rfl) (fun _ _ _ h => h) (Or.inl ⟨by rfl, ?_⟩) hHeld_25 ?_
          rotate_left
          · (intro w hSw; (try dsimp only at hSw); go_simp; try with_reducible rfl)
          try simp only [Act.put, List.setIfInBounds_toArray, List.set_cons_zero, List.set_cons_succ]
          refine wpAnyH_done (by kernel_rfl) ?_ _
          go_wp2_with fail
          go_meet
          exact ⟨by first | rfl | simp, HBu.out⟩
        case rest =>
          obtain ⟨rfl, hB5⟩ := hcut
          go_wp2
          exact ⟨⟨j + 1, by omega, by go_num, hB5.out⟩, by simp [intOf]; omega⟩
    · have n1 : ¬ (j : Int) < (n : Int) := by omega
      go_wp2
      go_ret
      exact ⟨rfl, hB.out⟩
end Go.Proofs.YtipfhfeaalbmcaaDoor
