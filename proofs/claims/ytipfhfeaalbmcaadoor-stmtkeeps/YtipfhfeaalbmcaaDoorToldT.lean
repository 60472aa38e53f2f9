/- What is told of a theorem. -/
import Derived.Test.YtipfhfeaalbmcaaDoorTold
namespace Go.Proofs.YtipfhfeaalbmcaaDoor
open Go.RowKit

set_option maxRecDepth 100000 in
set_option maxHeartbeats 4000000 in
theorem toldT_any (w : World) (g : Nat) (k : Int) (lb ky fn : Tok) (aw : Option Addr) (nw cw : Nat) (pr : Bool) (ap : Option Addr) (np cp : Nat) (h : w.cell? ⟨g, 0, none⟩ = some (.int .i64 k) ∧ w.cell? ⟨g, 1, none⟩ = some (.string lb.text) ∧ w.cell? ⟨g, 2, none⟩ = some (.int .i64 lb.off) ∧ w.cell? ⟨g, 3, none⟩ = some (.int .i64 lb.line) ∧ w.cell? ⟨g, 4, none⟩ = some (.int .i64 lb.col) ∧ w.cell? ⟨g, 5, none⟩ = some (.string ky.text) ∧ w.cell? ⟨g, 6, none⟩ = some (.int .i64 ky.off) ∧ w.cell? ⟨g, 7, none⟩ = some (.int .i64 ky.line) ∧ w.cell? ⟨g, 8, none⟩ = some (.int .i64 ky.col) ∧ w.cell? ⟨g, 9, none⟩ = some (.slice aw nw cw) ∧ w.cell? ⟨g, 10, none⟩ = some (.string fn.text) ∧ w.cell? ⟨g, 11, none⟩ = some (.int .i64 fn.off) ∧ w.cell? ⟨g, 12, none⟩ = some (.int .i64 fn.line) ∧ w.cell? ⟨g, 13, none⟩ = some (.int .i64 fn.col) ∧ w.cell? ⟨g, 14, none⟩ = some (.bool pr) ∧ w.cell? ⟨g, 15, none⟩ = some (.slice ap np cp)) :
    Calls Tryd.prog 116 #[.pointer (some ⟨g, 0, none⟩)] w fun e w' => e = .returned (.agg (stmA k lb ky fn pr (.slice aw nw cw) (.slice ap np cp))) ∧ Below w.heap.size w w' := by
  have hg : g < w.heap.size := World.block_lt_of_cell? _ _ h.1
  obtain ⟨w1, hw1⟩ : ∃ w1, w1 = w.alloc (.cells #[.int .i64 0, .string ⟨#[]⟩, .int .i64 0, .int .i64 0, .int .i64 0, .string ⟨#[]⟩, .int .i64 0, .int .i64 0, .int .i64 0, .bool false, .slice none 0 0, .slice none 0 0, .string ⟨#[]⟩, .int .i64 0, .int .i64 0, .int .i64 0] 36) := ⟨_, rfl⟩
  have b1 : Below w.heap.size w w1 := by rw [hw1]; exact below_alloc _ _
  have hk1 : w1.heap[w.heap.size]? = some (.cells #[.int .i64 0, .string ⟨#[]⟩, .int .i64 0, .int .i64 0, .int .i64 0, .string ⟨#[]⟩, .int .i64 0, .int .i64 0, .int .i64 0, .bool false, .slice none 0 0, .slice none 0 0, .string ⟨#[]⟩, .int .i64 0, .int .i64 0, .int .i64 0] 36 (0, 0)) := by rw [hw1]; exact heap_alloc_new w _
  obtain ⟨B, hD⟩ : ∃ B, w.heap.size = B := ⟨_, rfl⟩
  have CS : Hid (w1.cell? ⟨g, 0, none⟩ = some (.int .i64 k) ∧ w1.cell? ⟨g, 1, none⟩ = some (.string lb.text) ∧ w1.cell? ⟨g, 2, none⟩ = some (.int .i64 lb.off) ∧ w1.cell? ⟨g, 3, none⟩ = some (.int .i64 lb.line) ∧ w1.cell? ⟨g, 4, none⟩ = some (.int .i64 lb.col) ∧ w1.cell? ⟨g, 5, none⟩ = some (.string ky.text) ∧ w1.cell? ⟨g, 6, none⟩ = some (.int .i64 ky.off) ∧ w1.cell? ⟨g, 7, none⟩ = some (.int .i64 ky.line) ∧ w1.cell? ⟨g, 8, none⟩ = some (.int .i64 ky.col) ∧ w1.cell? ⟨g, 9, none⟩ = some (.slice aw nw cw) ∧ w1.cell? ⟨g, 10, none⟩ = some (.string fn.text) ∧ w1.cell? ⟨g, 11, none⟩ = some (.int .i64 fn.off) ∧ w1.cell? ⟨g, 12, none⟩ = some (.int .i64 fn.line) ∧ w1.cell? ⟨g, 13, none⟩ = some (.int .i64 fn.col) ∧ w1.cell? ⟨g, 14, none⟩ = some (.bool pr) ∧ w1.cell? ⟨g, 15, none⟩ = some (.slice ap np cp)) := by
    have o : ∀ i, w1.cell? ⟨g, i, none⟩ = w.cell? ⟨g, i, none⟩ := fun i => b1.cell (p := ⟨g, i, none⟩) hg
    have h' := h
    simp only [← o] at h'
    exact h'
  have TC : Hid _ := toldC_any w1 g k lb ky fn aw nw cw (by have h := CS.out; exact ⟨h.1, h.2.1, h.2.2.1, h.2.2.2.1, h.2.2.2.2.1, h.2.2.2.2.2.1, h.2.2.2.2.2.2.1, h.2.2.2.2.2.2.2.1, h.2.2.2.2.2.2.2.2.1, h.2.2.2.2.2.2.2.2.2.1, h.2.2.2.2.2.2.2.2.2.2.1, h.2.2.2.2.2.2.2.2.2.2.2.1, h.2.2.2.2.2.2.2.2.2.2.2.2.1, h.2.2.2.2.2.2.2.2.2.2.2.2.2.1⟩)
  rw [hD] at hk1 b1
  have HG : Hid (g < w1.heap.size) := Nat.lt_of_lt_of_le hg b1.size
  have HW1 : Hid (w.alloc (.cells #[.int .i64 0, .string ⟨#[]⟩, .int .i64 0, .int .i64 0, .int .i64 0, .string ⟨#[]⟩, .int .i64 0, .int .i64 0, .int .i64 0, .bool false, .slice none 0 0, .slice none 0 0, .string ⟨#[]⟩, .int .i64 0, .int .i64 0, .int .i64 0] 36) = w1) := hw1.symm
  have HB : Hid (Below B w w1) := b1
  have HK1 : Hid (w1.heap[B]? = some (.cells #[.int .i64 0, .string ⟨#[]⟩, .int .i64 0, .int .i64 0, .int .i64 0, .string ⟨#[]⟩, .int .i64 0, .int .i64 0, .int .i64 0, .bool false, .slice none 0 0, .slice none 0 0, .string ⟨#[]⟩, .int .i64 0, .int .i64 0, .int .i64 0] 36 (0, 0))) := hk1
  have HD : Hid (w.heap.size = B) := hD
  clear hw1 b1 hk1 hD h hg
  go_enter Tryd.func116, Tryd.ntmps116
  go_upto_region 1 with fail
  rw [HW1.out, HD.out]
  clear HW1
  go_wp2_with fail
  refine Calls.mono TC.out ?_
  rintro e w2 ⟨rfl, hb2⟩
  unfold stmA
  have HB2 : Hid (Below w1.heap.size w1 w2) := hb2
  obtain ⟨w3, hw3⟩ : ∃ w3, w3 = w2.alloc (.cells #[.int .i64 k, .string lb.text, .int .i64 lb.off, .int .i64 lb.line, .int .i64 lb.col, .string ky.text, .int .i64 ky.off, .int .i64 ky.line, .int .i64 ky.col, .bool false, .slice aw nw cw, .slice none 0 0, .string fn.text, .int .i64 fn.off, .int .i64 fn.line, .int .i64 fn.col] 36) := ⟨_, rfl⟩
  have b3 : Below w1.heap.size w1 w3 := by rw [hw3]; exact hb2.alloc hb2.size _
  have hk3 : w3.heap[w2.heap.size]? = some (.cells #[.int .i64 k, .string lb.text, .int .i64 lb.off, .int .i64 lb.line, .int .i64 lb.col, .string ky.text, .int .i64 ky.off, .int .i64 ky.line, .int .i64 ky.col, .bool false, .slice aw nw cw, .slice none 0 0, .string fn.text, .int .i64 fn.off, .int .i64 fn.line, .int .i64 fn.col] 36 (0, 0)) := by rw [hw3]; exact heap_alloc_new w2 _
  have hs3 : w1.heap.size ≤ w2.heap.size := hb2.size
  obtain ⟨D, hD⟩ : ∃ D, w2.heap.size = D := ⟨_, rfl⟩
  rw [hD] at hk3 hs3
  have HB3 : Hid (Below w1.heap.size w1 w3) := b3
  have HS3 : Hid (w1.heap.size ≤ D) := hs3
  have Kw3 : Hid (w3.heap[D]? = some (.cells #[.int .i64 k, .string lb.text, .int .i64 lb.off, .int .i64 lb.line, .int .i64 lb.col, .string ky.text, .int .i64 ky.off, .int .i64 ky.line, .int .i64 ky.col, .bool false, .slice aw nw cw, .slice none 0 0, .string fn.text, .int .i64 fn.off, .int .i64 fn.line, .int .i64 fn.col] 36 (0, 0))) := hk3
  have HW3 : Hid (w2.alloc (.cells #[.int .i64 k, .string lb.text, .int .i64 lb.off, .int .i64 lb.line, .int .i64 lb.col, .string ky.text, .int .i64 ky.off, .int .i64 ky.line, .int .i64 ky.col, .bool false, .slice aw nw cw, .slice none 0 0, .string fn.text, .int .i64 fn.off, .int .i64 fn.line, .int .i64 fn.col] 36) = w3) := hw3.symm
  have HD3 : Hid (w2.heap.size = D) := hD
  clear hw3 b3 hk3 hD hs3 hb2 TC
  go_upto_region 2 with fail
  rw [HW3.out, HD3.out]
  clear HW3 HD3 HB2
  have Cw4 : Hid (M.Ch (fun b => b = D) w3 w3.drew) := ⟨rfl, rfl, rfl, Nat.le_refl _, fun _ _ _ => rfl⟩
  have BC : Hid (∀ wx, M.Ch (fun b => b = D) w3 wx → wx.cell? ⟨g, 14, none⟩ = some (.bool pr) ∧ wx.cell? ⟨g, 15, none⟩ = some (.slice ap np cp)) := fun wx hx => by
    have o : ∀ i, wx.cell? ⟨g, i, none⟩ = w1.cell? ⟨g, i, none⟩ := fun i => by
      have h1 := hx.block g (Nat.lt_of_lt_of_le HG.out HB3.out.size) (by have := HG.out; have := HS3.out; omega)
      have h2 := HB3.out.cell (p := ⟨g, i, none⟩) HG.out
      rw [← h2]
      simp only [World.cell?, h1]
    rw [o, o]
    exact CS.out.2.2.2.2.2.2.2.2.2.2.2.2.2.2
  refine wp_region_held_drew (S := fun w' => w'.cell? ⟨g, 14, none⟩ = some (.bool pr) ∧ w'.cell? ⟨g, 15, none⟩ = some (.slice ap np cp)) (by kernel_rfl) ?_ (fun hHeld => ?_)
  · exact BC.out _ Cw4.out
  obtain ⟨w4, hw4⟩ : ∃ w4, w4 = w3.drew := ⟨_, rfl⟩
  have Kw4 : Hid (w4.heap[D]? = some (.cells #[.int .i64 k, .string lb.text, .int .i64 lb.off, .int .i64 lb.line, .int .i64 lb.col, .string ky.text, .int .i64 ky.off, .int .i64 ky.line, .int .i64 ky.col, .bool false, .slice aw nw cw, .slice none 0 0, .string fn.text, .int .i64 fn.off, .int .i64 fn.line, .int .i64 fn.col] 36 (0, 0))) := by show _ = _; rw [hw4]; exact Kw3.out
  rw [← hw4] at Cw4 hHeld
  rw [← hw4]
  clear hw4 Kw3
  refine wpAnyH_take (i := 0) (oi := { dst := some 8, op := Op.move (Operand.tmp 0), type := 116, pos := "statement.go:131", after := #[], guard := none }) (v := ?_) rfl (by kernel_rfl) (by kernel_rfl) (by kernel_rfl) (fun _ _ _ h => h) (Or.inl ⟨by rfl, ?_⟩) hHeld ?_
  rotate_left
  · (intro w hSw; (try dsimp only at hSw); go_simp; try with_reducible rfl)
  try simp only [Act.put, List.setIfInBounds_toArray, List.set_cons_zero, List.set_cons_succ]
  refine wpAnyH_take (i := 1) (oi := { dst := some 9, op := Op.nilCheck (Operand.tmp 8), type := 0, pos := "statement.go:131", after := #[{ on := 0, ground := Ground.data }], guard := none }) (v := ?_) rfl (by kernel_rfl) (by kernel_rfl) (by kernel_rfl) (fun _ _ _ h => h) (Or.inl ⟨by rfl, ?_⟩) hHeld ?_
  rotate_left
  · (intro w hSw; (try dsimp only at hSw); go_simp; try with_reducible rfl)
  try simp only [Act.put, List.setIfInBounds_toArray, List.set_cons_zero, List.set_cons_succ]
  refine wpAnyH_take (i := 2) (oi := { dst := some 10, op := Op.fieldAddr 120 (Operand.tmp 9) 1, type := 0, pos := "statement.go:131", after := #[{ on := 1, ground := Ground.data }], guard := none }) (v := ?_) rfl (by kernel_rfl) (by kernel_rfl) (by kernel_rfl) (fun _ _ _ h => h) (Or.inl ⟨by rfl, ?_⟩) hHeld ?_
  rotate_left
  · (intro w hSw; (try dsimp only at hSw); go_simp; try with_reducible rfl)
  try simp only [Act.put, List.setIfInBounds_toArray, List.set_cons_zero, List.set_cons_succ]
  refine wpAnyH_take (i := 3) (oi := { dst := some 11, op := Op.load 4 (Operand.tmp 10), type := 4, pos := "statement.go:131", after := #[{ on := 2, ground := Ground.data }], guard := none }) (v := ?_) rfl (by kernel_rfl) (by kernel_rfl) (by kernel_rfl) (fun _ _ _ h => h) (Or.inl ⟨by rfl, ?_⟩) hHeld ?_
  rotate_left
  · (intro w hSw; (try dsimp only at hSw); go_simp; try with_reducible rfl)
  try simp only [Act.put, List.setIfInBounds_toArray, List.set_cons_zero, List.set_cons_succ]
  refine wpAnyH_take (i := 4) (oi := { dst := some 12, op := Op.move (Operand.tmp 0), type := 116, pos := "statement.go:131", after := #[{ on := 9, ground := Ground.gcOnly Departure.lateStores }], guard := none }) (v := ?_) rfl (by kernel_rfl) (by kernel_rfl) (by kernel_rfl) (fun _ _ _ h => h) (Or.inl ⟨by rfl, ?_⟩) hHeld ?_
  rotate_left
  · (intro w hSw; (try dsimp only at hSw); go_simp; try with_reducible rfl)
  try simp only [Act.put, List.setIfInBounds_toArray, List.set_cons_zero, List.set_cons_succ]
  refine wpAnyH_take (i := 5) (oi := { dst := some 13, op := Op.nilCheck (Operand.tmp 12), type := 0, pos := "statement.go:131", after := #[{ on := 4, ground := Ground.data }, { on := 9, ground := Ground.gcOnly Departure.lateStores }], guard := none }) (v := ?_) rfl (by kernel_rfl) (by kernel_rfl) (by kernel_rfl) (fun _ _ _ h => h) (Or.inl ⟨by rfl, ?_⟩) hHeld ?_
  rotate_left
  · (intro w hSw; (try dsimp only at hSw); go_simp; try with_reducible rfl)
  try simp only [Act.put, List.setIfInBounds_toArray, List.set_cons_zero, List.set_cons_succ]
  refine wpAnyH_take (i := 6) (oi := { dst := some 14, op := Op.fieldAddr 120 (Operand.tmp 13) 2, type := 0, pos := "statement.go:131", after := #[{ on := 5, ground := Ground.data }, { on := 9, ground := Ground.gcOnly Departure.lateStores }], guard := none }) (v := ?_) rfl (by kernel_rfl) (by kernel_rfl) (by kernel_rfl) (fun _ _ _ h => h) (Or.inl ⟨by rfl, ?_⟩) hHeld ?_
  rotate_left
  · (intro w hSw; (try dsimp only at hSw); go_simp; try with_reducible rfl)
  try simp only [Act.put, List.setIfInBounds_toArray, List.set_cons_zero, List.set_cons_succ]
  refine wpAnyH_take (i := 7) (oi := { dst := some 15, op := Op.load 31 (Operand.tmp 14), type := 31, pos := "statement.go:131", after := #[{ on := 6, ground := Ground.data }, { on := 9, ground := Ground.gcOnly Departure.lateStores }], guard := none }) (v := ?_) rfl (by kernel_rfl) (by kernel_rfl) (by kernel_rfl) (fun _ _ _ h => h) (Or.inl ⟨by rfl, ?_⟩) hHeld ?_
  rotate_left
  · (intro w hSw; (try dsimp only at hSw); go_simp; try with_reducible rfl)
  try simp only [Act.put, List.setIfInBounds_toArray, List.set_cons_zero, List.set_cons_succ]
  refine wpAnyH_take (i := 8) (oi := { dst := some 16, op := Op.fieldAddr 36 (Operand.tmp 3) 3, type := 0, pos := "statement.go:131", after := #[{ on := 0, ground := Ground.phase }, { on := 1, ground := Ground.phase }, { on := 2, ground := Ground.phase }, { on := 3, ground := Ground.phase }, { on := 4, ground := Ground.textOnly Departure.lateStores }, { on := 5, ground := Ground.textOnly Departure.lateStores }, { on := 6, ground := Ground.textOnly Departure.lateStores }, { on := 7, ground := Ground.textOnly Departure.lateStores }], guard := none }) (v := ?_) rfl (by kernel_rfl) (by kernel_rfl) (by kernel_rfl) (fun _ _ _ h => h) (Or.inl ⟨by rfl, ?_⟩) hHeld ?_
  rotate_left
  · (intro w hSw; (try dsimp only at hSw); go_simp; try with_reducible rfl)
  try simp only [Act.put, List.setIfInBounds_toArray, List.set_cons_zero, List.set_cons_succ]
  refine wpAnyH_ready (rs := [9]) (by kernel_rfl) (by simp) ?_
  refine AllReadyH.cons (o := { dst := none, op := Op.store 4 (Operand.tmp 16) (Operand.tmp 11), type := 0, pos := "statement.go:131", after := #[{ on := 8, ground := Ground.data }, { on := 3, ground := Ground.data }, { on := 0, ground := Ground.phase }, { on := 1, ground := Ground.phase }, { on := 2, ground := Ground.phase }, { on := 3, ground := Ground.phase }, { on := 4, ground := Ground.textOnly Departure.lateStores }, { on := 5, ground := Ground.textOnly Departure.lateStores }, { on := 6, ground := Ground.textOnly Departure.lateStores }, { on := 7, ground := Ground.textOnly Departure.lateStores }], guard := none }) rfl (fun K hK => ?_) AllReadyH.nil
  obtain ⟨w5, hw5⟩ : ∃ w5, w5 = w4.setCell ⟨D, 9, none⟩ (.bool pr) := ⟨_, rfl⟩
  have Kw5 : Hid (w5.heap[D]? = some (.cells #[.int .i64 k, .string lb.text, .int .i64 lb.off, .int .i64 lb.line, .int .i64 lb.col, .string ky.text, .int .i64 ky.off, .int .i64 ky.line, .int .i64 ky.col, .bool pr, .slice aw nw cw, .slice none 0 0, .string fn.text, .int .i64 fn.off, .int .i64 fn.line, .int .i64 fn.col] 36 (0, 0))) := by show _ = _; rw [hw5]; exact M.heap_set_same Kw4.out
  have Cw5 : Hid (M.Ch (fun b => b = D) w3 w5) := by show M.Ch _ _ _; rw [hw5]; exact Cw4.out.trans (M.ch_set _ _ _ _)
  have gc : w4.cell? ⟨D, 9, none⟩ = some (.bool false) := M.cell_whole Kw4.out 9
  have gf : w4.frozen? ⟨D, 9, none⟩ = false := by simp [World.frozen?, Kw4.out]
  go_simp
  rw [← hw5]
  clear hw5 gc gf
  refine hK.out _ _ ?_ (fun hHeld_9 => ?_)
  · exact BC.out _ Cw5.out
  clear hK K
  try simp only [Act.put, List.setIfInBounds_toArray, List.set_cons_zero, List.set_cons_succ]
  refine wpAnyH_take (i := 10) (oi := { dst := some 17, op := Op.fieldAddr 36 (Operand.tmp 3) 5, type := 0, pos := "statement.go:131", after := #[{ on := 0, ground := Ground.phase }, { on := 1, ground := Ground.phase }, { on := 2, ground := Ground.phase }, { on := 3, ground := Ground.phase }, { on := 4, ground := Ground.phase }, { on := 5, ground := Ground.phase }, { on := 6, ground := Ground.phase }, { on := 7, ground := Ground.phase }, { on := 8, ground := Ground.phase }, { on := 9, ground := Ground.phase }], guard := none }) (v := ?_) rfl (by kernel_rfl) (by kernel_rfl) (by kernel_rfl) (fun _ _ _ h => h) (Or.inl ⟨by rfl, ?_⟩) hHeld_9 ?_
  rotate_left
  · (intro w hSw; (try dsimp only at hSw); go_simp; try with_reducible rfl)
  try simp only [Act.put, List.setIfInBounds_toArray, List.set_cons_zero, List.set_cons_succ]
  refine wpAnyH_ready (rs := [11]) (by kernel_rfl) (by simp) ?_
  refine AllReadyH.cons (o := { dst := none, op := Op.store 31 (Operand.tmp 17) (Operand.tmp 15), type := 0, pos := "statement.go:131", after := #[{ on := 10, ground := Ground.data }, { on := 7, ground := Ground.data }, { on := 9, ground := Ground.chain }, { on := 0, ground := Ground.phase }, { on := 1, ground := Ground.phase }, { on := 2, ground := Ground.phase }, { on := 3, ground := Ground.phase }, { on := 4, ground := Ground.phase }, { on := 5, ground := Ground.phase }, { on := 6, ground := Ground.phase }, { on := 7, ground := Ground.phase }, { on := 8, ground := Ground.phase }, { on := 9, ground := Ground.phase }], guard := none }) rfl (fun K hK => ?_) AllReadyH.nil
  obtain ⟨w6, hw6⟩ : ∃ w6, w6 = w5.setCell ⟨D, 11, none⟩ (.slice ap np cp) := ⟨_, rfl⟩
  have Kw6 : Hid (w6.heap[D]? = some (.cells #[.int .i64 k, .string lb.text, .int .i64 lb.off, .int .i64 lb.line, .int .i64 lb.col, .string ky.text, .int .i64 ky.off, .int .i64 ky.line, .int .i64 ky.col, .bool pr, .slice aw nw cw, .slice ap np cp, .string fn.text, .int .i64 fn.off, .int .i64 fn.line, .int .i64 fn.col] 36 (0, 0))) := by show _ = _; rw [hw6]; exact M.heap_set_same Kw5.out
  have Cw6 : Hid (M.Ch (fun b => b = D) w3 w6) := by show M.Ch _ _ _; rw [hw6]; exact Cw5.out.trans (M.ch_set _ _ _ _)
  have gc : w5.cell? ⟨D, 11, none⟩ = some (.slice none 0 0) := M.cell_whole Kw5.out 11
  have gf : w5.frozen? ⟨D, 11, none⟩ = false := by simp [World.frozen?, Kw5.out]
  go_simp
  rw [← hw6]
  clear hw6 gc gf
  refine hK.out _ _ ?_ (fun hHeld_11 => ?_)
  · exact BC.out _ Cw6.out
  clear hK K
  try simp only [Act.put, List.setIfInBounds_toArray, List.set_cons_zero, List.set_cons_succ]
  refine wpAnyH_done (by kernel_rfl) ?_ _
  go_upto_region 3 with fail
  have hBl : B < w1.heap.size := (Array.getElem?_eq_some_iff.1 HK1.out).1
  have KB6 : Hid (w6.heap[B]? = some (.cells #[.int .i64 0, .string ⟨#[]⟩, .int .i64 0, .int .i64 0, .int .i64 0, .string ⟨#[]⟩, .int .i64 0, .int .i64 0, .int .i64 0, .bool false, .slice none 0 0, .slice none 0 0, .string ⟨#[]⟩, .int .i64 0, .int .i64 0, .int .i64 0] 36 (0, 0))) := by
    have h1 := Cw6.out.block B (Nat.lt_of_lt_of_le hBl HB3.out.size) (by have := HS3.out; omega)
    exact h1.trans ((HB3.out.block B hBl).trans HK1.out)
  have BD6 : Hid (Below B w w6) := HB.out.trans ((HB3.out.trans (Cw6.out.below HB3.out.size fun b e => by have := HS3.out; omega)).mono (by omega))
  clear hHeld_9 hHeld_11 Kw4 Kw5 Cw4 Cw5 Cw6 BC
  refine wp_region_list ?_
  refine wpList_load_row rfl 36 _ rfl D rfl 36 #[.int .i64 k, .string lb.text, .int .i64 lb.off, .int .i64 lb.line, .int .i64 lb.col, .string ky.text, .int .i64 ky.off, .int .i64 ky.line, .int .i64 ky.col, .bool pr, .slice aw nw cw, .slice ap np cp, .string fn.text, .int .i64 fn.off, .int .i64 fn.line, .int .i64 fn.col] (0, 0) _ Kw6.out Tryd.underlying36 rfl (by kernel_rfl) ?_
  refine wpList_store_mid rfl 36 _ _ rfl B 0 #[.int .i64 k, .string lb.text, .int .i64 lb.off, .int .i64 lb.line, .int .i64 lb.col, .string ky.text, .int .i64 ky.off, .int .i64 ky.line, .int .i64 ky.col, .bool pr, .slice aw nw cw, .slice ap np cp, .string fn.text, .int .i64 fn.off, .int .i64 fn.line, .int .i64 fn.col] rfl rfl (show w6.there B 0 16 from there_whole (cs := #[.int .i64 0, .string ⟨#[]⟩, .int .i64 0, .int .i64 0, .int .i64 0, .string ⟨#[]⟩, .int .i64 0, .int .i64 0, .int .i64 0, .bool false, .slice none 0 0, .slice none 0 0, .string ⟨#[]⟩, .int .i64 0, .int .i64 0, .int .i64 0]) (t := 36) KB6.out) (by kernel_rfl) (by simp [Value.oneCell']) ?_
  obtain ⟨wz, hwz⟩ : ∃ wz, wz = w6.setCells B 0 (#[.int .i64 k, .string lb.text, .int .i64 lb.off, .int .i64 lb.line, .int .i64 lb.col, .string ky.text, .int .i64 ky.off, .int .i64 ky.line, .int .i64 ky.col, .bool pr, .slice aw nw cw, .slice ap np cp, .string fn.text, .int .i64 fn.off, .int .i64 fn.line, .int .i64 fn.col] : Array Value).toList := ⟨_, rfl⟩
  have KZ : Hid (wz.heap[B]? = some (.cells #[.int .i64 k, .string lb.text, .int .i64 lb.off, .int .i64 lb.line, .int .i64 lb.col, .string ky.text, .int .i64 ky.off, .int .i64 ky.line, .int .i64 ky.col, .bool pr, .slice aw nw cw, .slice ap np cp, .string fn.text, .int .i64 fn.off, .int .i64 fn.line, .int .i64 fn.col] 36 (0, 0))) := by show _ = _; rw [hwz]; exact setCells_whole B 36 [.int .i64 k, .string lb.text, .int .i64 lb.off, .int .i64 lb.line, .int .i64 lb.col, .string ky.text, .int .i64 ky.off, .int .i64 ky.line, .int .i64 ky.col, .bool pr, .slice aw nw cw, .slice ap np cp, .string fn.text, .int .i64 fn.off, .int .i64 fn.line, .int .i64 fn.col] [] [.int .i64 0, .string ⟨#[]⟩, .int .i64 0, .int .i64 0, .int .i64 0, .string ⟨#[]⟩, .int .i64 0, .int .i64 0, .int .i64 0, .bool false, .slice none 0 0, .slice none 0 0, .string ⟨#[]⟩, .int .i64 0, .int .i64 0, .int .i64 0] w6 KB6.out rfl
  have BZ : Hid (Below B w wz) := by show Below _ _ _; rw [hwz]; exact setCells_below (Nat.le_refl _) _ _ _ BD6.out
  rw [← hwz]
  clear hwz
  go_wp2_with fail
  refine bodyPost_ret (results_cell_row Tryd.results116 _ _ B 36 #[.int .i64 k, .string lb.text, .int .i64 lb.off, .int .i64 lb.line, .int .i64 lb.col, .string ky.text, .int .i64 ky.off, .int .i64 ky.line, .int .i64 ky.col, .bool pr, .slice aw nw cw, .slice ap np cp, .string fn.text, .int .i64 fn.off, .int .i64 fn.line, .int .i64 fn.col] (0, 0) _ rfl KZ.out Tryd.underlying36 rfl (by kernel_rfl)) rfl ?_
  exact ⟨rfl, by rw [HD.out]; exact BZ.out⟩
end Go.Proofs.YtipfhfeaalbmcaaDoor
