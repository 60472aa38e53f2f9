/- The reader's small questions: does a label wait; what is told of a statement. -/
import Derived.Test.YtipfhfeaalbmcaaDoorStore
namespace Go.Proofs.YtipfhfeaalbmcaaDoor
open Go.RowKit

set_option maxRecDepth 100000 in
theorem waits_any (w : World) (R : Nat) (s : ByteArray) (h : w.cell? ⟨R, 2, none⟩ = some (.string s)) :
    Calls Tryd.prog 45 #[.pointer (some ⟨R, 0, none⟩)] w fun e w' => e = .returned (.bool (!s.toList.isEmpty)) ∧ w' = w := by
  go_enter Tryd.func45, Tryd.ntmps45
  go_wp2
  go_ret
  exact ⟨rfl, rfl⟩

set_option maxRecDepth 100000 in
set_option maxHeartbeats 4000000 in
theorem toldC_any (w : World) (g : Nat) (k : Int) (lb ky fn : Tok) (aw : Option Addr) (nw cw : Nat) (h : w.cell? ⟨g, 0, none⟩ = some (.int .i64 k) ∧ w.cell? ⟨g, 1, none⟩ = some (.string lb.text) ∧ w.cell? ⟨g, 2, none⟩ = some (.int .i64 lb.off) ∧ w.cell? ⟨g, 3, none⟩ = some (.int .i64 lb.line) ∧ w.cell? ⟨g, 4, none⟩ = some (.int .i64 lb.col) ∧ w.cell? ⟨g, 5, none⟩ = some (.string ky.text) ∧ w.cell? ⟨g, 6, none⟩ = some (.int .i64 ky.off) ∧ w.cell? ⟨g, 7, none⟩ = some (.int .i64 ky.line) ∧ w.cell? ⟨g, 8, none⟩ = some (.int .i64 ky.col) ∧ w.cell? ⟨g, 9, none⟩ = some (.slice aw nw cw) ∧ w.cell? ⟨g, 10, none⟩ = some (.string fn.text) ∧ w.cell? ⟨g, 11, none⟩ = some (.int .i64 fn.off) ∧ w.cell? ⟨g, 12, none⟩ = some (.int .i64 fn.line) ∧ w.cell? ⟨g, 13, none⟩ = some (.int .i64 fn.col)) :
    Calls Tryd.prog 117 #[.pointer (some ⟨g, 0, none⟩)] w fun e w' => e = .returned (.agg (stmA k lb ky fn false (.slice aw nw cw) (.slice none 0 0))) ∧ Below w.heap.size w w' := by
  have hg : g < w.heap.size := World.block_lt_of_cell? _ _ h.1
  obtain ⟨w1, hw1⟩ : ∃ w1, w1 = w.alloc (.cells #[.int .i64 0, .string ⟨#[]⟩, .int .i64 0, .int .i64 0, .int .i64 0, .string ⟨#[]⟩, .int .i64 0, .int .i64 0, .int .i64 0, .bool false, .slice none 0 0, .slice none 0 0, .string ⟨#[]⟩, .int .i64 0, .int .i64 0, .int .i64 0] 36) := ⟨_, rfl⟩
  have b1 : Below w.heap.size w w1 := by rw [hw1]; exact below_alloc _ _
  have hk1 : w1.drew.heap[w.heap.size]? = some (.cells #[.int .i64 0, .string ⟨#[]⟩, .int .i64 0, .int .i64 0, .int .i64 0, .string ⟨#[]⟩, .int .i64 0, .int .i64 0, .int .i64 0, .bool false, .slice none 0 0, .slice none 0 0, .string ⟨#[]⟩, .int .i64 0, .int .i64 0, .int .i64 0] 36 (0, 0)) := by rw [hw1]; exact heap_alloc_new w _
  obtain ⟨B, hD⟩ : ∃ B, w.heap.size = B := ⟨_, rfl⟩
  have CS : Hid (w1.drew.cell? ⟨g, 0, none⟩ = some (.int .i64 k) ∧ w1.drew.cell? ⟨g, 1, none⟩ = some (.string lb.text) ∧ w1.drew.cell? ⟨g, 2, none⟩ = some (.int .i64 lb.off) ∧ w1.drew.cell? ⟨g, 3, none⟩ = some (.int .i64 lb.line) ∧ w1.drew.cell? ⟨g, 4, none⟩ = some (.int .i64 lb.col) ∧ w1.drew.cell? ⟨g, 5, none⟩ = some (.string ky.text) ∧ w1.drew.cell? ⟨g, 6, none⟩ = some (.int .i64 ky.off) ∧ w1.drew.cell? ⟨g, 7, none⟩ = some (.int .i64 ky.line) ∧ w1.drew.cell? ⟨g, 8, none⟩ = some (.int .i64 ky.col) ∧ w1.drew.cell? ⟨g, 9, none⟩ = some (.slice aw nw cw) ∧ w1.drew.cell? ⟨g, 10, none⟩ = some (.string fn.text) ∧ w1.drew.cell? ⟨g, 11, none⟩ = some (.int .i64 fn.off) ∧ w1.drew.cell? ⟨g, 12, none⟩ = some (.int .i64 fn.line) ∧ w1.drew.cell? ⟨g, 13, none⟩ = some (.int .i64 fn.col)) := by
    have o : ∀ i, w1.drew.cell? ⟨g, i, none⟩ = w.cell? ⟨g, i, none⟩ := fun i => (below_drewN b1 1).cell (p := ⟨g, i, none⟩) hg
    have h' := h
    simp only [← o] at h'
    exact h'
  rw [hD] at hk1 b1
  have HG : Hid (g ≠ B) := by show g ≠ B; omega
  have HW1 : Hid (w.alloc (.cells #[.int .i64 0, .string ⟨#[]⟩, .int .i64 0, .int .i64 0, .int .i64 0, .string ⟨#[]⟩, .int .i64 0, .int .i64 0, .int .i64 0, .bool false, .slice none 0 0, .slice none 0 0, .string ⟨#[]⟩, .int .i64 0, .int .i64 0, .int .i64 0] 36) = w1) := hw1.symm
  have HB : Hid (Below B w w1) := b1
  have HK1 : Hid (w1.drew.heap[B]? = some (.cells #[.int .i64 0, .string ⟨#[]⟩, .int .i64 0, .int .i64 0, .int .i64 0, .string ⟨#[]⟩, .int .i64 0, .int .i64 0, .int .i64 0, .bool false, .slice none 0 0, .slice none 0 0, .string ⟨#[]⟩, .int .i64 0, .int .i64 0, .int .i64 0] 36 (0, 0))) := hk1
  have HD : Hid (w.heap.size = B) := hD
  clear hw1 b1 hk1 hD h hg
  go_enter Tryd.func117, Tryd.ntmps117
  go_upto_region 1 with fail
  rw [HW1.out, HD.out]
  clear HW1
  refine wp_region_held_drew (S := fun w' => w'.cell? ⟨g, 0, none⟩ = some (.int .i64 k) ∧ w'.cell? ⟨g, 1, none⟩ = some (.string lb.text) ∧ w'.cell? ⟨g, 2, none⟩ = some (.int .i64 lb.off) ∧ w'.cell? ⟨g, 3, none⟩ = some (.int .i64 lb.line) ∧ w'.cell? ⟨g, 4, none⟩ = some (.int .i64 lb.col) ∧ w'.cell? ⟨g, 5, none⟩ = some (.string ky.text) ∧ w'.cell? ⟨g, 6, none⟩ = some (.int .i64 ky.off) ∧ w'.cell? ⟨g, 7, none⟩ = some (.int .i64 ky.line) ∧ w'.cell? ⟨g, 8, none⟩ = some (.int .i64 ky.col) ∧ w'.cell? ⟨g, 9, none⟩ = some (.slice aw nw cw) ∧ w'.cell? ⟨g, 10, none⟩ = some (.string fn.text) ∧ w'.cell? ⟨g, 11, none⟩ = some (.int .i64 fn.off) ∧ w'.cell? ⟨g, 12, none⟩ = some (.int .i64 fn.line) ∧ w'.cell? ⟨g, 13, none⟩ = some (.int .i64 fn.col)) (by kernel_rfl) ?_ (fun hHeld => ?_)
  · exact CS.out
  refine wpAnyH_take (i := 0) (oi := { dst := some 3, op := Op.move (Operand.tmp 0), type := 121, pos := "statement.go:126", after := #[], guard := none }) (v := ?_) rfl (by kernel_rfl) (by kernel_rfl) (by kernel_rfl) (fun _ _ _ h => h) (Or.inl ⟨by rfl, ?_⟩) hHeld ?_
  rotate_left
  · (intro w hSw; (try dsimp only at hSw); go_simp; try with_reducible rfl)
  try simp only [Act.put, List.setIfInBounds_toArray, List.set_cons_zero, List.set_cons_succ]
  refine wpAnyH_take (i := 1) (oi := { dst := some 4, op := Op.nilCheck (Operand.tmp 3), type := 0, pos := "statement.go:126", after := #[{ on := 0, ground := Ground.data }], guard := none }) (v := ?_) rfl (by kernel_rfl) (by kernel_rfl) (by kernel_rfl) (fun _ _ _ h => h) (Or.inl ⟨by rfl, ?_⟩) hHeld ?_
  rotate_left
  · (intro w hSw; (try dsimp only at hSw); go_simp; try with_reducible rfl)
  try simp only [Act.put, List.setIfInBounds_toArray, List.set_cons_zero, List.set_cons_succ]
  refine wpAnyH_take (i := 2) (oi := { dst := some 5, op := Op.fieldAddr 118 (Operand.tmp 4) 0, type := 0, pos := "statement.go:126", after := #[{ on := 1, ground := Ground.data }], guard := none }) (v := ?_) rfl (by kernel_rfl) (by kernel_rfl) (by kernel_rfl) (fun _ _ _ h => h) (Or.inl ⟨by rfl, ?_⟩) hHeld ?_
  rotate_left
  · (intro w hSw; (try dsimp only at hSw); go_simp; try with_reducible rfl)
  try simp only [Act.put, List.setIfInBounds_toArray, List.set_cons_zero, List.set_cons_succ]
  refine wpAnyH_take (i := 3) (oi := { dst := some 6, op := Op.load 3 (Operand.tmp 5), type := 3, pos := "statement.go:126", after := #[{ on := 2, ground := Ground.data }], guard := none }) (v := ?_) rfl (by kernel_rfl) (by kernel_rfl) (by kernel_rfl) (fun _ _ _ h => h) (Or.inl ⟨by rfl, ?_⟩) hHeld ?_
  rotate_left
  · (intro w hSw; (try dsimp only at hSw); go_simp; try with_reducible rfl)
  try simp only [Act.put, List.setIfInBounds_toArray, List.set_cons_zero, List.set_cons_succ]
  refine wpAnyH_take (i := 4) (oi := { dst := some 7, op := Op.move (Operand.tmp 0), type := 121, pos := "statement.go:126", after := #[], guard := none }) (v := ?_) rfl (by kernel_rfl) (by kernel_rfl) (by kernel_rfl) (fun _ _ _ h => h) (Or.inl ⟨by rfl, ?_⟩) hHeld ?_
  rotate_left
  · (intro w hSw; (try dsimp only at hSw); go_simp; try with_reducible rfl)
  try simp only [Act.put, List.setIfInBounds_toArray, List.set_cons_zero, List.set_cons_succ]
  refine wpAnyH_take (i := 5) (oi := { dst := some 8, op := Op.nilCheck (Operand.tmp 7), type := 0, pos := "statement.go:126", after := #[{ on := 4, ground := Ground.data }], guard := none }) (v := ?_) rfl (by kernel_rfl) (by kernel_rfl) (by kernel_rfl) (fun _ _ _ h => h) (Or.inl ⟨by rfl, ?_⟩) hHeld ?_
  rotate_left
  · (intro w hSw; (try dsimp only at hSw); go_simp; try with_reducible rfl)
  try simp only [Act.put, List.setIfInBounds_toArray, List.set_cons_zero, List.set_cons_succ]
  refine wpAnyH_take (i := 6) (oi := { dst := some 9, op := Op.fieldAddr 118 (Operand.tmp 8) 1, type := 0, pos := "statement.go:126", after := #[{ on := 5, ground := Ground.data }], guard := none }) (v := ?_) rfl (by kernel_rfl) (by kernel_rfl) (by kernel_rfl) (fun _ _ _ h => h) (Or.inl ⟨by rfl, ?_⟩) hHeld ?_
  rotate_left
  · (intro w hSw; (try dsimp only at hSw); go_simp; try with_reducible rfl)
  try simp only [Act.put, List.setIfInBounds_toArray, List.set_cons_zero, List.set_cons_succ]
  refine wpAnyH_take (i := 7) (oi := { dst := some 10, op := Op.load 34 (Operand.tmp 9), type := 34, pos := "statement.go:126", after := #[{ on := 6, ground := Ground.data }], guard := none }) (v := ?_) rfl (by kernel_rfl) (by kernel_rfl) (by kernel_rfl) (fun _ _ _ h => h) (Or.inl ⟨by rfl, ?_⟩) hHeld ?_
  rotate_left
  · (intro w hSw; (try dsimp only at hSw); go_simp; try with_reducible rfl)
  try simp only [Act.put, List.setIfInBounds_toArray, List.set_cons_zero, List.set_cons_succ]
  refine wpAnyH_take (i := 8) (oi := { dst := some 11, op := Op.move (Operand.tmp 0), type := 121, pos := "statement.go:126", after := #[], guard := none }) (v := ?_) rfl (by kernel_rfl) (by kernel_rfl) (by kernel_rfl) (fun _ _ _ h => h) (Or.inl ⟨by rfl, ?_⟩) hHeld ?_
  rotate_left
  · (intro w hSw; (try dsimp only at hSw); go_simp; try with_reducible rfl)
  try simp only [Act.put, List.setIfInBounds_toArray, List.set_cons_zero, List.set_cons_succ]
  refine wpAnyH_take (i := 9) (oi := { dst := some 12, op := Op.nilCheck (Operand.tmp 11), type := 0, pos := "statement.go:126", after := #[{ on := 8, ground := Ground.data }], guard := none }) (v := ?_) rfl (by kernel_rfl) (by kernel_rfl) (by kernel_rfl) (fun _ _ _ h => h) (Or.inl ⟨by rfl, ?_⟩) hHeld ?_
  rotate_left
  · (intro w hSw; (try dsimp only at hSw); go_simp; try with_reducible rfl)
  try simp only [Act.put, List.setIfInBounds_toArray, List.set_cons_zero, List.set_cons_succ]
  refine wpAnyH_take (i := 10) (oi := { dst := some 13, op := Op.fieldAddr 118 (Operand.tmp 12) 2, type := 0, pos := "statement.go:126", after := #[{ on := 9, ground := Ground.data }], guard := none }) (v := ?_) rfl (by kernel_rfl) (by kernel_rfl) (by kernel_rfl) (fun _ _ _ h => h) (Or.inl ⟨by rfl, ?_⟩) hHeld ?_
  rotate_left
  · (intro w hSw; (try dsimp only at hSw); go_simp; try with_reducible rfl)
  try simp only [Act.put, List.setIfInBounds_toArray, List.set_cons_zero, List.set_cons_succ]
  refine wpAnyH_take (i := 11) (oi := { dst := some 14, op := Op.load 34 (Operand.tmp 13), type := 34, pos := "statement.go:126", after := #[{ on := 10, ground := Ground.data }], guard := none }) (v := ?_) rfl (by kernel_rfl) (by kernel_rfl) (by kernel_rfl) (fun _ _ _ h => h) (Or.inl ⟨by rfl, ?_⟩) hHeld ?_
  rotate_left
  · (intro w hSw; (try dsimp only at hSw); go_simp; try with_reducible rfl)
  try simp only [Act.put, List.setIfInBounds_toArray, List.set_cons_zero, List.set_cons_succ]
  refine wpAnyH_take (i := 12) (oi := { dst := some 15, op := Op.move (Operand.tmp 0), type := 121, pos := "statement.go:126", after := #[], guard := none }) (v := ?_) rfl (by kernel_rfl) (by kernel_rfl) (by kernel_rfl) (fun _ _ _ h => h) (Or.inl ⟨by rfl, ?_⟩) hHeld ?_
  rotate_left
  · (intro w hSw; (try dsimp only at hSw); go_simp; try with_reducible rfl)
  try simp only [Act.put, List.setIfInBounds_toArray, List.set_cons_zero, List.set_cons_succ]
  refine wpAnyH_take (i := 13) (oi := { dst := some 16, op := Op.nilCheck (Operand.tmp 15), type := 0, pos := "statement.go:126", after := #[{ on := 12, ground := Ground.data }], guard := none }) (v := ?_) rfl (by kernel_rfl) (by kernel_rfl) (by kernel_rfl) (fun _ _ _ h => h) (Or.inl ⟨by rfl, ?_⟩) hHeld ?_
  rotate_left
  · (intro w hSw; (try dsimp only at hSw); go_simp; try with_reducible rfl)
  try simp only [Act.put, List.setIfInBounds_toArray, List.set_cons_zero, List.set_cons_succ]
  refine wpAnyH_take (i := 14) (oi := { dst := some 17, op := Op.fieldAddr 118 (Operand.tmp 16) 3, type := 0, pos := "statement.go:126", after := #[{ on := 13, ground := Ground.data }], guard := none }) (v := ?_) rfl (by kernel_rfl) (by kernel_rfl) (by kernel_rfl) (fun _ _ _ h => h) (Or.inl ⟨by rfl, ?_⟩) hHeld ?_
  rotate_left
  · (intro w hSw; (try dsimp only at hSw); go_simp; try with_reducible rfl)
  try simp only [Act.put, List.setIfInBounds_toArray, List.set_cons_zero, List.set_cons_succ]
  refine wpAnyH_take (i := 15) (oi := { dst := some 18, op := Op.load 31 (Operand.tmp 17), type := 31, pos := "statement.go:126", after := #[{ on := 14, ground := Ground.data }], guard := none }) (v := ?_) rfl (by kernel_rfl) (by kernel_rfl) (by kernel_rfl) (fun _ _ _ h => h) (Or.inl ⟨by rfl, ?_⟩) hHeld ?_
  rotate_left
  · (intro w hSw; (try dsimp only at hSw); go_simp; try with_reducible rfl)
  try simp only [Act.put, List.setIfInBounds_toArray, List.set_cons_zero, List.set_cons_succ]
  refine wpAnyH_take (i := 16) (oi := { dst := some 19, op := Op.move (Operand.tmp 0), type := 121, pos := "statement.go:126", after := #[], guard := none }) (v := ?_) rfl (by kernel_rfl) (by kernel_rfl) (by kernel_rfl) (fun _ _ _ h => h) (Or.inl ⟨by rfl, ?_⟩) hHeld ?_
  rotate_left
  · (intro w hSw; (try dsimp only at hSw); go_simp; try with_reducible rfl)
  try simp only [Act.put, List.setIfInBounds_toArray, List.set_cons_zero, List.set_cons_succ]
  refine wpAnyH_take (i := 17) (oi := { dst := some 20, op := Op.nilCheck (Operand.tmp 19), type := 0, pos := "statement.go:126", after := #[{ on := 16, ground := Ground.data }], guard := none }) (v := ?_) rfl (by kernel_rfl) (by kernel_rfl) (by kernel_rfl) (fun _ _ _ h => h) (Or.inl ⟨by rfl, ?_⟩) hHeld ?_
  rotate_left
  · (intro w hSw; (try dsimp only at hSw); go_simp; try with_reducible rfl)
  try simp only [Act.put, List.setIfInBounds_toArray, List.set_cons_zero, List.set_cons_succ]
  refine wpAnyH_take (i := 18) (oi := { dst := some 21, op := Op.fieldAddr 118 (Operand.tmp 20) 4, type := 0, pos := "statement.go:126", after := #[{ on := 17, ground := Ground.data }], guard := none }) (v := ?_) rfl (by kernel_rfl) (by kernel_rfl) (by kernel_rfl) (fun _ _ _ h => h) (Or.inl ⟨by rfl, ?_⟩) hHeld ?_
  rotate_left
  · (intro w hSw; (try dsimp only at hSw); go_simp; try with_reducible rfl)
  try simp only [Act.put, List.setIfInBounds_toArray, List.set_cons_zero, List.set_cons_succ]
  refine wpAnyH_take (i := 19) (oi := { dst := some 22, op := Op.load 34 (Operand.tmp 21), type := 34, pos := "statement.go:126", after := #[{ on := 18, ground := Ground.data }], guard := none }) (v := ?_) rfl (by kernel_rfl) (by kernel_rfl) (by kernel_rfl) (fun _ _ _ h => h) (Or.inl ⟨by rfl, ?_⟩) hHeld ?_
  rotate_left
  · (intro w hSw; (try dsimp only at hSw); go_simp; try with_reducible rfl)
  try simp only [Act.put, List.setIfInBounds_toArray, List.set_cons_zero, List.set_cons_succ]
  refine wpAnyH_take (i := 20) (oi := { dst := some 23, op := Op.build 36 #[(0, Operand.tmp 6), (1, Operand.tmp 10), (2, Operand.tmp 14), (4, Operand.tmp 18), (6, Operand.tmp 22)], type := 36, pos := "statement.go:126", after := #[{ on := 3, ground := Ground.data }, { on := 7, ground := Ground.data }, { on := 11, ground := Ground.data }, { on := 15, ground := Ground.data }, { on := 19, ground := Ground.data }], guard := none }) (v := ?_) rfl (by kernel_rfl) (by kernel_rfl) (by kernel_rfl) (fun _ _ _ h => h) (Or.inl ⟨by rfl, ?_⟩) hHeld ?_
  rotate_left
  · (intro w hSw; (try dsimp only at hSw); go_simp; try with_reducible rfl)
  try simp only [Act.put, List.setIfInBounds_toArray, List.set_cons_zero, List.set_cons_succ]
  refine wpAnyH_ready (rs := [21]) (by kernel_rfl) (by simp) ?_
  refine AllReadyH.cons (o := { dst := none, op := Op.store 36 (Operand.tmp 2) (Operand.tmp 23), type := 0, pos := "statement.go:126", after := #[{ on := 20, ground := Ground.data }, { on := 0, ground := Ground.phase }, { on := 1, ground := Ground.phase }, { on := 2, ground := Ground.phase }, { on := 3, ground := Ground.phase }, { on := 4, ground := Ground.phase }, { on := 5, ground := Ground.phase }, { on := 6, ground := Ground.phase }, { on := 7, ground := Ground.phase }, { on := 8, ground := Ground.phase }, { on := 9, ground := Ground.phase }, { on := 10, ground := Ground.phase }, { on := 11, ground := Ground.phase }, { on := 12, ground := Ground.phase }, { on := 13, ground := Ground.phase }, { on := 14, ground := Ground.phase }, { on := 15, ground := Ground.phase }, { on := 16, ground := Ground.phase }, { on := 17, ground := Ground.phase }, { on := 18, ground := Ground.phase }, { on := 19, ground := Ground.phase }, { on := 20, ground := Ground.phase }], guard := none }) rfl (fun K hK => ?_) AllReadyH.nil
  refine wp_store_mid 36 _ _ rfl B 0 #[.int .i64 k, .string lb.text, .int .i64 lb.off, .int .i64 lb.line, .int .i64 lb.col, .string ky.text, .int .i64 ky.off, .int .i64 ky.line, .int .i64 ky.col, .bool false, .slice aw nw cw, .slice none 0 0, .string fn.text, .int .i64 fn.off, .int .i64 fn.line, .int .i64 fn.col] rfl rfl (show w1.drew.there B 0 16 from there_whole (cs := #[.int .i64 0, .string ⟨#[]⟩, .int .i64 0, .int .i64 0, .int .i64 0, .string ⟨#[]⟩, .int .i64 0, .int .i64 0, .int .i64 0, .bool false, .slice none 0 0, .slice none 0 0, .string ⟨#[]⟩, .int .i64 0, .int .i64 0, .int .i64 0]) (t := 36) HK1.out) (by kernel_rfl) (by simp [Value.oneCell']) ?_
  obtain ⟨wz, hwz⟩ : ∃ wz, wz = w1.drew.setCells B 0 (#[.int .i64 k, .string lb.text, .int .i64 lb.off, .int .i64 lb.line, .int .i64 lb.col, .string ky.text, .int .i64 ky.off, .int .i64 ky.line, .int .i64 ky.col, .bool false, .slice aw nw cw, .slice none 0 0, .string fn.text, .int .i64 fn.off, .int .i64 fn.line, .int .i64 fn.col] : Array Value).toList := ⟨_, rfl⟩
  have KZ : Hid (wz.heap[B]? = some (.cells #[.int .i64 k, .string lb.text, .int .i64 lb.off, .int .i64 lb.line, .int .i64 lb.col, .string ky.text, .int .i64 ky.off, .int .i64 ky.line, .int .i64 ky.col, .bool false, .slice aw nw cw, .slice none 0 0, .string fn.text, .int .i64 fn.off, .int .i64 fn.line, .int .i64 fn.col] 36 (0, 0))) := by show _ = _; rw [hwz]; exact setCells_whole B 36 [.int .i64 k, .string lb.text, .int .i64 lb.off, .int .i64 lb.line, .int .i64 lb.col, .string ky.text, .int .i64 ky.off, .int .i64 ky.line, .int .i64 ky.col, .bool false, .slice aw nw cw, .slice none 0 0, .string fn.text, .int .i64 fn.off, .int .i64 fn.line, .int .i64 fn.col] [] [.int .i64 0, .string ⟨#[]⟩, .int .i64 0, .int .i64 0, .int .i64 0, .string ⟨#[]⟩, .int .i64 0, .int .i64 0, .int .i64 0, .bool false, .slice none 0 0, .slice none 0 0, .string ⟨#[]⟩, .int .i64 0, .int .i64 0, .int .i64 0] w1.drew HK1.out rfl
  have BZ : Hid (Below B w wz) := by show Below _ _ _; rw [hwz]; exact setCells_below (Nat.le_refl _) _ _ _ (below_drewN HB.out 1)
  have CZ : Hid (wz.cell? ⟨g, 0, none⟩ = some (.int .i64 k) ∧ wz.cell? ⟨g, 1, none⟩ = some (.string lb.text) ∧ wz.cell? ⟨g, 2, none⟩ = some (.int .i64 lb.off) ∧ wz.cell? ⟨g, 3, none⟩ = some (.int .i64 lb.line) ∧ wz.cell? ⟨g, 4, none⟩ = some (.int .i64 lb.col) ∧ wz.cell? ⟨g, 5, none⟩ = some (.string ky.text) ∧ wz.cell? ⟨g, 6, none⟩ = some (.int .i64 ky.off) ∧ wz.cell? ⟨g, 7, none⟩ = some (.int .i64 ky.line) ∧ wz.cell? ⟨g, 8, none⟩ = some (.int .i64 ky.col) ∧ wz.cell? ⟨g, 9, none⟩ = some (.slice aw nw cw) ∧ wz.cell? ⟨g, 10, none⟩ = some (.string fn.text) ∧ wz.cell? ⟨g, 11, none⟩ = some (.int .i64 fn.off) ∧ wz.cell? ⟨g, 12, none⟩ = some (.int .i64 fn.line) ∧ wz.cell? ⟨g, 13, none⟩ = some (.int .i64 fn.col)) := by
    have o : ∀ i, wz.cell? ⟨g, i, none⟩ = w1.drew.cell? ⟨g, i, none⟩ := fun i => by rw [hwz]; simp only [World.cell?, setCells_other B _ _ _ g HG.out]
    have h := CS.out
    simp only [← o] at h
    exact h
  rw [← hwz]
  clear hwz
  refine hK.out _ _ ?_ (fun hHeld_21 => ?_)
  · exact CZ.out
  clear hK K
  try simp only [Act.put]
  refine wpAnyH_done (by kernel_rfl) ?_ _
  go_wp2_with fail
  refine bodyPost_ret (results_cell_row Tryd.results117 _ _ B 36 #[.int .i64 k, .string lb.text, .int .i64 lb.off, .int .i64 lb.line, .int .i64 lb.col, .string ky.text, .int .i64 ky.off, .int .i64 ky.line, .int .i64 ky.col, .bool false, .slice aw nw cw, .slice none 0 0, .string fn.text, .int .i64 fn.off, .int .i64 fn.line, .int .i64 fn.col] (0, 0) _ rfl KZ.out Tryd.underlying36 rfl (by kernel_rfl)) rfl ?_
  exact ⟨rfl, by rw [HD.out]; exact BZ.out⟩

set_option maxRecDepth 100000 in
set_option maxHeartbeats 4000000 in
theorem toldB_any (w : World) (g : Nat) (k : Int) (ky : Tok) (h : w.cell? ⟨g, 0, none⟩ = some (.int .i64 k) ∧ w.cell? ⟨g, 1, none⟩ = some (.string ky.text) ∧ w.cell? ⟨g, 2, none⟩ = some (.int .i64 ky.off) ∧ w.cell? ⟨g, 3, none⟩ = some (.int .i64 ky.line) ∧ w.cell? ⟨g, 4, none⟩ = some (.int .i64 ky.col)) :
    Calls Tryd.prog 118 #[.pointer (some ⟨g, 0, none⟩)] w fun e w' => e = .returned (.agg (stmA k ⟨⟨#[]⟩, 0, 0, 0⟩ ky ky false (.slice none 0 0) (.slice none 0 0))) ∧ Below w.heap.size w w' := by
  have hg : g < w.heap.size := World.block_lt_of_cell? _ _ h.1
  obtain ⟨w1, hw1⟩ : ∃ w1, w1 = w.alloc (.cells #[.int .i64 0, .string ⟨#[]⟩, .int .i64 0, .int .i64 0, .int .i64 0, .string ⟨#[]⟩, .int .i64 0, .int .i64 0, .int .i64 0, .bool false, .slice none 0 0, .slice none 0 0, .string ⟨#[]⟩, .int .i64 0, .int .i64 0, .int .i64 0] 36) := ⟨_, rfl⟩
  have b1 : Below w.heap.size w w1 := by rw [hw1]; exact below_alloc _ _
  have hk1 : w1.drew.heap[w.heap.size]? = some (.cells #[.int .i64 0, .string ⟨#[]⟩, .int .i64 0, .int .i64 0, .int .i64 0, .string ⟨#[]⟩, .int .i64 0, .int .i64 0, .int .i64 0, .bool false, .slice none 0 0, .slice none 0 0, .string ⟨#[]⟩, .int .i64 0, .int .i64 0, .int .i64 0] 36 (0, 0)) := by rw [hw1]; exact heap_alloc_new w _
  obtain ⟨B, hD⟩ : ∃ B, w.heap.size = B := ⟨_, rfl⟩
  have CS : Hid (w1.drew.cell? ⟨g, 0, none⟩ = some (.int .i64 k) ∧ w1.drew.cell? ⟨g, 1, none⟩ = some (.string ky.text) ∧ w1.drew.cell? ⟨g, 2, none⟩ = some (.int .i64 ky.off) ∧ w1.drew.cell? ⟨g, 3, none⟩ = some (.int .i64 ky.line) ∧ w1.drew.cell? ⟨g, 4, none⟩ = some (.int .i64 ky.col)) := by
    have o : ∀ i, w1.drew.cell? ⟨g, i, none⟩ = w.cell? ⟨g, i, none⟩ := fun i => (below_drewN b1 1).cell (p := ⟨g, i, none⟩) hg
    have h' := h
    simp only [← o] at h'
    exact h'
  rw [hD] at hk1 b1
  have HG : Hid (g ≠ B) := by show g ≠ B; omega
  have HW1 : Hid (w.alloc (.cells #[.int .i64 0, .string ⟨#[]⟩, .int .i64 0, .int .i64 0, .int .i64 0, .string ⟨#[]⟩, .int .i64 0, .int .i64 0, .int .i64 0, .bool false, .slice none 0 0, .slice none 0 0, .string ⟨#[]⟩, .int .i64 0, .int .i64 0, .int .i64 0] 36) = w1) := hw1.symm
  have HB : Hid (Below B w w1) := b1
  have HK1 : Hid (w1.drew.heap[B]? = some (.cells #[.int .i64 0, .string ⟨#[]⟩, .int .i64 0, .int .i64 0, .int .i64 0, .string ⟨#[]⟩, .int .i64 0, .int .i64 0, .int .i64 0, .bool false, .slice none 0 0, .slice none 0 0, .string ⟨#[]⟩, .int .i64 0, .int .i64 0, .int .i64 0] 36 (0, 0))) := hk1
  have HD : Hid (w.heap.size = B) := hD
  clear hw1 b1 hk1 hD h hg
  go_enter Tryd.func118, Tryd.ntmps118
  go_upto_region 1 with fail
  rw [HW1.out, HD.out]
  clear HW1
  refine wp_region_held_drew (S := fun w' => w'.cell? ⟨g, 0, none⟩ = some (.int .i64 k) ∧ w'.cell? ⟨g, 1, none⟩ = some (.string ky.text) ∧ w'.cell? ⟨g, 2, none⟩ = some (.int .i64 ky.off) ∧ w'.cell? ⟨g, 3, none⟩ = some (.int .i64 ky.line) ∧ w'.cell? ⟨g, 4, none⟩ = some (.int .i64 ky.col)) (by kernel_rfl) ?_ (fun hHeld => ?_)
  · exact CS.out
  refine wpAnyH_take (i := 0) (oi := { dst := some 3, op := Op.move (Operand.tmp 0), type := 123, pos := "statement.go:123", after := #[], guard := none }) (v := ?_) rfl (by kernel_rfl) (by kernel_rfl) (by kernel_rfl) (fun _ _ _ h => h) (Or.inl ⟨by rfl, ?_⟩) hHeld ?_
  rotate_left
  · (intro w hSw; (try dsimp only at hSw); go_simp; try with_reducible rfl)
  try simp only [Act.put, List.setIfInBounds_toArray, List.set_cons_zero, List.set_cons_succ]
  refine wpAnyH_take (i := 1) (oi := { dst := some 4, op := Op.nilCheck (Operand.tmp 3), type := 0, pos := "statement.go:123", after := #[{ on := 0, ground := Ground.data }], guard := none }) (v := ?_) rfl (by kernel_rfl) (by kernel_rfl) (by kernel_rfl) (fun _ _ _ h => h) (Or.inl ⟨by rfl, ?_⟩) hHeld ?_
  rotate_left
  · (intro w hSw; (try dsimp only at hSw); go_simp; try with_reducible rfl)
  try simp only [Act.put, List.setIfInBounds_toArray, List.set_cons_zero, List.set_cons_succ]
  refine wpAnyH_take (i := 2) (oi := { dst := some 5, op := Op.fieldAddr 126 (Operand.tmp 4) 0, type := 0, pos := "statement.go:123", after := #[{ on := 1, ground := Ground.data }], guard := none }) (v := ?_) rfl (by kernel_rfl) (by kernel_rfl) (by kernel_rfl) (fun _ _ _ h => h) (Or.inl ⟨by rfl, ?_⟩) hHeld ?_
  rotate_left
  · (intro w hSw; (try dsimp only at hSw); go_simp; try with_reducible rfl)
  try simp only [Act.put, List.setIfInBounds_toArray, List.set_cons_zero, List.set_cons_succ]
  refine wpAnyH_take (i := 3) (oi := { dst := some 6, op := Op.load 3 (Operand.tmp 5), type := 3, pos := "statement.go:123", after := #[{ on := 2, ground := Ground.data }], guard := none }) (v := ?_) rfl (by kernel_rfl) (by kernel_rfl) (by kernel_rfl) (fun _ _ _ h => h) (Or.inl ⟨by rfl, ?_⟩) hHeld ?_
  rotate_left
  · (intro w hSw; (try dsimp only at hSw); go_simp; try with_reducible rfl)
  try simp only [Act.put, List.setIfInBounds_toArray, List.set_cons_zero, List.set_cons_succ]
  refine wpAnyH_take (i := 4) (oi := { dst := some 7, op := Op.move (Operand.tmp 0), type := 123, pos := "statement.go:123", after := #[], guard := none }) (v := ?_) rfl (by kernel_rfl) (by kernel_rfl) (by kernel_rfl) (fun _ _ _ h => h) (Or.inl ⟨by rfl, ?_⟩) hHeld ?_
  rotate_left
  · (intro w hSw; (try dsimp only at hSw); go_simp; try with_reducible rfl)
  try simp only [Act.put, List.setIfInBounds_toArray, List.set_cons_zero, List.set_cons_succ]
  refine wpAnyH_take (i := 5) (oi := { dst := some 8, op := Op.nilCheck (Operand.tmp 7), type := 0, pos := "statement.go:123", after := #[{ on := 4, ground := Ground.data }], guard := none }) (v := ?_) rfl (by kernel_rfl) (by kernel_rfl) (by kernel_rfl) (fun _ _ _ h => h) (Or.inl ⟨by rfl, ?_⟩) hHeld ?_
  rotate_left
  · (intro w hSw; (try dsimp only at hSw); go_simp; try with_reducible rfl)
  try simp only [Act.put, List.setIfInBounds_toArray, List.set_cons_zero, List.set_cons_succ]
  refine wpAnyH_take (i := 6) (oi := { dst := some 9, op := Op.fieldAddr 126 (Operand.tmp 8) 1, type := 0, pos := "statement.go:123", after := #[{ on := 5, ground := Ground.data }], guard := none }) (v := ?_) rfl (by kernel_rfl) (by kernel_rfl) (by kernel_rfl) (fun _ _ _ h => h) (Or.inl ⟨by rfl, ?_⟩) hHeld ?_
  rotate_left
  · (intro w hSw; (try dsimp only at hSw); go_simp; try with_reducible rfl)
  try simp only [Act.put, List.setIfInBounds_toArray, List.set_cons_zero, List.set_cons_succ]
  refine wpAnyH_take (i := 7) (oi := { dst := some 10, op := Op.load 34 (Operand.tmp 9), type := 34, pos := "statement.go:123", after := #[{ on := 6, ground := Ground.data }], guard := none }) (v := ?_) rfl (by kernel_rfl) (by kernel_rfl) (by kernel_rfl) (fun _ _ _ h => h) (Or.inl ⟨by rfl, ?_⟩) hHeld ?_
  rotate_left
  · (intro w hSw; (try dsimp only at hSw); go_simp; try with_reducible rfl)
  try simp only [Act.put, List.setIfInBounds_toArray, List.set_cons_zero, List.set_cons_succ]
  refine wpAnyH_take (i := 8) (oi := { dst := some 11, op := Op.move (Operand.tmp 0), type := 123, pos := "statement.go:123", after := #[], guard := none }) (v := ?_) rfl (by kernel_rfl) (by kernel_rfl) (by kernel_rfl) (fun _ _ _ h => h) (Or.inl ⟨by rfl, ?_⟩) hHeld ?_
  rotate_left
  · (intro w hSw; (try dsimp only at hSw); go_simp; try with_reducible rfl)
  try simp only [Act.put, List.setIfInBounds_toArray, List.set_cons_zero, List.set_cons_succ]
  refine wpAnyH_take (i := 9) (oi := { dst := some 12, op := Op.nilCheck (Operand.tmp 11), type := 0, pos := "statement.go:123", after := #[{ on := 8, ground := Ground.data }], guard := none }) (v := ?_) rfl (by kernel_rfl) (by kernel_rfl) (by kernel_rfl) (fun _ _ _ h => h) (Or.inl ⟨by rfl, ?_⟩) hHeld ?_
  rotate_left
  · (intro w hSw; (try dsimp only at hSw); go_simp; try with_reducible rfl)
  try simp only [Act.put, List.setIfInBounds_toArray, List.set_cons_zero, List.set_cons_succ]
  refine wpAnyH_take (i := 10) (oi := { dst := some 13, op := Op.fieldAddr 126 (Operand.tmp 12) 1, type := 0, pos := "statement.go:123", after := #[{ on := 9, ground := Ground.data }], guard := none }) (v := ?_) rfl (by kernel_rfl) (by kernel_rfl) (by kernel_rfl) (fun _ _ _ h => h) (Or.inl ⟨by rfl, ?_⟩) hHeld ?_
  rotate_left
  · (intro w hSw; (try dsimp only at hSw); go_simp; try with_reducible rfl)
  try simp only [Act.put, List.setIfInBounds_toArray, List.set_cons_zero, List.set_cons_succ]
  refine wpAnyH_take (i := 11) (oi := { dst := some 14, op := Op.load 34 (Operand.tmp 13), type := 34, pos := "statement.go:123", after := #[{ on := 10, ground := Ground.data }], guard := none }) (v := ?_) rfl (by kernel_rfl) (by kernel_rfl) (by kernel_rfl) (fun _ _ _ h => h) (Or.inl ⟨by rfl, ?_⟩) hHeld ?_
  rotate_left
  · (intro w hSw; (try dsimp only at hSw); go_simp; try with_reducible rfl)
  try simp only [Act.put, List.setIfInBounds_toArray, List.set_cons_zero, List.set_cons_succ]
  refine wpAnyH_take (i := 12) (oi := { dst := some 15, op := Op.build 36 #[(0, Operand.tmp 6), (2, Operand.tmp 10), (6, Operand.tmp 14)], type := 36, pos := "statement.go:123", after := #[{ on := 3, ground := Ground.data }, { on := 7, ground := Ground.data }, { on := 11, ground := Ground.data }], guard := none }) (v := ?_) rfl (by kernel_rfl) (by kernel_rfl) (by kernel_rfl) (fun _ _ _ h => h) (Or.inl ⟨by rfl, ?_⟩) hHeld ?_
  rotate_left
  · (intro w hSw; (try dsimp only at hSw); go_simp; try with_reducible rfl)
  try simp only [Act.put, List.setIfInBounds_toArray, List.set_cons_zero, List.set_cons_succ]
  refine wpAnyH_ready (rs := [13]) (by kernel_rfl) (by simp) ?_
  refine AllReadyH.cons (o := { dst := none, op := Op.store 36 (Operand.tmp 2) (Operand.tmp 15), type := 0, pos := "statement.go:123", after := #[{ on := 12, ground := Ground.data }, { on := 0, ground := Ground.phase }, { on := 1, ground := Ground.phase }, { on := 2, ground := Ground.phase }, { on := 3, ground := Ground.phase }, { on := 4, ground := Ground.phase }, { on := 5, ground := Ground.phase }, { on := 6, ground := Ground.phase }, { on := 7, ground := Ground.phase }, { on := 8, ground := Ground.phase }, { on := 9, ground := Ground.phase }, { on := 10, ground := Ground.phase }, { on := 11, ground := Ground.phase }, { on := 12, ground := Ground.phase }], guard := none }) rfl (fun K hK => ?_) AllReadyH.nil
  refine wp_store_mid 36 _ _ rfl B 0 #[.int .i64 k, .string ⟨#[]⟩, .int .i64 0, .int .i64 0, .int .i64 0, .string ky.text, .int .i64 ky.off, .int .i64 ky.line, .int .i64 ky.col, .bool false, .slice none 0 0, .slice none 0 0, .string ky.text, .int .i64 ky.off, .int .i64 ky.line, .int .i64 ky.col] rfl rfl (show w1.drew.there B 0 16 from there_whole (cs := #[.int .i64 0, .string ⟨#[]⟩, .int .i64 0, .int .i64 0, .int .i64 0, .string ⟨#[]⟩, .int .i64 0, .int .i64 0, .int .i64 0, .bool false, .slice none 0 0, .slice none 0 0, .string ⟨#[]⟩, .int .i64 0, .int .i64 0, .int .i64 0]) (t := 36) HK1.out) (by kernel_rfl) (by simp [Value.oneCell']) ?_
  obtain ⟨wz, hwz⟩ : ∃ wz, wz = w1.drew.setCells B 0 (#[.int .i64 k, .string ⟨#[]⟩, .int .i64 0, .int .i64 0, .int .i64 0, .string ky.text, .int .i64 ky.off, .int .i64 ky.line, .int .i64 ky.col, .bool false, .slice none 0 0, .slice none 0 0, .string ky.text, .int .i64 ky.off, .int .i64 ky.line, .int .i64 ky.col] : Array Value).toList := ⟨_, rfl⟩
  have KZ : Hid (wz.heap[B]? = some (.cells #[.int .i64 k, .string ⟨#[]⟩, .int .i64 0, .int .i64 0, .int .i64 0, .string ky.text, .int .i64 ky.off, .int .i64 ky.line, .int .i64 ky.col, .bool false, .slice none 0 0, .slice none 0 0, .string ky.text, .int .i64 ky.off, .int .i64 ky.line, .int .i64 ky.col] 36 (0, 0))) := by show _ = _; rw [hwz]; exact setCells_whole B 36 [.int .i64 k, .string ⟨#[]⟩, .int .i64 0, .int .i64 0, .int .i64 0, .string ky.text, .int .i64 ky.off, .int .i64 ky.line, .int .i64 ky.col, .bool false, .slice none 0 0, .slice none 0 0, .string ky.text, .int .i64 ky.off, .int .i64 ky.line, .int .i64 ky.col] [] [.int .i64 0, .string ⟨#[]⟩, .int .i64 0, .int .i64 0, .int .i64 0, .string ⟨#[]⟩, .int .i64 0, .int .i64 0, .int .i64 0, .bool false, .slice none 0 0, .slice none 0 0, .string ⟨#[]⟩, .int .i64 0, .int .i64 0, .int .i64 0] w1.drew HK1.out rfl
  have BZ : Hid (Below B w wz) := by show Below _ _ _; rw [hwz]; exact setCells_below (Nat.le_refl _) _ _ _ (below_drewN HB.out 1)
  have CZ : Hid (wz.cell? ⟨g, 0, none⟩ = some (.int .i64 k) ∧ wz.cell? ⟨g, 1, none⟩ = some (.string ky.text) ∧ wz.cell? ⟨g, 2, none⟩ = some (.int .i64 ky.off) ∧ wz.cell? ⟨g, 3, none⟩ = some (.int .i64 ky.line) ∧ wz.cell? ⟨g, 4, none⟩ = some (.int .i64 ky.col)) := by
    have o : ∀ i, wz.cell? ⟨g, i, none⟩ = w1.drew.cell? ⟨g, i, none⟩ := fun i => by rw [hwz]; simp only [World.cell?, setCells_other B _ _ _ g HG.out]
    have h := CS.out
    simp only [← o] at h
    exact h
  rw [← hwz]
  clear hwz
  refine hK.out _ _ ?_ (fun hHeld_13 => ?_)
  · exact CZ.out
  clear hK K
  try simp only [Act.put]
  refine wpAnyH_done (by kernel_rfl) ?_ _
  go_wp2_with fail
  refine bodyPost_ret (results_cell_row Tryd.results118 _ _ B 36 #[.int .i64 k, .string ⟨#[]⟩, .int .i64 0, .int .i64 0, .int .i64 0, .string ky.text, .int .i64 ky.off, .int .i64 ky.line, .int .i64 ky.col, .bool false, .slice none 0 0, .slice none 0 0, .string ky.text, .int .i64 ky.off, .int .i64 ky.line, .int .i64 ky.col] (0, 0) _ rfl KZ.out Tryd.underlying36 rfl (by kernel_rfl)) rfl ?_
  exact ⟨rfl, by rw [HD.out]; exact BZ.out⟩
end Go.Proofs.YtipfhfeaalbmcaaDoor
