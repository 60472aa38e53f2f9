/- The order of pairs as the program asks for it; pairs sorted. -/
import Derived.Test.YtkejjiilcoacfaaGreatKeys
import Derived.Test.YtkejjiilcoacfaaGreatShelfS
import Derived.Deep.RegionHeld3
namespace Go.Proofs.YtkejjiilcoacfaaGreat
open Go.RowKit

def cmpI (x y : Int) : Int := if x < y then -1 else if y < x then 1 else 0
set_option maxHeartbeats 1000000 in
theorem isNaN_any (x : Int) (w : World) : Calls Tryz.prog 101 #[.int .i64 x] w fun e w' => e = .returned (.bool false) ∧ w' = w := by
  go_enter Tryz.func101, Tryz.ntmps101
  go_wp2
  go_ret
  exact ⟨rfl, rfl⟩
set_option maxHeartbeats 1000000 in
theorem cmp_any (x y : Int) (w : World) : Calls Tryz.prog 114 #[.int .i64 x, .int .i64 y] w fun e w' => e = .returned (.int .i64 (cmpI x y)) ∧ w' = w := by
  have A : Hid _ := isNaN_any x w
  have B : Hid _ := isNaN_any y w
  rcases Int.lt_trichotomy x y with h | h | h
  · have HE : Hid (cmpI x y = -1) := by show _ = _; unfold cmpI; rw [if_pos h]
    go_enter Tryz.func114, Tryz.ntmps114
    go_wp2_with fail
    refine Calls.mono A.out ?_
    rintro e w' ⟨rfl, hw⟩
    subst w'
    go_wp2_with fail
    refine Calls.mono B.out ?_
    rintro e w' ⟨rfl, hw⟩
    subst w'
    go_wp2
    go_ret
    exact ⟨by rw [HE.out]; rfl, rfl⟩
  · have HE : Hid (cmpI x y = 0) := by show _ = _; unfold cmpI; rw [if_neg (by omega), if_neg (by omega)]
    have h1 : ¬ x < y := by omega
    have h2 : ¬ y < x := by omega
    clear h
    go_enter Tryz.func114, Tryz.ntmps114
    go_wp2_with fail
    refine Calls.mono A.out ?_
    rintro e w' ⟨rfl, hw⟩
    subst w'
    go_wp2_with fail
    refine Calls.mono B.out ?_
    rintro e w' ⟨rfl, hw⟩
    subst w'
    go_wp2
    go_ret
    exact ⟨by rw [HE.out]; rfl, rfl⟩
  · have HE : Hid (cmpI x y = 1) := by show _ = _; unfold cmpI; rw [if_neg (by omega), if_pos h]
    have h1 : ¬ x < y := by omega
    go_enter Tryz.func114, Tryz.ntmps114
    go_wp2_with fail
    refine Calls.mono A.out ?_
    rintro e w' ⟨rfl, hw⟩
    subst w'
    go_wp2_with fail
    refine Calls.mono B.out ?_
    rintro e w' ⟨rfl, hw⟩
    subst w'
    go_wp2
    go_ret
    exact ⟨by rw [HE.out]; rfl, rfl⟩
def orI (a b : Int) : Int := if a = 0 then b else a
set_option maxRecDepth 100000 in
set_option maxHeartbeats 2000000 in
theorem or_any (a b : Int) (g c : Nat) (w : World) (h0 : w.cell? ⟨g, 0, none⟩ = some (.int .i64 a)) (h1 : w.cell? ⟨g, 1, none⟩ = some (.int .i64 b)) :
    Calls Tryz.prog 113 #[.slice (some ⟨g, 0, none⟩) 2 c] w fun e w' => e = .returned (.int .i64 (orI a b)) ∧ w' = w := by
  go_enter Tryz.func113, Tryz.ntmps113
  go_wp2_with fail
  go_loop [8] (fun i => ∃ j : Nat, j ≤ 2 ∧ i = .int .i64 j ∧ Hid (1 ≤ j → a = 0) ∧ Hid (j = 2 → b = 0)) (fun i => 2 - (intOf i).toNat)
  case atStart => exact ⟨0, by omega, rfl, fun h => by omega, fun h => by omega⟩
  case round =>
    obtain ⟨j, hj, rfl, HA, HB⟩ := hrel
    match j, hj with
    | 0, _ =>
      by_cases ha : a = 0
      · have f1 : (a == 0) = true := by rw [beq_iff_eq]; exact ha
        have HA2 : Hid (1 ≤ 0 + 1 → a = 0) := fun _ => ha
        clear ha HA HB
        go_wp2
        go_round
        case rel => exact ⟨1, by omega, rfl, HA2.out, fun h => by omega⟩
        case measure => simp [intOf]
      · have f1 : (a == 0) = false := by rw [beq_eq_false_iff_ne]; exact ha
        have HE : Hid (orI a b = a) := by show _ = _; unfold orI; rw [if_neg ha]
        clear ha HA HB
        go_wp2
        go_ret
        exact ⟨by rw [HE.out]; rfl, rfl⟩
    | 1, _ =>
      have ha := HA.out (by omega)
      have HE : Hid (orI a b = b) := by show _ = _; unfold orI; rw [if_pos ha]
      by_cases hb : b = 0
      · have f1 : (b == 0) = true := by rw [beq_iff_eq]; exact hb
        have HB2 : Hid (1 + 1 = 2 → b = 0) := fun _ => hb
        clear ha hb HB
        go_wp2
        go_round
        case rel => exact ⟨2, by omega, rfl, fun _ => HA.out (by omega), HB2.out⟩
        case measure => simp [intOf]
      · have f1 : (b == 0) = false := by rw [beq_eq_false_iff_ne]; exact hb
        clear ha hb HA HB
        go_wp2
        go_ret
        exact ⟨by rw [HE.out]; rfl, rfl⟩
    | 2, _ =>
      have HE : Hid (orI a b = 0) := by show _ = _; unfold orI; rw [if_pos (HA.out (by omega))]; exact HB.out rfl
      go_wp2
      go_ret
      exact ⟨by rw [HE.out]; rfl, rfl⟩
def cfP (p q : Pr) : Int := orI (cmpI p.1 q.1) (cmpI p.2 q.2)
set_option maxRecDepth 100000 in
set_option maxHeartbeats 4000000 in
theorem cmpP_any (x y : Pr) (w : World) : Calls Tryz.prog 112 #[encP x, encP y] w fun e w' => e = .returned (.int .i64 (cfP x y)) ∧ ∃ q os', w' = Sort.grow (w.drewN q) os' := by
  obtain ⟨x0, x1⟩ := x
  obtain ⟨y0, y1⟩ := y
  obtain ⟨wA, hwA⟩ : ∃ wA, wA = (w.alloc (.cells #[.int .i64 x0, .int .i64 x1] 64)).alloc (.cells #[.int .i64 y0, .int .i64 y1] 64) := ⟨_, rfl⟩
  have C1 : Hid _ := cmp_any x0 y0 wA.drew
  have C2 : Hid _ := cmp_any x1 y1 wA.drew
  unfold cfP encP
  dsimp only
  generalize cmpI x0 y0 = c0 at *
  generalize cmpI x1 y1 = c1 at *
  have q0 : wA.drew.cell? ⟨w.heap.size, 0, none⟩ = some (.int .i64 x0) := by rw [hwA]; exact (World.cell?_of_block (w := w.alloc (.cells #[.int .i64 x0, .int .i64 x1] 64)) (a := ⟨w.heap.size, 0, none⟩) (Below.heap_alloc _ _ w.heap.size (by simp))).trans (World.cell?_alloc_new w _ _ 0)
  have q1 : wA.drew.cell? ⟨w.heap.size, 1, none⟩ = some (.int .i64 x1) := by rw [hwA]; exact (World.cell?_of_block (w := w.alloc (.cells #[.int .i64 x0, .int .i64 x1] 64)) (a := ⟨w.heap.size, 1, none⟩) (Below.heap_alloc _ _ w.heap.size (by simp))).trans (World.cell?_alloc_new w _ _ 1)
  have r0 : wA.drew.cell? ⟨w.heap.size + 1, 0, none⟩ = some (.int .i64 y0) := by rw [hwA]; have h := World.cell?_alloc_new (w.alloc (.cells #[.int .i64 x0, .int .i64 x1] 64)) #[.int .i64 y0, .int .i64 y1] 64 0; rw [World.size_alloc] at h; exact h
  have r1 : wA.drew.cell? ⟨w.heap.size + 1, 1, none⟩ = some (.int .i64 y1) := by rw [hwA]; have h := World.cell?_alloc_new (w.alloc (.cells #[.int .i64 x0, .int .i64 x1] 64)) #[.int .i64 y0, .int .i64 y1] 64 1; rw [World.size_alloc] at h; exact h
  have hsB : wA.drew.heap.size = w.heap.size + 2 := by rw [hwA]; simp [World.drew]
  have C3 : Hid _ := or_any c0 c1 wA.drew.heap.size 2 (wA.drew.alloc (.cells #[.int .i64 c0, .int .i64 c1] 3)) (World.cell?_alloc_new wA.drew _ _ 0) (World.cell?_alloc_new wA.drew _ _ 1)
  have s0 : (wA.drew.alloc (.cells #[.int .i64 c0, .int .i64 c1] 3)).cell? ⟨w.heap.size, 0, none⟩ = some (.int .i64 x0) := (World.cell?_of_block (w := wA.drew) (a := ⟨w.heap.size, 0, none⟩) (Below.heap_alloc _ _ w.heap.size (by omega))).trans q0
  have s1 : (wA.drew.alloc (.cells #[.int .i64 c0, .int .i64 c1] 3)).cell? ⟨w.heap.size, 1, none⟩ = some (.int .i64 x1) := (World.cell?_of_block (w := wA.drew) (a := ⟨w.heap.size, 1, none⟩) (Below.heap_alloc _ _ w.heap.size (by omega))).trans q1
  have t0 : (wA.drew.alloc (.cells #[.int .i64 c0, .int .i64 c1] 3)).cell? ⟨w.heap.size + 1, 0, none⟩ = some (.int .i64 y0) := (World.cell?_of_block (w := wA.drew) (a := ⟨w.heap.size + 1, 0, none⟩) (Below.heap_alloc _ _ (w.heap.size + 1) (by omega))).trans r0
  have t1 : (wA.drew.alloc (.cells #[.int .i64 c0, .int .i64 c1] 3)).cell? ⟨w.heap.size + 1, 1, none⟩ = some (.int .i64 y1) := (World.cell?_of_block (w := wA.drew) (a := ⟨w.heap.size + 1, 1, none⟩) (Below.heap_alloc _ _ (w.heap.size + 1) (by omega))).trans r1
  have HG : Hid (∃ os, wA.drew.alloc (.cells #[.int .i64 c0, .int .i64 c1] 3) = Sort.grow (w.drewN 1) os) := by
    rw [hwA, Sort.alloc_eq_grow w, Sort.alloc_eq_grow (Sort.grow w _), Sort.grow_grow, Sort.drew_grow, Sort.alloc_eq_grow, Sort.grow_grow]
    exact ⟨_, rfl⟩
  generalize orI c0 c1 = rr at *
  go_enter Tryz.func112, Tryz.ntmps112
  go_wp2_with fail
  rw [← hwA]
  clear hwA hsB
  refine wp_region_held_drew (S := fun w' => w'.cell? ⟨w.heap.size, 0, none⟩ = some (.int .i64 x0) ∧ w'.cell? ⟨w.heap.size, 1, none⟩ = some (.int .i64 x1) ∧ w'.cell? ⟨w.heap.size + 1, 0, none⟩ = some (.int .i64 y0) ∧ w'.cell? ⟨w.heap.size + 1, 1, none⟩ = some (.int .i64 y1)) (by kernel_rfl) ?_ (fun hHeld => ?_)
  · exact ⟨q0, q1, r0, r1⟩
  refine wpAnyH_take (i := 0) (oi := { dst := some 5, op := Op.fieldAddr 64 (Operand.tmp 2) 0, type := 0, pos := "dist.go:125", after := #[], guard := none }) (v := ?_) rfl (by kernel_rfl) (by kernel_rfl) (by kernel_rfl) (fun _ _ _ h => h) (Or.inl ⟨by rfl, ?_⟩) hHeld ?_
  rotate_left
  · (intro w hSw; (try dsimp only at hSw); go_simp; try with_reducible rfl)
  try simp only [Act.put, List.setIfInBounds_toArray, List.set_cons_zero, List.set_cons_succ]
  refine wpAnyH_take (i := 1) (oi := { dst := some 6, op := Op.load 3 (Operand.tmp 5), type := 3, pos := "dist.go:125", after := #[{ on := 0, ground := Ground.data }], guard := none }) (v := ?_) rfl (by kernel_rfl) (by kernel_rfl) (by kernel_rfl) (fun _ _ _ h => h) (Or.inl ⟨by rfl, ?_⟩) hHeld ?_
  rotate_left
  · (intro w hSw; (try dsimp only at hSw); go_simp; try with_reducible rfl)
  try simp only [Act.put, List.setIfInBounds_toArray, List.set_cons_zero, List.set_cons_succ]
  refine wpAnyH_take (i := 2) (oi := { dst := some 7, op := Op.fieldAddr 64 (Operand.tmp 3) 0, type := 0, pos := "dist.go:125", after := #[], guard := none }) (v := ?_) rfl (by kernel_rfl) (by kernel_rfl) (by kernel_rfl) (fun _ _ _ h => h) (Or.inl ⟨by rfl, ?_⟩) hHeld ?_
  rotate_left
  · (intro w hSw; (try dsimp only at hSw); go_simp; try with_reducible rfl)
  try simp only [Act.put, List.setIfInBounds_toArray, List.set_cons_zero, List.set_cons_succ]
  refine wpAnyH_take (i := 3) (oi := { dst := some 8, op := Op.load 3 (Operand.tmp 7), type := 3, pos := "dist.go:125", after := #[{ on := 2, ground := Ground.data }], guard := none }) (v := ?_) rfl (by kernel_rfl) (by kernel_rfl) (by kernel_rfl) (fun _ _ _ h => h) (Or.inl ⟨by rfl, ?_⟩) hHeld ?_
  rotate_left
  · (intro w hSw; (try dsimp only at hSw); go_simp; try with_reducible rfl)
  try simp only [Act.put, List.setIfInBounds_toArray, List.set_cons_zero, List.set_cons_succ]
  refine wpAnyH_take (i := 5) (oi := { dst := some 10, op := Op.fieldAddr 64 (Operand.tmp 2) 1, type := 0, pos := "dist.go:125", after := #[], guard := none }) (v := ?_) rfl (by kernel_rfl) (by kernel_rfl) (by kernel_rfl) (fun _ _ _ h => h) (Or.inl ⟨by rfl, ?_⟩) hHeld ?_
  rotate_left
  · (intro w hSw; (try dsimp only at hSw); go_simp; try with_reducible rfl)
  try simp only [Act.put, List.setIfInBounds_toArray, List.set_cons_zero, List.set_cons_succ]
  refine wpAnyH_take (i := 6) (oi := { dst := some 11, op := Op.load 3 (Operand.tmp 10), type := 3, pos := "dist.go:125", after := #[{ on := 5, ground := Ground.data }], guard := none }) (v := ?_) rfl (by kernel_rfl) (by kernel_rfl) (by kernel_rfl) (fun _ _ _ h => h) (Or.inl ⟨by rfl, ?_⟩) hHeld ?_
  rotate_left
  · (intro w hSw; (try dsimp only at hSw); go_simp; try with_reducible rfl)
  try simp only [Act.put, List.setIfInBounds_toArray, List.set_cons_zero, List.set_cons_succ]
  refine wpAnyH_take (i := 7) (oi := { dst := some 12, op := Op.fieldAddr 64 (Operand.tmp 3) 1, type := 0, pos := "dist.go:125", after := #[], guard := none }) (v := ?_) rfl (by kernel_rfl) (by kernel_rfl) (by kernel_rfl) (fun _ _ _ h => h) (Or.inl ⟨by rfl, ?_⟩) hHeld ?_
  rotate_left
  · (intro w hSw; (try dsimp only at hSw); go_simp; try with_reducible rfl)
  try simp only [Act.put, List.setIfInBounds_toArray, List.set_cons_zero, List.set_cons_succ]
  refine wpAnyH_take (i := 8) (oi := { dst := some 13, op := Op.load 3 (Operand.tmp 12), type := 3, pos := "dist.go:125", after := #[{ on := 7, ground := Ground.data }], guard := none }) (v := ?_) rfl (by kernel_rfl) (by kernel_rfl) (by kernel_rfl) (fun _ _ _ h => h) (Or.inl ⟨by rfl, ?_⟩) hHeld ?_
  rotate_left
  · (intro w hSw; (try dsimp only at hSw); go_simp; try with_reducible rfl)
  try simp only [Act.put, List.setIfInBounds_toArray, List.set_cons_zero, List.set_cons_succ]
  refine wpAnyH_ready (rs := [4]) (by kernel_rfl) (by simp) ?_
  refine AllReadyH.cons (o := { dst := some 9, op := Op.call { callee := Callee.value (Operand.func 114), args := #[Operand.tmp 6, Operand.tmp 8], argTypes := #[3, 3] }, type := 3, pos := "dist.go:125", after := #[{ on := 1, ground := Ground.data }, { on := 3, ground := Ground.data }], guard := none }) rfl (fun K hK => ?_) AllReadyH.nil
  go_simp
  go_at_call 114
  refine Calls.mono C1.out ?_
  rintro e w2 ⟨rfl, hw2⟩
  subst w2
  clear C1
  try go_wp2_with fail
  refine hK.out _ _ ?_ (fun hHeld_4 => ?_)
  · exact ⟨q0, q1, r0, r1⟩
  clear hK K
  try simp only [Act.put, List.setIfInBounds_toArray, List.set_cons_zero, List.set_cons_succ]
  refine wpAnyH_ready (rs := [9]) (by kernel_rfl) (by simp) ?_
  refine AllReadyH.cons (o := { dst := some 14, op := Op.call { callee := Callee.value (Operand.func 114), args := #[Operand.tmp 11, Operand.tmp 13], argTypes := #[3, 3] }, type := 3, pos := "dist.go:125", after := #[{ on := 6, ground := Ground.data }, { on := 8, ground := Ground.data }, { on := 4, ground := Ground.chain }], guard := none }) rfl (fun K hK => ?_) AllReadyH.nil
  go_simp
  go_at_call 114
  refine Calls.mono C2.out ?_
  rintro e w3 ⟨rfl, hw3⟩
  subst w3
  clear C2
  try go_wp2_with fail
  refine hK.out _ _ ?_ (fun hHeld_9 => ?_)
  · exact ⟨q0, q1, r0, r1⟩
  clear hK K
  try simp only [Act.put, List.setIfInBounds_toArray, List.set_cons_zero, List.set_cons_succ]
  refine wpAnyH_ready (rs := [10]) (by kernel_rfl) (by simp) ?_
  refine AllReadyH.cons (o := { dst := some 15, op := Op.buildSlice 32 2 #[(0, Operand.tmp 9), (1, Operand.tmp 14)], type := 32, pos := "dist.go:125", after := #[{ on := 4, ground := Ground.data }, { on := 9, ground := Ground.data }], guard := none }) rfl (fun K hK => ?_) AllReadyH.nil
  go_simp
  refine hK.out _ _ ?_ (fun hHeld_10 => ?_)
  · exact ⟨s0, s1, t0, t1⟩
  clear hK K
  try simp only [Act.put, List.setIfInBounds_toArray, List.set_cons_zero, List.set_cons_succ]
  refine wpAnyH_ready (rs := [11]) (by kernel_rfl) (by simp) ?_
  refine AllReadyH.cons (o := { dst := some 16, op := Op.call { callee := Callee.value (Operand.func 113), args := #[Operand.tmp 15], argTypes := #[32] }, type := 3, pos := "dist.go:125", after := #[{ on := 10, ground := Ground.data }, { on := 9, ground := Ground.chain }], guard := none }) rfl (fun K hK => ?_) AllReadyH.nil
  go_simp
  go_at_call 113
  refine Calls.mono C3.out ?_
  rintro e w5 ⟨rfl, hw5⟩
  subst w5
  try go_wp2_with fail
  refine hK.out _ _ ?_ (fun hHeld_11 => ?_)
  · exact ⟨s0, s1, t0, t1⟩
  clear hK K
  try simp only [Act.put, List.setIfInBounds_toArray, List.set_cons_zero, List.set_cons_succ]
  refine wpAnyH_take (i := 12) (oi := { dst := some 4, op := Op.assign (Operand.tmp 16), type := 3, pos := "dist.go:125", after := #[{ on := 11, ground := Ground.data }, { on := 11, ground := Ground.chain }, { on := 0, ground := Ground.phase }, { on := 1, ground := Ground.phase }, { on := 2, ground := Ground.phase }, { on := 3, ground := Ground.phase }, { on := 4, ground := Ground.phase }, { on := 5, ground := Ground.phase }, { on := 6, ground := Ground.phase }, { on := 7, ground := Ground.phase }, { on := 8, ground := Ground.phase }, { on := 9, ground := Ground.phase }, { on := 10, ground := Ground.phase }, { on := 11, ground := Ground.phase }], guard := none }) (v := ?_) rfl (by kernel_rfl) (by kernel_rfl) (by kernel_rfl) (fun _ _ _ h => h) (Or.inl ⟨by rfl, ?_⟩) hHeld_11 ?_
  rotate_left
  · (intro w hSw; (try dsimp only at hSw); go_simp; try with_reducible rfl)
  try simp only [Act.put, List.setIfInBounds_toArray, List.set_cons_zero, List.set_cons_succ]
  refine wpAnyH_done (by kernel_rfl) ?_ _
  go_wp2
  go_ret
  obtain ⟨os, hos⟩ := HG.out
  exact ⟨rfl, 1, os, hos⟩
end Go.Proofs.YtkejjiilcoacfaaGreat
