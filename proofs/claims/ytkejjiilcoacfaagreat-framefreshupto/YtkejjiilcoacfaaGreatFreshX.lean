/- FrameFresh along its text. -/
import Derived.Test.YtkejjiilcoacfaaGreatFreshQ
namespace Go.Proofs.YtkejjiilcoacfaaGreat
open Go.Maps Go.RowKit Go.WideMaps
set_option maxRecDepth 100000 in
set_option maxHeartbeats 32000000 in
theorem fresh_walk (w : World) (a : Option Addr) (n c : Nat) (os : List OpC) (hl : os.length = n) (hos : OpsOk os) (hs : n ≤ 262144) (hA : OpsAt w a os) :
    Calls Tryz.prog 4 #[.slice a n c] w fun e w' => e = .returned (.bool true) ∧ Below w.heap.size w w' := by
  have OPS : Hid (OpsAt w a os ∧ OpsOk os ∧ os.length = n) := ⟨hA, hos, hl⟩
  have AL : Hid _ := alive_any w
  have NE : Hid (∀ W, Calls Tryz.prog 9 #[.func (.func 10) #[] #[]] W fun e w' => ∃ P, e = .returned (.pointer (some ⟨P, 0, none⟩)) ∧ StO (fun g => W.heap.size ≤ g ∧ g < w'.heap.size) w' P [⟨[], []⟩] ∧ Below W.heap.size W w') := fun W => new_so W
  clear hl hos hA
  go_enter Tryz.func4, Tryz.ntmps4
  go_wp2_with fail
  refine Calls.mono AL.out ?_
  rintro e w1 ⟨rfl, hb1⟩
  have B1 : Hid (Below w.heap.size w w1) := hb1
  clear hb1 AL
  go_wp2_with fail
  refine Calls.mono (NE.out _) ?_
  rintro e w2 ⟨P1, rfl, hS2, hb2⟩
  have S2 : Hid (StO (fun g => w1.heap.size ≤ g ∧ g < w2.heap.size) w2 P1 [⟨[], []⟩] ∧ Below w1.heap.size w1 w2) := ⟨hS2, hb2⟩
  clear hS2 hb2
  go_wp2_with fail
  refine Calls.mono (NE.out _) ?_
  rintro e w3 ⟨P2, rfl, hS3, hb3⟩
  have R3 : Hid (FrR w3.heap.size w w3 P1 P2 [⟨[], []⟩] [⟨[], []⟩] (.slice none 0 0) []) := fr_begin B1.out S2.out.1 S2.out.2 hS3 hb3
  clear hS3 hb3 NE S2 B1
  go_wp2_with fail
  go_loopw [5, 6] (fun v5 v6 wx => ∃ (i : Nat) (aA : Option Addr) (cA : Nat), i ≤ n ∧ v5 = .slice aA (2 * i) cA ∧ v6 = .int .i64 i ∧ Hid (FrL w wx P1 P2 i (.slice aA (2 * i) cA))) (fun _ v6 _ => n - (intOf v6).toNat)
  case atStart => exact ⟨0, none, 0, Nat.zero_le _, rfl, rfl, ⟨_, _, Good.new _, rfl, R3.out⟩⟩
  case round =>
    obtain ⟨i, aA, cA, hi, rfl, rfl, hR⟩ := hrel
    clear R3
    obtain ⟨l, vs, hg, hvs, hR0⟩ := hR.out
    have R0 : Hid (FrR wr.heap.size w wr P1 P2 l l (.slice aA (2 * i) cA) vs ∧ Good i 1048576 l ∧ vs.length = 2 * i) := ⟨hR0, hg, hvs⟩
    clear hR hR0 hg hvs
    by_cases hlt : i < n
    · have n1 : (i : Int) < (n : Int) := by omega
      obtain ⟨x, hx⟩ : ∃ x, os[i]? = some x := ⟨_, List.getElem?_eq_getElem (by rw [OPS.out.2.2]; exact hlt)⟩
      have hxm := List.mem_of_getElem? hx
      obtain ⟨b, off, ea, q0, q1, q2, q3, q4, q5⟩ := OPS.out.1 i x hx
      have XO : Hid (OpOk 1048576 x.o ∧ x.o.lab.size ≤ 281474976710656 ∧ NsAt w x.ea x.o.e) := ⟨OPS.out.2.1.o x hxm, OPS.out.2.1.l x hxm, q5⟩
      subst ea
      obtain ⟨ne, hne⟩ : ∃ ne, x.o.e.length = ne := ⟨_, rfl⟩
      have HNE : Hid (x.o.e.length = ne) := hne
      rw [hne] at q4
      have CE : Hid (∀ W, Below w.heap.size w W → W.cell? ⟨b, off + i * 5, none⟩ = some (.int .i64 x.o.k) ∧ W.cell? ⟨b, off + i * 5 + 1, none⟩ = some (.string x.o.lab) ∧ W.cell? ⟨b, off + i * 5 + 2, none⟩ = some (.int .i64 x.o.a) ∧ W.cell? ⟨b, off + i * 5 + 3, none⟩ = some (.int .i64 x.o.b) ∧ W.cell? ⟨b, off + i * 5 + 4, none⟩ = some (.slice x.ea ne x.ec)) := fun W hW => ⟨cell_under hW q0, cell_under hW q1, cell_under hW q2, cell_under hW q3, cell_under hW q4⟩
      clear q0 q1 q2 q3 q4 q5 hx hxm hne
      obtain ⟨l1, hl1⟩ : ∃ l1, sayL l x.o = l1 := ⟨_, rfl⟩
      obtain ⟨SE, hSE⟩ : ∃ SE, sayE l x.o = SE := ⟨_, rfl⟩
      have G1 : Hid (Good (i + 1) 1048576 l1) := by show Good _ _ _; rw [← hl1]; exact R0.out.2.1.step x.o XO.out.1
      have SAY : Hid _ := says_f1 R0.out.1 (R0.out.2.1.ok (by omega) (by omega)) x XO.out.1 XO.out.2.1 XO.out.2.2
      have SAZ : Hid (∀ U W, FrR U w W P1 P2 l1 l (.slice aA (2 * i) cA) vs → _) := fun U W h => says_f2 h (R0.out.2.1.ok (by omega) (by omega)) x XO.out.1 XO.out.2.1 XO.out.2.2
      rw [HNE.out, hl1, hSE] at SAY
      simp only [HNE.out, hl1, hSE] at SAZ
      obtain ⟨q0, q1, q2, q3, q4⟩ := CE.out wr R0.out.1.b
      go_wp2_with fail
      refine Calls.mono SAY.out ?_
      rintro e w4 ⟨rfl, hu4, hR4⟩
      have R4 : Hid (FrR w4.heap.size w w4 P1 P2 l1 l (.slice aA (2 * i) cA) vs) := hR4
      clear hu4 hR4 SAY q0 q1 q2 q3 q4
      obtain ⟨q0, q1, q2, q3, q4⟩ := CE.out w4 R4.out.b
      go_wp2_with fail
      refine Calls.mono (SAZ.out _ _ R4.out) ?_
      rintro e w5 ⟨rfl, hu5, hR5⟩
      have R5 : Hid (FrR w5.heap.size w w5 P1 P2 l1 l1 (.slice aA (2 * i) cA) vs) := hR5
      have SCO : Hid _ := scope_f hR5.st1 G1.out (by omega)
      clear hu5 hR5 SAZ R4 q0 q1 q2 q3 q4
      go_wp2_with fail
      refine Calls.mono SCO.out ?_
      rintro e w6 ⟨hb6, a1, n1, c1, p1, k1, d1, ts1, m1, rfl, hT1⟩
      obtain ⟨w7, hw7⟩ : ∃ w7, w7 = w6.alloc (.cells #[.slice a1 n1 c1, .slice p1 k1 d1] 37) := ⟨_, rfl⟩
      obtain ⟨T1, hT1s⟩ : ∃ T1, w6.heap.size = T1 := ⟨_, rfl⟩
      have HW7 : Hid (w7 = w6.alloc (.cells #[.slice a1 n1 c1, .slice p1 k1 d1] 37) ∧ w6.heap.size = T1) := ⟨hw7, hT1s⟩
      have b7 : Below w6.heap.size w6 w7 := by rw [hw7]; exact fr_below_alloc _ _
      have s7 : w7.heap.size = T1 + 1 := by rw [hw7, al_size, hT1s]
      have k7 : w7.heap[T1]? = some (.cells #[.slice a1 n1 c1, .slice p1 k1 d1] 37 (0, 0)) := by rw [hw7, ← hT1s]; exact heap_alloc_new w6 _
      have R7 : Hid (FrR w5.heap.size w w7 P1 P2 l1 l1 (.slice aA (2 * i) cA) vs ∧ Below w5.heap.size w5 w7) := ⟨(R5.out.below hb6).below b7, hb6.trans (b7.mono hb6.size)⟩
      have T7 : Hid (ToldF w5.heap.size T1 w7 a1 p1 none n1 c1 k1 d1 0 0 ts1 m1 [] ∧ w7.heap[T1]? = some (.cells #[.slice a1 n1 c1, .slice p1 k1 d1] 37 (0, 0)) ∧ w7.heap.size = T1 + 1 ∧ w5.heap.size ≤ T1) := ⟨by rw [← hT1s]; exact hT1.below b7, k7, s7, by rw [← hT1s]; exact hb6.size⟩
      have FRA : Hid _ := frame_f R7.out.1.st1 G1.out (by omega) x.ea ne x.ec x.o.e HNE.out (by have := XO.out.1.n; have := HNE.out; omega) (XO.out.2.2.under R7.out.1.b) XO.out.1.e
      clear hw7 hT1s b7 s7 k7 hT1 hb6 SCO
      go_upto_region 14 with fail
      rw [← HW7.out.1, HW7.out.2]
      obtain ⟨q0, q1, q2, q3, q4⟩ := CE.out w7 R7.out.1.b
      clear HW7 q0 q1 q2 q3
      go_wp2_with fail
      refine Calls.mono FRA.out ?_
      rintro e w8 ⟨hb8, a2, n2, c2, p2, k2, d2, g2, z2, f2, E2, ts2, m2, gl2, rfl, hT2⟩
      obtain ⟨w9, hw9⟩ : ∃ w9, w9 = w8.alloc (.cells #[.slice a2 n2 c2, .slice p2 k2 d2, .slice g2 z2 f2] 47) := ⟨_, rfl⟩
      obtain ⟨T2, hT2s⟩ : ∃ T2, w8.heap.size = T2 := ⟨_, rfl⟩
      have HW9 : Hid (w9 = w8.alloc (.cells #[.slice a2 n2 c2, .slice p2 k2 d2, .slice g2 z2 f2] 47) ∧ w8.heap.size = T2) := ⟨hw9, hT2s⟩
      have b9 : Below w8.heap.size w8 w9 := by rw [hw9]; exact fr_below_alloc _ _
      have s9 : w9.heap.size = T2 + 1 := by rw [hw9, al_size, hT2s]
      have k9 : w9.heap[T2]? = some (.cells #[.slice a2 n2 c2, .slice p2 k2 d2, .slice g2 z2 f2] 47 (0, 0)) := by rw [hw9, ← hT2s]; exact heap_alloc_new w8 _
      have b79 : Below w7.heap.size w7 w9 := hb8.trans (b9.mono hb8.size)
      have F9 : Hid (FiN w w9 w5.heap.size P1 P2 l1 (.slice aA (2 * i) cA) vs T1 T2 a1 p1 n1 c1 k1 d1 ts1 m1 a2 p2 g2 n2 c2 k2 d2 z2 f2 ts2 m2 gl2) := ⟨R7.out.1.below b79, T7.out.1.below b79, by have h := hT2.below b9; rw [hT2s, T7.out.2.2.1] at h; exact h, (b79.block T1 (by have := T7.out.2.2.1; omega)).trans T7.out.2.1, k9, T7.out.2.2.2, by have := hb8.size; have := T7.out.2.2.1; omega, Nat.le_of_eq s9.symm, by have := R0.out.2.2; omega⟩
      clear hw9 hT2s b9 s9 k9 b79 hT2 hb8 FRA T7 R7 R5 q4
      go_upto_region 15 with fail
      rw [← HW9.out.1, HW9.out.2]
      clear HW9
      have RL : Hid (vs.length = 2 * i) := R0.out.2.2
      clear R0
      obtain ⟨M1, hM1⟩ : ∃ M1 : Int, -1000000 * (2 * (i : Int) + 1) = M1 := ⟨_, rfl⟩
      obtain ⟨M2, hM2⟩ : ∃ M2 : Int, -1000000 * (2 * (i : Int) + 2) = M2 := ⟨_, rfl⟩
      have HM : Hid ((-2000000000000 ≤ M1 ∧ M1 ≤ 0) ∧ -2000000000000 ≤ M2 ∧ M2 ≤ 0) := ⟨⟨by omega, by omega⟩, by omega, by omega⟩
      have e1 : IntKind.i64.wrap (2 * (i : Int)) = 2 * (i : Int) := fr_wrap64 _ (by omega) (by omega)
      have e2 : IntKind.i64.wrap (2 * (i : Int) + 1) = 2 * (i : Int) + 1 := fr_wrap64 _ (by omega) (by omega)
      have e3 : IntKind.i64.wrap (2 * (i : Int) + 2) = 2 * (i : Int) + 2 := fr_wrap64 _ (by omega) (by omega)
      have e4 : IntKind.i64.wrap (-1000000 * (2 * (i : Int) + 1)) = M1 := by rw [hM1]; exact fr_wrap64 _ (by omega) (by omega)
      have e5 : IntKind.i64.wrap (-1000000 * (2 * (i : Int) + 2)) = M2 := by rw [hM2]; exact fr_wrap64 _ (by omega) (by omega)
      clear hM1 hM2
      have FD : Hid (FiN w w9.drew w5.heap.size P1 P2 l1 (.slice aA (2 * i) cA) vs T1 T2 a1 p1 n1 c1 k1 d1 ts1 m1 a2 p2 g2 n2 c2 k2 d2 z2 f2 ts2 m2 gl2) := F9.out.below (fr_below_drewN (Below.refl _ _) 1)
      have FIL : Hid _ := FD.out.fill1 M1 HM.out.1.1 HM.out.1.2
      have SF : Hid (∀ W : World, W.heap[T1]? = some (.cells #[.slice a1 n1 c1, .slice p1 k1 d1] 37 (0, 0)) ∧ W.heap[T2]? = some (.cells #[.slice a2 n2 c2, .slice p2 k2 d2, .slice g2 z2 f2] 47 (0, 0)) → W.cell? ⟨T1, 0, none⟩ = some (.slice a1 n1 c1) ∧ W.cell? ⟨T1, 1, none⟩ = some (.slice p1 k1 d1) ∧ W.cell? ⟨T2, 0, none⟩ = some (.slice a2 n2 c2) ∧ W.cell? ⟨T2, 1, none⟩ = some (.slice p2 k2 d2) ∧ W.cell? ⟨T2, 2, none⟩ = some (.slice g2 z2 f2)) := fun W hW => ⟨M.cell_whole hW.1 0, M.cell_whole hW.1 1, M.cell_whole hW.2 0, M.cell_whole hW.2 1, M.cell_whole hW.2 2⟩
      clear F9
      refine wp_region_held_drew (S := fun w' => w'.cell? ⟨T1, 0, none⟩ = some (.slice a1 n1 c1) ∧ w'.cell? ⟨T1, 1, none⟩ = some (.slice p1 k1 d1) ∧ w'.cell? ⟨T2, 0, none⟩ = some (.slice a2 n2 c2) ∧ w'.cell? ⟨T2, 1, none⟩ = some (.slice p2 k2 d2) ∧ w'.cell? ⟨T2, 2, none⟩ = some (.slice g2 z2 f2)) (by kernel_rfl) ?_ (fun hHeld => ?_)
      · exact SF.out _ ⟨FD.out.k1, FD.out.k2⟩
      refine wpAnyH_take (i := 0) (oi := { dst := some 61, op := Op.move (Operand.tmp 5), type := 41, pos := "outright.go:315", after := #[], guard := none }) (v := ?_) rfl (by kernel_rfl) (by kernel_rfl) (by kernel_rfl) (fun _ _ _ h => h) (Or.inl ⟨by rfl, ?_⟩) hHeld ?_
      rotate_left
      · (intro w hSw; (try dsimp only at hSw); go_simp; try with_reducible rfl)
      try simp only [Act.put, List.setIfInBounds_toArray, List.set_cons_zero, List.set_cons_succ]
      refine wpAnyH_take (i := 1) (oi := { dst := some 62, op := Op.fieldAddr 37 (Operand.tmp 11) 0, type := 0, pos := "outright.go:315", after := #[], guard := none }) (v := ?_) rfl (by kernel_rfl) (by kernel_rfl) (by kernel_rfl) (fun _ _ _ h => h) (Or.inl ⟨by rfl, ?_⟩) hHeld ?_
      rotate_left
      · (intro w hSw; (try dsimp only at hSw); go_simp; try with_reducible rfl)
      try simp only [Act.put, List.setIfInBounds_toArray, List.set_cons_zero, List.set_cons_succ]
      refine wpAnyH_take (i := 2) (oi := { dst := some 63, op := Op.load 34 (Operand.tmp 62), type := 34, pos := "outright.go:315", after := #[{ on := 1, ground := Ground.data }], guard := none }) (v := ?_) rfl (by kernel_rfl) (by kernel_rfl) (by kernel_rfl) (fun _ _ _ h => h) (Or.inl ⟨by rfl, ?_⟩) hHeld ?_
      rotate_left
      · (intro w hSw; (try dsimp only at hSw); go_simp; try with_reducible rfl)
      try simp only [Act.put, List.setIfInBounds_toArray, List.set_cons_zero, List.set_cons_succ]
      refine wpAnyH_take (i := 3) (oi := { dst := some 64, op := Op.fieldAddr 37 (Operand.tmp 11) 1, type := 0, pos := "outright.go:315", after := #[], guard := none }) (v := ?_) rfl (by kernel_rfl) (by kernel_rfl) (by kernel_rfl) (fun _ _ _ h => h) (Or.inl ⟨by rfl, ?_⟩) hHeld ?_
      rotate_left
      · (intro w hSw; (try dsimp only at hSw); go_simp; try with_reducible rfl)
      try simp only [Act.put, List.setIfInBounds_toArray, List.set_cons_zero, List.set_cons_succ]
      refine wpAnyH_take (i := 4) (oi := { dst := some 65, op := Op.load 35 (Operand.tmp 64), type := 35, pos := "outright.go:315", after := #[{ on := 3, ground := Ground.data }], guard := none }) (v := ?_) rfl (by kernel_rfl) (by kernel_rfl) (by kernel_rfl) (fun _ _ _ h => h) (Or.inl ⟨by rfl, ?_⟩) hHeld ?_
      rotate_left
      · (intro w hSw; (try dsimp only at hSw); go_simp; try with_reducible rfl)
      try simp only [Act.put, List.setIfInBounds_toArray, List.set_cons_zero, List.set_cons_succ]
      refine wpAnyH_take (i := 5) (oi := { dst := some 66, op := Op.move (Operand.tmp 6), type := 3, pos := "outright.go:315", after := #[], guard := none }) (v := ?_) rfl (by kernel_rfl) (by kernel_rfl) (by kernel_rfl) (fun _ _ _ h => h) (Or.inl ⟨by rfl, ?_⟩) hHeld ?_
      rotate_left
      · (intro w hSw; (try dsimp only at hSw); go_simp; try with_reducible rfl)
      try simp only [Act.put, List.setIfInBounds_toArray, List.set_cons_zero, List.set_cons_succ]
      refine wpAnyH_take (i := 6) (oi := { dst := some 67, op := Op.binOp BinOp.mul 3 (Operand.const (Value.int IntKind.i64 2)) (Operand.tmp 66) 3, type := 3, pos := "outright.go:315", after := #[{ on := 5, ground := Ground.data }], guard := none }) (v := ?_) rfl (by kernel_rfl) (by kernel_rfl) (by kernel_rfl) (fun _ _ _ h => h) (Or.inl ⟨by rfl, ?_⟩) hHeld ?_
      rotate_left
      · (intro w hSw; (try dsimp only at hSw); go_simp; try with_reducible rfl)
      try simp only [Act.put, List.setIfInBounds_toArray, List.set_cons_zero, List.set_cons_succ]
      refine wpAnyH_take (i := 7) (oi := { dst := some 68, op := Op.binOp BinOp.add 3 (Operand.tmp 67) (Operand.const (Value.int IntKind.i64 1)) 3, type := 3, pos := "outright.go:315", after := #[{ on := 6, ground := Ground.data }], guard := none }) (v := ?_) rfl (by kernel_rfl) (by kernel_rfl) (by kernel_rfl) (fun _ _ _ h => h) (Or.inl ⟨by rfl, ?_⟩) hHeld ?_
      rotate_left
      · (intro w hSw; (try dsimp only at hSw); go_simp; try with_reducible rfl)
      try simp only [Act.put, List.setIfInBounds_toArray, List.set_cons_zero, List.set_cons_succ]
      refine wpAnyH_take (i := 8) (oi := { dst := some 69, op := Op.binOp BinOp.mul 3 (Operand.const (Value.int IntKind.i64 (-1000000))) (Operand.tmp 68) 3, type := 3, pos := "outright.go:315", after := #[{ on := 7, ground := Ground.data }], guard := none }) (v := ?_) rfl (by kernel_rfl) (by kernel_rfl) (by kernel_rfl) (fun _ _ _ h => h) (Or.inl ⟨by rfl, ?_⟩) hHeld ?_
      rotate_left
      · (intro w hSw; (try dsimp only at hSw); go_simp; try with_reducible rfl)
      try simp only [Act.put, List.setIfInBounds_toArray, List.set_cons_zero, List.set_cons_succ]
      refine wpAnyH_take (i := 10) (oi := { dst := some 71, op := Op.fieldAddr 47 (Operand.tmp 12) 0, type := 0, pos := "outright.go:315", after := #[], guard := none }) (v := ?_) rfl (by kernel_rfl) (by kernel_rfl) (by kernel_rfl) (fun _ _ _ h => h) (Or.inl ⟨by rfl, ?_⟩) hHeld ?_
      rotate_left
      · (intro w hSw; (try dsimp only at hSw); go_simp; try with_reducible rfl)
      try simp only [Act.put, List.setIfInBounds_toArray, List.set_cons_zero, List.set_cons_succ]
      refine wpAnyH_take (i := 11) (oi := { dst := some 72, op := Op.load 34 (Operand.tmp 71), type := 34, pos := "outright.go:315", after := #[{ on := 10, ground := Ground.data }], guard := none }) (v := ?_) rfl (by kernel_rfl) (by kernel_rfl) (by kernel_rfl) (fun _ _ _ h => h) (Or.inl ⟨by rfl, ?_⟩) hHeld ?_
      rotate_left
      · (intro w hSw; (try dsimp only at hSw); go_simp; try with_reducible rfl)
      try simp only [Act.put, List.setIfInBounds_toArray, List.set_cons_zero, List.set_cons_succ]
      refine wpAnyH_take (i := 12) (oi := { dst := some 73, op := Op.fieldAddr 47 (Operand.tmp 12) 1, type := 0, pos := "outright.go:315", after := #[], guard := none }) (v := ?_) rfl (by kernel_rfl) (by kernel_rfl) (by kernel_rfl) (fun _ _ _ h => h) (Or.inl ⟨by rfl, ?_⟩) hHeld ?_
      rotate_left
      · (intro w hSw; (try dsimp only at hSw); go_simp; try with_reducible rfl)
      try simp only [Act.put, List.setIfInBounds_toArray, List.set_cons_zero, List.set_cons_succ]
      refine wpAnyH_take (i := 13) (oi := { dst := some 74, op := Op.load 35 (Operand.tmp 73), type := 35, pos := "outright.go:315", after := #[{ on := 12, ground := Ground.data }], guard := none }) (v := ?_) rfl (by kernel_rfl) (by kernel_rfl) (by kernel_rfl) (fun _ _ _ h => h) (Or.inl ⟨by rfl, ?_⟩) hHeld ?_
      rotate_left
      · (intro w hSw; (try dsimp only at hSw); go_simp; try with_reducible rfl)
      try simp only [Act.put, List.setIfInBounds_toArray, List.set_cons_zero, List.set_cons_succ]
      refine wpAnyH_take (i := 14) (oi := { dst := some 75, op := Op.fieldAddr 47 (Operand.tmp 12) 2, type := 0, pos := "outright.go:315", after := #[], guard := none }) (v := ?_) rfl (by kernel_rfl) (by kernel_rfl) (by kernel_rfl) (fun _ _ _ h => h) (Or.inl ⟨by rfl, ?_⟩) hHeld ?_
      rotate_left
      · (intro w hSw; (try dsimp only at hSw); go_simp; try with_reducible rfl)
      try simp only [Act.put, List.setIfInBounds_toArray, List.set_cons_zero, List.set_cons_succ]
      refine wpAnyH_take (i := 15) (oi := { dst := some 76, op := Op.load 32 (Operand.tmp 75), type := 32, pos := "outright.go:315", after := #[{ on := 14, ground := Ground.data }], guard := none }) (v := ?_) rfl (by kernel_rfl) (by kernel_rfl) (by kernel_rfl) (fun _ _ _ h => h) (Or.inl ⟨by rfl, ?_⟩) hHeld ?_
      rotate_left
      · (intro w hSw; (try dsimp only at hSw); go_simp; try with_reducible rfl)
      try simp only [Act.put, List.setIfInBounds_toArray, List.set_cons_zero, List.set_cons_succ]
      refine wpAnyH_take (i := 16) (oi := { dst := some 77, op := Op.move (Operand.tmp 6), type := 3, pos := "outright.go:315", after := #[], guard := none }) (v := ?_) rfl (by kernel_rfl) (by kernel_rfl) (by kernel_rfl) (fun _ _ _ h => h) (Or.inl ⟨by rfl, ?_⟩) hHeld ?_
      rotate_left
      · (intro w hSw; (try dsimp only at hSw); go_simp; try with_reducible rfl)
      try simp only [Act.put, List.setIfInBounds_toArray, List.set_cons_zero, List.set_cons_succ]
      refine wpAnyH_take (i := 17) (oi := { dst := some 78, op := Op.binOp BinOp.mul 3 (Operand.const (Value.int IntKind.i64 2)) (Operand.tmp 77) 3, type := 3, pos := "outright.go:315", after := #[{ on := 16, ground := Ground.data }], guard := none }) (v := ?_) rfl (by kernel_rfl) (by kernel_rfl) (by kernel_rfl) (fun _ _ _ h => h) (Or.inl ⟨by rfl, ?_⟩) hHeld ?_
      rotate_left
      · (intro w hSw; (try dsimp only at hSw); go_simp; try with_reducible rfl)
      try simp only [Act.put, List.setIfInBounds_toArray, List.set_cons_zero, List.set_cons_succ]
      refine wpAnyH_take (i := 18) (oi := { dst := some 79, op := Op.binOp BinOp.add 3 (Operand.tmp 78) (Operand.const (Value.int IntKind.i64 2)) 3, type := 3, pos := "outright.go:315", after := #[{ on := 17, ground := Ground.data }], guard := none }) (v := ?_) rfl (by kernel_rfl) (by kernel_rfl) (by kernel_rfl) (fun _ _ _ h => h) (Or.inl ⟨by rfl, ?_⟩) hHeld ?_
      rotate_left
      · (intro w hSw; (try dsimp only at hSw); go_simp; try with_reducible rfl)
      try simp only [Act.put, List.setIfInBounds_toArray, List.set_cons_zero, List.set_cons_succ]
      refine wpAnyH_take (i := 19) (oi := { dst := some 80, op := Op.binOp BinOp.mul 3 (Operand.const (Value.int IntKind.i64 (-1000000))) (Operand.tmp 79) 3, type := 3, pos := "outright.go:315", after := #[{ on := 18, ground := Ground.data }], guard := none }) (v := ?_) rfl (by kernel_rfl) (by kernel_rfl) (by kernel_rfl) (fun _ _ _ h => h) (Or.inl ⟨by rfl, ?_⟩) hHeld ?_
      rotate_left
      · (intro w hSw; (try dsimp only at hSw); go_simp; try with_reducible rfl)
      try simp only [Act.put, List.setIfInBounds_toArray, List.set_cons_zero, List.set_cons_succ]
      refine wpAnyH_ready (rs := [9]) (by kernel_rfl) (by simp) ?_
      refine AllReadyH.cons (o := { dst := some 70, op := Op.call { callee := Callee.value (Operand.func 18), args := #[Operand.tmp 63, Operand.tmp 65, Operand.const (Value.slice none 0 0), Operand.tmp 69], argTypes := #[34, 35, 32, 3] }, type := 52, pos := "outright.go:315", after := #[{ on := 2, ground := Ground.data }, { on := 4, ground := Ground.data }, { on := 8, ground := Ground.data }], guard := none }) rfl (fun K hK => ?_) AllReadyH.nil
      go_simp
      go_at_call 18
      refine Calls.mono FIL.out ?_
      rintro e w10 ⟨v1, rfl, hF10⟩
      have F10 : Hid _ := hF10
      have FIM : Hid _ := hF10.fill2 M2 HM.out.2.1 HM.out.2.2
      clear hF10 FIL FD
      unfold mkC
      try go_wp2_with fail
      refine hK.out _ _ ?_ (fun hHeld_9 => ?_)
      · exact SF.out _ ⟨F10.out.k1, F10.out.k2⟩
      clear hK K
      try simp only [Act.put, List.setIfInBounds_toArray, List.set_cons_zero, List.set_cons_succ]
      refine wpAnyH_ready (rs := [20]) (by kernel_rfl) (by simp) ?_
      refine AllReadyH.cons (o := { dst := some 81, op := Op.call { callee := Callee.value (Operand.func 18), args := #[Operand.tmp 72, Operand.tmp 74, Operand.tmp 76, Operand.tmp 80], argTypes := #[34, 35, 32, 3] }, type := 52, pos := "outright.go:315", after := #[{ on := 11, ground := Ground.data }, { on := 13, ground := Ground.data }, { on := 15, ground := Ground.data }, { on := 19, ground := Ground.data }, { on := 9, ground := Ground.chain }], guard := none }) rfl (fun K hK => ?_) AllReadyH.nil
      go_simp
      go_at_call 18
      refine Calls.mono FIM.out ?_
      rintro e w11 ⟨v2, rfl, hF11⟩
      have F11 : Hid _ := hF11
      clear hF11 FIM F10
      unfold mkC
      try go_wp2_with fail
      refine hK.out _ _ ?_ (fun hHeld_20 => ?_)
      · exact SF.out _ ⟨F11.out.k1, F11.out.k2⟩
      clear hK K
      try simp only [Act.put, List.setIfInBounds_toArray, List.set_cons_zero, List.set_cons_succ]
      refine wpAnyH_ready (rs := [21]) (by kernel_rfl) (by simp) ?_
      refine AllReadyH.cons (o := { dst := some 82, op := Op.buildSlice 41 2 #[(0, Operand.tmp 70), (1, Operand.tmp 81)], type := 41, pos := "outright.go:315", after := #[{ on := 9, ground := Ground.data }, { on := 20, ground := Ground.data }], guard := none }) rfl (fun K hK => ?_) AllReadyH.nil
      have FA : Hid _ := F11.out.lay
      go_simp
      refine hK.out _ _ ?_ (fun hHeld_21 => ?_)
      · exact SF.out _ FA.out.1
      clear hK K
      try simp only [Act.put, List.setIfInBounds_toArray, List.set_cons_zero, List.set_cons_succ]
      refine wpAnyH_ready (rs := [22]) (by kernel_rfl) (by simp) ?_
      refine AllReadyH.cons (o := { dst := some 83, op := Op.call { callee := Callee.builtin Builtin.append, args := #[Operand.tmp 61, Operand.tmp 82], argTypes := #[41, 41] }, type := 41, pos := "outright.go:315", after := #[{ on := 0, ground := Ground.data }, { on := 21, ground := Ground.data }, { on := 20, ground := Ground.chain }], guard := none }) rfl (fun K hK => ?_) AllReadyH.nil
      obtain ⟨hKA, gA, cA2, w12, hr12, hF12, hk12⟩ := FA.out
      have K12 : Hid _ := hk12
      have F12 : Hid _ := hF12
      have R12 : Hid _ := hr12
      clear hKA hr12 hF12 hk12 FA
      rw [RL.out] at R12
      refine step_append_run (w := (w11.alloc (.cells #[.int .i64 v1.m, .slice v1.a v1.n v1.c, .slice v1.p v1.k v1.d, .slice v1.x v1.nx v1.cx, .slice v1.a2 v1.n2 v1.c2, .slice v1.p2 v1.k2 v1.d2, .slice v1.y v1.nx v1.cy, .int .i64 v2.m, .slice v2.a v2.n v2.c, .slice v2.p v2.k v2.d, .slice v2.x v2.nx v2.cx, .slice v2.a2 v2.n2 v2.c2, .slice v2.p2 v2.k2 v2.d2, .slice v2.y v2.nx v2.cy] 52))) rfl _ _ 41 rfl _ _ _ _ (by rfl) (by rfl) R12.out ?_
      refine hK.out _ _ ?_ (fun hHeld_22 => ?_)
      · exact SF.out _ K12.out
      clear hK K
      try simp only [Act.put, List.setIfInBounds_toArray, List.set_cons_zero, List.set_cons_succ]
      refine wpAnyH_take (i := 23) (oi := { dst := some 5, op := Op.assign (Operand.tmp 83), type := 41, pos := "outright.go:315", after := #[{ on := 22, ground := Ground.data }, { on := 22, ground := Ground.chain }, { on := 0, ground := Ground.phase }, { on := 1, ground := Ground.phase }, { on := 2, ground := Ground.phase }, { on := 3, ground := Ground.phase }, { on := 4, ground := Ground.phase }, { on := 5, ground := Ground.phase }, { on := 6, ground := Ground.phase }, { on := 7, ground := Ground.phase }, { on := 8, ground := Ground.phase }, { on := 9, ground := Ground.phase }, { on := 10, ground := Ground.phase }, { on := 11, ground := Ground.phase }, { on := 12, ground := Ground.phase }, { on := 13, ground := Ground.phase }, { on := 14, ground := Ground.phase }, { on := 15, ground := Ground.phase }, { on := 16, ground := Ground.phase }, { on := 17, ground := Ground.phase }, { on := 18, ground := Ground.phase }, { on := 19, ground := Ground.phase }, { on := 20, ground := Ground.phase }, { on := 21, ground := Ground.phase }, { on := 22, ground := Ground.phase }], guard := none }) (v := ?_) rfl (by kernel_rfl) (by kernel_rfl) (by kernel_rfl) (fun _ _ _ h => h) (Or.inl ⟨by rfl, ?_⟩) hHeld_22 ?_
      rotate_left
      · (intro w hSw; (try dsimp only at hSw); go_simp; try with_reducible rfl)
      try simp only [Act.put, List.setIfInBounds_toArray, List.set_cons_zero, List.set_cons_succ]
      refine wpAnyH_done (by kernel_rfl) ?_ _
      clear SF
      have RF : Hid (FrR w12.heap.size w w12 P1 P2 l1 l1 (.slice (some ⟨gA, 0, none⟩) (2 * i + 2) cA2) (vs ++ [v1, v2]) ∧ (vs ++ [v1, v2]).length = 2 * i + 2) := ⟨by have h := F12.out; rw [RL.out] at h; exact h, by rw [List.length_append, RL.out]; rfl⟩
      clear F12 R12 K12 F11 RL HM e1 e2 e3 e4 e5
      go_upto_region 16 with fail
      go_cut [94] (fun v94 wx => v94 = .bool false ∧ Hid (Below w12.heap.size w12 wx))
      case first => as_aux_lemma =>
        have SC1 : Hid _ := scope_law RF.out.1.st1 G1.out (by omega)
        have SC2 : Hid (∀ W, Below w12.heap.size w12 W → _) := fun W hW => scope_law (RF.out.1.st2.below hW) G1.out (by omega)
        go_wp2_with fail
        refine Calls.mono SC1.out ?_
        rintro e w13 ⟨hb13, a9, n9, c9, p9, k9, d9, ts9, m9, rfl, hs9⟩
        have H13 : Hid (Below w12.heap.size w12 w13 ∧ ScopeL w13 l1 a9 p9 n9 k9 ts9 m9) := ⟨hb13, hs9⟩
        clear hb13 hs9 SC1
        go_wp2_with fail
        refine Calls.mono (SC2.out _ H13.out.1) ?_
        rintro e w14 ⟨hb14, a10, n10, c10, p10, k10, d10, ts10, m10, rfl, hs10⟩
        have H14 : Hid (Below w12.heap.size w12 w14) := H13.out.1.trans (hb14.mono H13.out.1.size)
        have SAM : Hid _ := same_told G1.out (by omega) (H13.out.2.under hb14) hs10 c9 d9 c10 d10
        clear hb14 hs10 SC2 H13
        go_wp2_with fail
        refine Calls.mono SAM.out ?_
        rintro e w15 ⟨rfl, hb15⟩
        have H15 : Hid (Below w12.heap.size w12 w15) := H14.out.trans (hb15.mono H14.out.size)
        clear hb15 SAM H14
        go_wp2_with fail
        go_meet
        exact ⟨by first | rfl | simp, H15.out⟩
      case rest => as_aux_lemma =>
        obtain ⟨rfl, hbc⟩ := hcut
        have RC : Hid (FrR wc.heap.size w wc P1 P2 l1 l1 (.slice (some ⟨gA, 0, none⟩) (2 * i + 2) cA2) (vs ++ [v1, v2]) ∧ (vs ++ [v1, v2]).length = 2 * i + 2) := ⟨(RF.out.1.below hbc.out).up hbc.out.size (Nat.le_refl _), RF.out.2⟩
        clear hbc RF
        go_wp2_with fail
        go_loopw [14] (fun v14 wx => ∃ k : Nat, k ≤ 2 * i + 2 ∧ v14 = .int .i64 k ∧ Hid (Below wc.heap.size wc wx)) (fun v14 _ => 2 * i + 2 - (intOf v14).toNat)
        case atStart => exact ⟨0, Nat.zero_le _, rfl, Below.refl _ _⟩
        case round =>
          obtain ⟨k, hk, rfl, hB⟩ := hrel
          have RD : Hid (FrR wc.heap.size w wr P1 P2 l1 l1 (.slice (some ⟨gA, 0, none⟩) (2 * i + 2) cA2) (vs ++ [v1, v2])) := RC.out.1.below hB.out
          by_cases hlk : k < 2 * i + 2
          · have n3 : (k : Int) < 2 * (i : Int) + 2 := by omega
            have n4 : (k : Int) < ((2 * i + 2 : Nat) : Int) := by omega
            obtain ⟨v, hv⟩ : ∃ v, (vs ++ [v1, v2])[k]? = some v := ⟨_, List.getElem?_eq_getElem (by rw [RC.out.2]; exact hlk)⟩
            obtain ⟨⟨H, hM⟩, q0, q1, q2, q3, q4, q5, q6⟩ := RD.out.mark hv
            have STI : Hid _ := still_any wr H v hM
            unfold mkC at STI
            clear hv hM
            go_wp2_with fail
            refine Calls.mono STI.out ?_
            rintro e w16 ⟨rfl, hb16⟩
            have B16 : Hid (Below wc.heap.size wc w16) := hB.out.trans (hb16.mono hB.out.size)
            clear hb16 STI hB RD RC
            go_wp2
            exact ⟨⟨k + 1, by omega, by go_num, B16.out⟩, by simp [intOf]; omega⟩
          · have n3 : ¬ (k : Int) < 2 * (i : Int) + 2 := by omega
            have n4 : ¬ (k : Int) < ((2 * i + 2 : Nat) : Int) := by omega
            have RE : Hid (FrL w wr P1 P2 (i + 1) (.slice (some ⟨gA, 0, none⟩) (2 * i + 2) cA2)) := ⟨l1, _, G1.out, by rw [RC.out.2]; omega, RD.out.up (by have := hB.out.size; omega) (Nat.le_refl _)⟩
            clear RD RC hB
            go_wp2
            exact ⟨⟨i + 1, some ⟨gA, 0, none⟩, cA2, by omega, rfl, by go_num, RE.out⟩, by simp [intOf]; omega⟩
    · have n1 : ¬ (i : Int) < (n : Int) := by omega
      have BF : Hid (Below w.heap.size w wr) := R0.out.1.b
      clear R0
      go_wp2
      go_ret
      exact ⟨rfl, BF.out⟩
end Go.Proofs.YtkejjiilcoacfaaGreat
